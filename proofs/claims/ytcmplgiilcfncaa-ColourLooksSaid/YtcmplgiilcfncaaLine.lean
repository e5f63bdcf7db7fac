/-
  Line, Inverse and Then.
-/
import Derived.Test.YtcmplgiilcfncaaBuild
import Derived.Test.YtcmplgiilcfncaaSearch
namespace Go.Proofs.Ytcmplgiilcfncaa
open Go.RowKit Go.Shelf
variable {w : World}

def lineL (n : Int) : List Int := if vc n then lin n.toNat else []
/-- 'a curve is handed back' -/
def GotC (c : List Int) (w : World) (e : Ending) (w' : World) : Prop := ∃ po n cap, e = .returned (.slice po n cap) ∧ Cm w' (.slice po n cap) c ∧ Below w.heap.size w w'
theorem id_any (x y : Int) (w : World) : Calls Try.prog 42 #[.int .i64 x, .int .i64 y] w fun e w' => e = .returned (.int .i64 y) ∧ w = w' := by
  go_enter Try.func42, Try.ntmps42
  go_wp2
  go_ret
  exact ⟨rfl, rfl⟩
theorem vc_nat {n : Int} (h : vc n = true) : ∃ m : Nat, n = m ∧ 2 ≤ m ∧ m ≤ 257 := by
  have := (vc_iff n).1 h
  exact ⟨n.toNat, by omega, by omega, by omega⟩
theorem line_any (n : Int) (w : World) : Calls Try.prog 19 #[.int .i64 n] w (GotC (lineL n) w) := by
  cases hv : vc n
  · have HV := Lib.hid hv
    have HL : Hid (lineL n = []) := by unfold Hid lineL; rw [hv]; rfl
    clear hv
    go_enter Try.func19, Try.ntmps19
    go_wp2_with (go_at_call 40; (with_reducible refine (count_any _ _).mono ?_); rintro e w' ⟨rfl, rfl⟩; rw [HV.out])
    go_ret
    exact ⟨none, 0, 0, rfl, by rw [HL.out]; exact cm_nil _, Below.refl _ _⟩
  · obtain ⟨m, rfl, h2, h3⟩ := vc_nat hv
    have HV := Lib.hid hv
    have HL : Hid (lineL m = (List.range m).map fun i => arg i m) := by unfold Hid lineL; rw [hv]; rfl
    have HB := Lib.hid (fun V => build_any 42 #[] m (fun i => arg i m) V h2 h3 (enters_of Try.func42 (by kernel_rfl) rfl) (fun V2 _ i _ => (id_any _ _ V2).mono fun e w' ⟨h, h'⟩ => ⟨h, by rw [← h']; exact Below.refl _ _⟩))
    clear hv
    go_enter Try.func19, Try.ntmps19
    go_wp2_with (first
      | (go_at_call 40; (with_reducible refine (count_any _ _).mono ?_); rintro e w' ⟨rfl, rfl⟩; rw [HV.out])
      | (go_at_call 41; refine (HB.out _).mono ?_; rintro e w2 ⟨b, rfl, hc2, hb2⟩; have HC2 := Lib.hid hc2; have HB2 := Lib.hid hb2; clear hc2 hb2))
    go_ret
    exact ⟨_, _, _, rfl, by rw [HL.out]; exact HC2.out, HB2.out⟩

/-- the error of a call that makes a curve of n points from curves of which 'ok' says whether all are valid -/
def errc (ok : Bool) (n : Int) : Int := if ok then (if vc n then 0 else 1) else 21
end Go.Proofs.Ytcmplgiilcfncaa
