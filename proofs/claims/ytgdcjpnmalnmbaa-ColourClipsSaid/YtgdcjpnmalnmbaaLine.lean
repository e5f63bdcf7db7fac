/-
  Line, Inverse and Then.
-/
import Derived.Test.YtgdcjpnmalnmbaaBuild
import Derived.Test.YtgdcjpnmalnmbaaSearch
namespace Go.Proofs.Ytgdcjpnmalnmbaa
open Go.RowKit Go.Shelf
variable {w : World}

def lineL (n : Int) : List Int := if vc n then lin n.toNat else []
/-- 'a curve is handed back' -/
def GotC (c : List Int) (w : World) (e : Ending) (w' : World) : Prop := ∃ po n cap, e = .returned (.slice po n cap) ∧ Cm w' (.slice po n cap) c ∧ Below w.heap.size w w'
theorem id_any (x y : Int) (w : World) : Calls Try.prog 35 #[.int .i64 x, .int .i64 y] w fun e w' => e = .returned (.int .i64 y) ∧ w = w' := by
  go_enter Try.func35, Try.ntmps35
  go_wp2
  go_ret
  exact ⟨rfl, rfl⟩
theorem vc_nat {n : Int} (h : vc n = true) : ∃ m : Nat, n = m ∧ 2 ≤ m ∧ m ≤ 257 := by
  have := (vc_iff n).1 h
  exact ⟨n.toNat, by omega, by omega, by omega⟩
theorem line_any (n : Int) (w : World) : Calls Try.prog 12 #[.int .i64 n] w (GotC (lineL n) w) := by
  cases hv : vc n
  · have HV := Lib.hid hv
    have HL : Hid (lineL n = []) := by unfold Hid lineL; rw [hv]; rfl
    clear hv
    go_enter Try.func12, Try.ntmps12
    go_wp2_with (go_at_call 34; (with_reducible refine (count_any _ _).mono ?_); rintro e w' ⟨rfl, rfl⟩; rw [HV.out])
    go_ret
    exact ⟨none, 0, 0, rfl, by rw [HL.out]; exact cm_nil _, Below.refl _ _⟩
  · obtain ⟨m, rfl, h2, h3⟩ := vc_nat hv
    have HV := Lib.hid hv
    have HL : Hid (lineL m = (List.range m).map fun i => arg i m) := by unfold Hid lineL; rw [hv]; rfl
    have HB := Lib.hid (fun V => build_any 35 #[] m (fun i => arg i m) V h2 h3 (enters_of Try.func35 (by kernel_rfl) rfl) (fun V2 _ i _ => (id_any _ _ V2).mono fun e w' ⟨h, h'⟩ => ⟨h, by rw [← h']; exact Below.refl _ _⟩))
    clear hv
    go_enter Try.func12, Try.ntmps12
    go_wp2_with (first
      | (go_at_call 34; (with_reducible refine (count_any _ _).mono ?_); rintro e w' ⟨rfl, rfl⟩; rw [HV.out])
      | (go_at_call 32; refine (HB.out _).mono ?_; rintro e w2 ⟨b, rfl, hc2, hb2⟩; have HC2 := Lib.hid hc2; have HB2 := Lib.hid hb2; clear hc2 hb2))
    go_ret
    exact ⟨_, _, _, rfl, by rw [HL.out]; exact HC2.out, HB2.out⟩

/-- the error of a call that makes a curve of n points from curves of which 'ok' says whether all are valid -/
def errc (ok : Bool) (n : Int) : Int := if ok then (if vc n then 0 else 1) else 21
set_option maxRecDepth 100000 in
set_option maxHeartbeats 2000000 in
theorem check_any (m b : Nat) (vs : Nat → Value) (cs : Nat → List Int) (rs : Nat → Bool) (ok : Bool) (n : Int) (w : World) (hm : m ≤ 100) (hb : b < w.heap.size) (hcell : ∀ j, j < m → w.cell? ⟨b, j, none⟩ = some (vs j)) (hcm : ∀ j, j < m → Cm w (vs j) (cs j))
    (hrs : ∀ j, j < m → (rs j = true ↔ Cv (cs j))) (hok : ok = true ↔ ∀ j, j < m → rs j = true) :
    Calls Try.prog 31 #[.int .i64 n, .slice (some ⟨b, 0, none⟩) m m] w fun e w' => e = .returned (.int .i64 (errc ok n)) ∧ Below w.heap.size w w' := by
  have HC : Hid (∀ V, Below w.heap.size w V → ∀ j, j < m → ∃ po k cap, V.cell? ⟨b, j, none⟩ = some (.slice po k cap) ∧ Calls Try.prog 30 #[.slice po k cap] V fun e w' => e = .returned (.bool (rs j)) ∧ Below w.heap.size w w') := fun V hV j hj => by
    have h1 := hcell j hj
    have h2 := (hcm j hj).later hV
    have h3 := (hV.cell (p := ⟨b, j, none⟩) hb).trans h1
    have h4 := Below.call hV (valid_any (cs j) (vs j) (rs j) V h2 (hrs j hj))
    obtain ⟨po, cap, e, _⟩ := h2
    rw [e] at h3 h4
    exact ⟨po, _, cap, h3, h4⟩
  have HO := Lib.hid hok
  clear hcell hcm hrs hok
  cases hv : vc n
  all_goals
    have HV := Lib.hid hv; clear hv
    go_enter Try.func31, Try.ntmps31
    go_wp2
    go_loopw [9] (fun i wr => ∃ k : Nat, k ≤ m ∧ i = .int .i64 k ∧ Hid (∀ j, j < k → rs j = true) ∧ Hid (Below w.heap.size w wr)) (fun i _ => m - (intOf i).toNat)
    case atStart => exact ⟨0, by omega, rfl, fun j hj => absurd hj (Nat.not_lt_zero _), Below.refl _ _⟩
    case round =>
      obtain ⟨k, hk, rfl, HA, HB⟩ := hrel
      by_cases hlt : k < m
      · obtain ⟨po, q, cap, hc, hcall⟩ := HC.out _ HB.out k hlt
        have HCall := Lib.hid hcall; clear hcall
        cases hr : rs k
        · have HE : Hid (errc ok n = 21) := by
            unfold Hid errc
            rw [if_neg]
            intro h
            have := HO.out.1 h k hlt
            rw [hr] at this; cases this
          rw [hr] at HCall
          clear hr
          go_wp2_with (go_at_call 30; (with_reducible refine HCall.out.mono ?_); rintro e w2 ⟨rfl, hb2⟩; have HB2 := Lib.hid hb2; clear hb2)
          go_ret
          exact ⟨ret_int (by rw [HE.out]), HB2.out⟩
        · have HA2 : Hid (∀ j, j < k + 1 → rs j = true) := fun j hj => by
            by_cases he : j = k
            · rw [he]; exact hr
            · exact HA.out j (by omega)
          rw [hr] at HCall
          clear hr
          go_wp2_with (go_at_call 30; (with_reducible refine HCall.out.mono ?_); rintro e w2 ⟨rfl, hb2⟩; have HB2 := Lib.hid hb2; clear hb2)
          go_roundw
          case rel => exact ⟨k + 1, by omega, by go_num, HA2, HB2⟩
          case measure => simp [intOf]; omega
      · obtain rfl : k = m := by omega
        have ho : Hid (ok = true) := HO.out.2 HA.out
        go_wp2_with (go_at_call 34; (with_reducible refine (count_any _ _).mono ?_); rintro e w' ⟨rfl, rfl⟩; rw [HV.out])
        go_ret
        exact ⟨ret_int (by unfold errc; rw [ho.out, HV.out]; rfl), HB.out⟩
end Go.Proofs.Ytgdcjpnmalnmbaa
