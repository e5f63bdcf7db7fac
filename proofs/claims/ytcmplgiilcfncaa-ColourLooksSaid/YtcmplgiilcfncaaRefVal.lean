/-
  The reference's value, Valid and At; the program's At.
-/
import Derived.Test.YtcmplgiilcfncaaInt
namespace Go.Proofs.Ytcmplgiilcfncaa
open Go.RowKit
variable {w : World}

theorem inter_any (c : List Int) (v : Value) (x : Nat) (w : World) (hv : Cv c) (hc : Cm w v c) (hx : x ≤ 65535) :
    Calls Try.prog 85 #[v, .int .i64 x] w fun e w' => e = .returned (.int .i64 (val c x)) ∧ ∃ q, w' = w.drewN q := by
  obtain ⟨b, off, cap, rfl, _, _, hr⟩ := hc.row (by have := hv.two; omega)
  exact inter_row c _ b off cap x w hv rfl hr hx
theorem quiet_below {P : Program} {f : FuncId} {args : Array Value} {w : World} {v : Value} (h : Calls P f args w fun e w' => e = .returned v ∧ ∃ q, w' = w.drewN q) :
    Calls P f args w fun e w' => e = .returned v ∧ Below w.heap.size w w' := h.mono fun _ _ ⟨h1, q, h2⟩ => ⟨h1, by rw [h2]; exact belowN q⟩

/-- the argument, clamped -/
def mx0 (x : Int) : Int := if (0 : Int) > x then 0 else x
def clp (x : Int) : Nat := (if (65535 : Int) < mx0 x then 65535 else mx0 x).toNat
theorem clp_le (x : Int) : clp x ≤ 65535 := by unfold clp mx0; (repeat' split) <;> omega
theorem clp_in {x : Int} (h0 : 0 ≤ x) (h1 : x ≤ 65535) : (clp x : Int) = x := by unfold clp mx0; (repeat' split) <;> omega
theorem clp_nat {x : Nat} (h1 : x ≤ 65535) : clp x = x := by have := clp_in (x := x) (by omega) (by omega); omega
theorem clp_low {x : Int} (h0 : x ≤ 0) : clp x = 0 := by unfold clp mx0; (repeat' split) <;> omega
theorem clp_high {x : Int} (h0 : 65535 ≤ x) : clp x = 65535 := by unfold clp mx0; (repeat' split) <;> omega
theorem run_mx0 (x : Int) (ts : Array TypeId) (t : TypeId) (w : World) : (Builtin.max_ ts t #[.int .i64 x, .int .i64 0]).run Try.prog w = .ok (.int .i64 (mx0 x)) w := by unfold mx0; simp only [run_max_int2]
theorem run_clp (x : Int) (ts : Array TypeId) (t : TypeId) (w : World) : (Builtin.min_ ts t #[.int .i64 (mx0 x), .int .i64 65535]).run Try.prog w = .ok (.int .i64 (clp x)) w := by
  have : (clp x : Int) = if (65535 : Int) < mx0 x then 65535 else mx0 x := by unfold clp mx0; (repeat' split) <;> omega
  rw [this]; simp only [run_min_int2]
/-- what At returns -/
def atv (r : Bool) (c : List Int) (x : Int) : Int := if r then val c (clp x) else 0
set_option maxHeartbeats 1000000 in
theorem at_any (c : List Int) (v : Value) (r : Bool) (x : Int) (w : World) (hc : Cm w v c) (hr : r = true ↔ Cv c) :
    Calls Try.prog 80 #[v, .int .i64 x] w fun e w' => e = .returned (.int .i64 (atv r c x)) ∧ Below w.heap.size w w' := by
  have HV := Lib.hid (valid_any c v r w hc hr)
  cases r
  · clear hr
    obtain ⟨po, cap, rfl, _⟩ := hc
    go_enter Try.func80, Try.ntmps80
    go_wp2_with (go_at_call 53; (with_reducible refine HV.out.mono ?_); rintro e w' ⟨rfl, hb⟩)
    go_ret
    exact ⟨rfl, hb⟩
  · have HI : Hid (∀ w', Below w.heap.size w w' → Calls Try.prog 85 #[v, .int .i64 (clp x)] w' fun e w2 => e = .returned (.int .i64 (atv true c x)) ∧ Below w.heap.size w w2) := fun w' hb =>
      Below.call hb (quiet_below (inter_any c v (clp x) w' (hr.1 rfl) (hc.later hb) (clp_le x)))
    clear hr
    obtain ⟨po, cap, rfl, _⟩ := hc
    generalize atv true c x = z at HI ⊢
    have h1 := run_mx0 x
    have h2 := run_clp x
    go_enter Try.func80, Try.ntmps80
    go_wp2_with (first
      | (go_at_call 53; (with_reducible refine HV.out.mono ?_); rintro e w' ⟨rfl, hb⟩)
      | (go_at_call 85; (with_reducible refine (HI.out _ ?_).mono ?_); (focus assumption); rintro e w2 ⟨rfl, hb2⟩))
    go_ret
    exact ⟨rfl, hb2⟩
end Go.Proofs.Ytcmplgiilcfncaa
