/-
  Need and Spread agree with the reference's; Local and Clear.
-/
import Derived.Test.YtbodmeiecdomfaaGreatWArea
import Derived.Test.YtbodmeiecdomfaaGreatWChk
namespace Go.Proofs.YtbodmeiecdomfaaGreat.W
open Go.RowKit
set_option maxRecDepth 100000
variable {W w w' : World} {L : List (Nat × Obj)}

/-- a number of 64 bits -/
def I64 (x : Int) : Prop := -9223372036854775808 ≤ x ∧ x ≤ 9223372036854775807
/-- what the fields of a valid filter without a window say -/
theorem vf_zero {k r d v : Int} {ks cs : List Int} (h : vf k r ks d v cs = true) (hw : win k = false) (h8 : k ≠ 8) : r = 0 := by
  have hk : ¬(1 ≤ k ∧ k ≤ 4) := by intro h'; simp [win, h'.1, h'.2] at hw
  rcases (by omega : k = 5 ∨ k = 6 ∨ k = 7 ∨ (k ≠ 1 ∧ k ≠ 2 ∧ k ≠ 3 ∧ k ≠ 4 ∧ k ≠ 5 ∧ k ≠ 6 ∧ k ≠ 7)) with rfl | rfl | rfl | ⟨a1, a2, a3, a4, a5, a6, a7⟩
  · simp [vf, nof] at h; omega
  · simp [vf, nof] at h; omega
  · simp [vf, nof] at h; omega
  · rw [vf_other a1 a2 a3 a4 a5 a6 a7 h8] at h; exact absurd h (by decide)
theorem rfa_eq {k r d v q0 q1 q2 q3 s : Int} {ks cs : List Int} (i0 : I64 q0) (i1 : I64 q1) (i2 : I64 q2) (i3 : I64 q3) : rfa s (vf k r ks d v cs) (R.emp q0 q1 q2 q3) k r v q0 q1 q2 q3 = rch s (vf k r ks d v cs) k r v q0 q1 q2 q3 := by
  unfold rfa rch
  cases hb : vf k r ks d v cs
  · rfl
  · simp only [if_true]
    cases he : R.emp q0 q1 q2 q3
    · simp only [Bool.false_eq_true, if_false]
      by_cases h8 : k = 8
      · subst h8
        have : win 8 = false := rfl
        simp [this]
      · cases hw : win k
        · have := vf_zero hb hw h8
          subst this
          simp only [h8, if_false, Bool.false_eq_true, R.gro, he, R.nrm, Int.sub_zero, Int.add_zero, wrap_in i0, wrap_in i1, wrap_in i2, wrap_in i3]
        · simp only [h8, if_false, if_true]
    · simp [R.mov, R.gro, he]
theorem clear_any (k r d v : Int) (ks cs : List Int) (K C : Value) (w : World) (hK : Cm w K ks) (hC : Cm w C cs) : Calls Tryz.prog 10 #[fv k r K d v C] w fun e w' => e = .returned (.bool (vf k r ks d v cs)) ∧ Below w.heap.size w w' := by
  have HV : Hid (∀ V, Below w.heap.size w V → Calls Tryz.prog 7 #[fv k r K d v C] V fun e w' => e = .returned (.bool (vf k r ks d v cs)) ∧ Below V.heap.size V w') := fun V h => fvalid_any k r d v ks cs K C V (hK.later h) (hC.later h)
  clear hK hC
  generalize vf k r ks d v cs = b at HV ⊢
  go_enter Tryz.func10, Tryz.ntmps10
  go_wp2_with (go_at_call 7; (with_reducible refine (bcall (w0 := w) ?_ (HV.out _ ?_)).mono ?_); (focus with_reducible exact below1); (focus with_reducible exact below1); rintro e w' ⟨rfl, hb, hb'⟩)
  exact bodyPost_ret (v := .bool b) (by simp [results, Tryz.results10, go_sem, *]) rfl ⟨rfl, by assumption⟩
theorem bne_yes {a b : Int} (h : a ≠ b) : (a != b) = true := by simpa using h
/-- the reference's Local -/
def lcl (b : Bool) (k r v : Int) : Bool := b && decide (r = 0) && (!decide (k = 8) || decide (v = 0))
set_option maxHeartbeats 4000000 in
theorem rlocal_any (k r d v : Int) (ks cs : List Int) (K C : Value) (w : World) (hK : Cm w K ks) (hC : Cm w C cs) : Calls Tryz.prog 9 #[fv k r K d v C] w fun e w' => e = .returned (.bool (lcl (vf k r ks d v cs) k r v)) ∧ Below w.heap.size w w' := by
  have HV : Hid (∀ V, Below w.heap.size w V → Calls Tryz.prog 6 #[fv k r K d v C] V fun e w' => e = .returned (.bool (vf k r ks d v cs)) ∧ Below V.heap.size V w') := fun V h => rfvalid_any k r d v ks cs K C V (hK.later h) (hC.later h)
  clear hK hC
  generalize vf k r ks d v cs = b at HV ⊢
  have HD : Hid (lcl b k r v = (b && decide (r = 0) && (!decide (k = 8) || decide (v = 0)))) := rfl
  generalize lcl b k r v = z at HD ⊢
  cases b <;> by_cases hr : r = 0 <;> by_cases hk : k = 8 <;> by_cases hv : v = 0
  all_goals
    have HD2 := HD.out
    simp only [hr, hk, hv, decide_true, decide_false, Bool.true_and, Bool.false_and, Bool.and_true, Bool.and_false, Bool.not_true, Bool.not_false, Bool.or_true, Bool.or_false, Bool.true_or, Bool.false_or] at HD2
    clear HD
    (try subst hr)
    (try subst hk)
    (try subst hv)
    (try replace hr := beq_no hr)
    (try have hk2 := bne_yes hk)
    (try replace hk := beq_no hk)
    (try replace hv := beq_no hv)
    have HE := Lib.hid HD2; clear HD2
    go_enter Tryz.func9, Tryz.ntmps9
    go_wp2_with (go_at_call 6; (with_reducible refine (bcall (w0 := w) ?_ (HV.out _ ?_)).mono ?_); (focus with_reducible first | exact below1 | exact below2); (focus with_reducible first | exact below1 | exact below2); rintro e w' ⟨rfl, hb, hb'⟩; obtain ⟨hc, hf⟩ := bcell hb'; have hz0 : w.heap.size < w'.heap.size := (by have := hb'.size; (try simp at this); omega))
    exact bodyPost_ret (v := .bool z) (by rw [HE.out]; simp [results, Tryz.results9, go_sem, *]) rfl ⟨rfl, by assumption⟩
/-- Local: Need of the place at the origin is that place -/
def isOne (z : R.Rc) : Bool := decide (z.x0 = 0) && decide (z.y0 = 0) && decide (z.x1 = 1) && decide (z.y1 = 1)
set_option maxHeartbeats 4000000 in
theorem local_any (k r d v : Int) (ks cs : List Int) (K C : Value) (w : World) (hK : Cm w K ks) (hC : Cm w C cs) : Calls Tryz.prog 8 #[fv k r K d v C] w fun e w' => e = .returned (.bool (isOne (rch (-1) (vf k r ks d v cs) k r v 0 0 1 1))) ∧ Below w.heap.size w w' := by
  have HR : Hid (∀ V, Below w.heap.size w V → Calls Tryz.prog 15 #[fv k r K d v C, R.rv 0 0 1 1] V fun e w' => e = .returned (rch (-1) (vf k r ks d v cs) k r v 0 0 1 1).v ∧ Below V.heap.size V w') := fun V h => need_any k r d v 0 0 1 1 ks cs K C V (hK.later h) (hC.later h)
  generalize rch (-1) (vf k r ks d v cs) k r v 0 0 1 1 = z at HR ⊢
  clear hK hC
  obtain ⟨z0, z1, z2, z3⟩ := z
  have HD : Hid (isOne ⟨z0, z1, z2, z3⟩ = (decide (z0 = 0) && decide (z1 = 0) && decide (z2 = 1) && decide (z3 = 1))) := rfl
  generalize isOne ⟨z0, z1, z2, z3⟩ = y at HD ⊢
  rcases (by omega : z0 ≠ 0 ∨ (z0 = 0 ∧ z1 ≠ 0) ∨ (z0 = 0 ∧ z1 = 0 ∧ z2 ≠ 1) ∨ (z0 = 0 ∧ z1 = 0 ∧ z2 = 1 ∧ z3 ≠ 1) ∨ (z0 = 0 ∧ z1 = 0 ∧ z2 = 1 ∧ z3 = 1)) with h0 | ⟨h0, h1⟩ | ⟨h0, h1, h2⟩ | ⟨h0, h1, h2, h3⟩ | ⟨h0, h1, h2, h3⟩
  all_goals
    have HD2 := HD.out
    simp only [*, decide_true, decide_false, Bool.true_and, Bool.false_and, Bool.and_true, Bool.and_false] at HD2
    clear HD
    (try subst h0)
    (try subst h1)
    (try subst h2)
    (try subst h3)
    (try replace h0 := beq_no h0)
    (try replace h1 := beq_no h1)
    (try replace h2 := beq_no h2)
    (try replace h3 := beq_no h3)
    have HE := Lib.hid HD2; clear HD2
    go_enter Tryz.func8, Tryz.ntmps8
    go_upto_region 2 with fail
    go_region_with (go_at_call 15; (with_reducible refine (bcall (w0 := w) ?_ (HR.out _ ?_)).mono ?_); (focus with_reducible exact below2.drew); (focus with_reducible exact below2.drew); rintro e w2 ⟨rfl, hb2, hb2'⟩; obtain ⟨hc2, hf2⟩ := bcell hb2'; have hy2 : w.heap.size + 1 < w2.heap.size := (by have := hb2'.size; (try simp at this); omega))
    all_goals go_wp2
    all_goals exact bodyPost_ret (v := .bool y) (by rw [HE.out]; simp [results, Tryz.results8, go_sem, *]) rfl ⟨rfl, by first | assumption | exact below2.drew.trans (hb2'.mono (by simp; omega))⟩
end Go.Proofs.YtbodmeiecdomfaaGreat.W
