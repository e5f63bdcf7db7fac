/-
  Need and Spread agree with the reference's; Local and Clear.
-/
import Derived.Test.YtihfpflnnhiikaaGreatWArea
import Derived.Test.YtihfpflnnhiikaaGreatWChk
namespace Go.Proofs.YtihfpflnnhiikaaGreat.W
open Go.RowKit
set_option maxRecDepth 100000
variable {W w w' : World} {L : List (Nat × Obj)}

set_option maxHeartbeats 4000000 in
theorem rneed_any (k r d v q0 q1 q2 q3 : Int) (ks cs : List Int) (K C : Value) (w : World) (hK : Cm w K ks) (hC : Cm w C cs) : Calls Tryz.prog 8 #[fv k r K d v C, R.rv q0 q1 q2 q3] w fun e w' => e = .returned (rfa (-1) (vf k r ks d v cs) (R.emp q0 q1 q2 q3) k r v q0 q1 q2 q3).v ∧ Below w.heap.size w w' := by
  have HR : Hid (∀ V, Below w.heap.size w V → Calls Tryz.prog 16 #[fv k r K d v C, R.rv q0 q1 q2 q3, .int .i64 (-1)] V fun e w' => e = .returned (rfa (-1) (vf k r ks d v cs) (R.emp q0 q1 q2 q3) k r v q0 q1 q2 q3).v ∧ Below V.heap.size V w') := fun V h => rarea_any k r d v q0 q1 q2 q3 (-1) ks cs K C V (hK.later h) (hC.later h)
  generalize rfa (-1) (vf k r ks d v cs) (R.emp q0 q1 q2 q3) k r v q0 q1 q2 q3 = z at HR ⊢
  clear hK hC
  go_enter Tryz.func8, Tryz.ntmps8
  go_wp2_with (go_at_call 16; (with_reducible refine (bcall (w0 := w) ?_ (HR.out _ R.below3)).mono ?_); (focus with_reducible exact R.below3); rintro e w2 ⟨rfl, hb2, hb2'⟩; obtain ⟨hc2, hf2⟩ := bcell hb2'; have hy2 : w.heap.size + 2 < w2.heap.size := (by have := hb2'.size; (try simp at this); omega))
  exact bodyPost_ret (v := z.v) (by simp [results, Tryz.results8, go_sem, *]) rfl ⟨rfl, by exact R.below_set4 (by assumption) (by omega) _ _ _ _⟩
set_option maxHeartbeats 4000000 in
theorem rspread_any (k r d v q0 q1 q2 q3 : Int) (ks cs : List Int) (K C : Value) (w : World) (hK : Cm w K ks) (hC : Cm w C cs) : Calls Tryz.prog 10 #[fv k r K d v C, R.rv q0 q1 q2 q3] w fun e w' => e = .returned (rfa 1 (vf k r ks d v cs) (R.emp q0 q1 q2 q3) k r v q0 q1 q2 q3).v ∧ Below w.heap.size w w' := by
  have HR : Hid (∀ V, Below w.heap.size w V → Calls Tryz.prog 16 #[fv k r K d v C, R.rv q0 q1 q2 q3, .int .i64 1] V fun e w' => e = .returned (rfa 1 (vf k r ks d v cs) (R.emp q0 q1 q2 q3) k r v q0 q1 q2 q3).v ∧ Below V.heap.size V w') := fun V h => rarea_any k r d v q0 q1 q2 q3 1 ks cs K C V (hK.later h) (hC.later h)
  generalize rfa 1 (vf k r ks d v cs) (R.emp q0 q1 q2 q3) k r v q0 q1 q2 q3 = z at HR ⊢
  clear hK hC
  go_enter Tryz.func10, Tryz.ntmps10
  go_wp2_with (go_at_call 16; (with_reducible refine (bcall (w0 := w) ?_ (HR.out _ R.below3)).mono ?_); (focus with_reducible exact R.below3); rintro e w2 ⟨rfl, hb2, hb2'⟩; obtain ⟨hc2, hf2⟩ := bcell hb2'; have hy2 : w.heap.size + 2 < w2.heap.size := (by have := hb2'.size; (try simp at this); omega))
  exact bodyPost_ret (v := z.v) (by simp [results, Tryz.results10, go_sem, *]) rfl ⟨rfl, by exact R.below_set4 (by assumption) (by omega) _ _ _ _⟩
/-- a number of 64 bits -/
def I64 (x : Int) : Prop := -9223372036854775808 ≤ x ∧ x ≤ 9223372036854775807
/-- what the fields of a valid filter without a window say -/
theorem vf_zero {k r d v : Int} {ks cs : List Int} (h : vf k r ks d v cs = true) (hw : win k = false) (h8 : k ≠ 8) : r = 0 := by
  have hk : ¬(1 ≤ k ∧ k ≤ 4) := by intro h'; simp [win, h'.1, h'.2] at hw
  rcases (by omega : k = 5 ∨ k = 6 ∨ k = 7 ∨ (k ≠ 1 ∧ k ≠ 2 ∧ k ≠ 3 ∧ k ≠ 4 ∧ k ≠ 5 ∧ k ≠ 6 ∧ k ≠ 7)) with rfl | rfl | rfl | ⟨a1, a2, a3, a4, a5, a6, a7⟩
  · simp [vf, nof] at h; omega
  · simp [vf, nof] at h; omega
  · simp [vf, nof] at h; omega
  · rw [vf_other a1 a2 a3 a4 a5 a6 a7 h8] at h; exact absurd h (by decide)
theorem rfa_eq {k r d v q0 q1 q2 q3 s : Int} {ks cs : List Int} (i0 : I64 q0) (i1 : I64 q1) (i2 : I64 q2) (i3 : I64 q3) : rfa s (vf k r ks d v cs) (R.emp q0 q1 q2 q3) k r v q0 q1 q2 q3 = rch s (vf k r ks d v cs) k r v q0 q1 q2 q3 := by
  unfold rfa rch
  cases hb : vf k r ks d v cs
  · rfl
  · simp only [if_true]
    cases he : R.emp q0 q1 q2 q3
    · simp only [Bool.false_eq_true, if_false]
      by_cases h8 : k = 8
      · subst h8
        have : win 8 = false := rfl
        simp [this]
      · cases hw : win k
        · have := vf_zero hb hw h8
          subst this
          simp only [h8, if_false, Bool.false_eq_true, R.gro, he, R.nrm, Int.sub_zero, Int.add_zero, wrap_in i0, wrap_in i1, wrap_in i2, wrap_in i3]
        · simp only [h8, if_false, if_true]
    · simp [R.mov, R.gro, he]
theorem bne_yes {a b : Int} (h : a ≠ b) : (a != b) = true := by simpa using h
/-- the reference's Local -/
def lcl (b : Bool) (k r v : Int) : Bool := b && decide (r = 0) && (!decide (k = 8) || decide (v = 0))
/-- Local: Need of the place at the origin is that place -/
def isOne (z : R.Rc) : Bool := decide (z.x0 = 0) && decide (z.y0 = 0) && decide (z.x1 = 1) && decide (z.y1 = 1)
end Go.Proofs.YtihfpflnnhiikaaGreat.W
