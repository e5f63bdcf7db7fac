/-
  The reference's Need and Spread, Local and Clear.
-/
import Derived.Test.YtihfpflnnhiikaaGreatWReach
namespace Go.Proofs.YtihfpflnnhiikaaGreat.W
open Go.RowKit
set_option maxRecDepth 100000
variable {W w w' : World} {L : List (Nat × Obj)}

/-- the kinds with a window -/
def win (k : Int) : Bool := decide (1 ≤ k) && decide (k ≤ 4)
theorem rwindow_any (k r d v : Int) (K C : Value) (w : World) : Calls Tryz.prog 27 #[fv k r K d v C] w fun e w' => e = .returned (.bool (win k)) ∧ Below w.heap.size w w' := by
  have HW : Hid (win k = (decide (1 ≤ k) && decide (k ≤ 4))) := rfl
  generalize win k = z at HW ⊢
  by_cases h1 : 1 ≤ k <;> by_cases h2 : k ≤ 4
  all_goals first | (exfalso; omega) | skip
  all_goals
    have HW2 := HW.out
    simp only [h1, h2, decide_true, decide_false, Bool.and_true, Bool.and_false, Bool.false_and] at HW2
    clear HW
    have HE := Lib.hid HW2; clear HW2
    go_enter Tryz.func27, Tryz.ntmps27
    go_wp2
    exact bodyPost_ret (v := .bool z) (by rw [HE.out]; simp [results, Tryz.results27, go_sem, *]) rfl ⟨rfl, by first | exact below1 | exact below2 | exact R.below3⟩
/-- the reference's Need and Spread -/
def rfa (s : Int) (b e : Bool) (k r v q0 q1 q2 q3 : Int) : R.Rc := if b then (if e then ⟨0, 0, 0, 0⟩ else if win k then R.gro q0 q1 q2 q3 r else if k = 8 then R.mov q0 q1 q2 q3 (wrap64 (s * r)) (wrap64 (s * v)) else ⟨q0, q1, q2, q3⟩) else ⟨0, 0, 0, 0⟩
set_option maxHeartbeats 4000000 in
theorem rarea_any (k r d v q0 q1 q2 q3 s : Int) (ks cs : List Int) (K C : Value) (w : World) (hK : Cm w K ks) (hC : Cm w C cs) : Calls Tryz.prog 16 #[fv k r K d v C, R.rv q0 q1 q2 q3, .int .i64 s] w fun e w' => e = .returned (rfa s (vf k r ks d v cs) (R.emp q0 q1 q2 q3) k r v q0 q1 q2 q3).v ∧ Below w.heap.size w w' := by
  have HV : Hid (∀ V, Below w.heap.size w V → Calls Tryz.prog 26 #[fv k r K d v C] V fun e w' => e = .returned (.bool (vf k r ks d v cs)) ∧ Below V.heap.size V w') := fun V h => rfvalid_any k r d v ks cs K C V (hK.later h) (hC.later h)
  have HM : Hid (∀ V, Calls Tryz.prog 17 #[R.rv q0 q1 q2 q3] V fun e w' => e = .returned (.bool (R.emp q0 q1 q2 q3)) ∧ Below V.heap.size V w') := fun V => R.refEmpty_any q0 q1 q2 q3 V
  have HN : Hid (∀ V, Calls Tryz.prog 27 #[fv k r K d v C] V fun e w' => e = .returned (.bool (win k)) ∧ Below V.heap.size V w') := fun V => rwindow_any k r d v K C V
  clear hK hC
  have HD : Hid (rfa s (vf k r ks d v cs) (R.emp q0 q1 q2 q3) k r v q0 q1 q2 q3 = if vf k r ks d v cs then (if R.emp q0 q1 q2 q3 then ⟨0, 0, 0, 0⟩ else if win k then R.gro q0 q1 q2 q3 r else if k = 8 then R.mov q0 q1 q2 q3 (wrap64 (s * r)) (wrap64 (s * v)) else ⟨q0, q1, q2, q3⟩) else ⟨0, 0, 0, 0⟩) := rfl
  generalize rfa s (vf k r ks d v cs) (R.emp q0 q1 q2 q3) k r v q0 q1 q2 q3 = z at HD ⊢
  generalize vf k r ks d v cs = b at HV HD
  generalize R.emp q0 q1 q2 q3 = em at HM HD
  generalize win k = wi at HN HD
  cases b <;> cases em <;> cases wi <;> by_cases h8 : k = 8
  all_goals
    have HD2 := HD.out
    simp only [h8, if_true, if_false, Bool.false_eq_true] at HD2
    clear HD
    (try subst h8)
    (try replace h8 := beq_no h8)
    have HE := Lib.hid HD2; clear HD2
    go_enter Tryz.func16, Tryz.ntmps16
    go_wp2_with (first
      | (go_at_call 26; (with_reducible refine (bcall (w0 := w) ?_ (HV.out _ ?_)).mono ?_); (focus with_reducible exact R.below3); (focus with_reducible exact R.below3); rintro e w' ⟨rfl, hb, hb'⟩; obtain ⟨hc, hf⟩ := bcell hb'; have hz0 : w.heap.size < w'.heap.size := (by have := hb'.size; (try simp at this); omega); have hz1 : w.heap.size + 1 < w'.heap.size := (by have := hb'.size; (try simp at this); omega); have hz2 : w.heap.size + 2 < w'.heap.size := (by have := hb'.size; (try simp at this); omega))
      | (go_at_call 17; (with_reducible refine (bcall (w0 := w) ?_ (HM.out _)).mono ?_); (focus with_reducible assumption); rintro e w1 ⟨rfl, hb1, hb1'⟩; obtain ⟨hc1, hf1⟩ := bcell hb1'; have hx0 : w.heap.size < w1.heap.size := (by have := hb1'.size; omega); have hx1 : w.heap.size + 1 < w1.heap.size := (by have := hb1'.size; omega); have hx2 : w.heap.size + 2 < w1.heap.size := (by have := hb1'.size; omega))
      | (go_at_call 27; (with_reducible refine (bcall (w0 := w) ?_ (HN.out _)).mono ?_); (focus with_reducible assumption); rintro e w3 ⟨rfl, hb3, hb3'⟩; obtain ⟨hc3, hf3⟩ := bcell hb3'; have hv0 : w.heap.size < w3.heap.size := (by have := hb3'.size; omega); have hv1 : w.heap.size + 1 < w3.heap.size := (by have := hb3'.size; omega); have hv2 : w.heap.size + 2 < w3.heap.size := (by have := hb3'.size; omega))
      | (go_at_call 29; (with_reducible refine (bcall (w0 := w) ?_ (R.refMove_any _ _ _ _ _ _ _)).mono ?_); (focus with_reducible assumption); rintro e w2 ⟨rfl, hb2, hb2'⟩; obtain ⟨hc2, hf2⟩ := bcell hb2'; have hy2 : w.heap.size + 2 < w2.heap.size := (by have := hb2'.size; omega))
      | (go_at_call 28; (with_reducible refine (bcall (w0 := w) ?_ (R.refGrow_any _ _ _ _ _ _)).mono ?_); (focus with_reducible assumption); rintro e w2 ⟨rfl, hb2, hb2'⟩; obtain ⟨hc2, hf2⟩ := bcell hb2'; have hy2 : w.heap.size + 2 < w2.heap.size := (by have := hb2'.size; omega)))
    exact bodyPost_ret (v := z.v) (by rw [HE.out]; simp [results, Tryz.results16, go_sem, *]) rfl ⟨rfl, by first | with_reducible assumption | exact R.below_set4 (by assumption) (by omega) _ _ _ _⟩
end Go.Proofs.YtihfpflnnhiikaaGreat.W
