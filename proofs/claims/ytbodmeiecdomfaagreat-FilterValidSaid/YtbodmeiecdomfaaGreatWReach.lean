/-
  Need and Spread, of the program and of the reference; Local and Clear.
-/
import Derived.Test.YtbodmeiecdomfaaGreatWRVal
import Derived.Test.YtbodmeiecdomfaaGreatEPure2
namespace Go.Proofs.YtbodmeiecdomfaaGreat.W
open Go.RowKit
set_option maxRecDepth 100000
variable {W w w' : World} {L : List (Nat × Obj)}

theorem below_at {b j : Nat} {x : Value} (h : Below w.heap.size w W) (hb : w.heap.size ≤ b) : Below w.heap.size w (W.setCell ⟨b, j, none⟩ x) := h.setCell (p := ⟨b, j, none⟩) hb _
/-- Need and Spread -/
def rch (s : Int) (b : Bool) (k r v q0 q1 q2 q3 : Int) : R.Rc := if b then (if k = 8 then R.mov q0 q1 q2 q3 (wrap64 (s * r)) (wrap64 (s * v)) else R.gro q0 q1 q2 q3 r) else ⟨0, 0, 0, 0⟩
set_option maxHeartbeats 4000000 in
theorem reach_any (k r d v q0 q1 q2 q3 s : Int) (ks cs : List Int) (K C : Value) (w : World) (hK : Cm w K ks) (hC : Cm w C cs) : Calls Tryz.prog 31 #[fv k r K d v C, R.rv q0 q1 q2 q3, .int .i64 s] w fun e w' => e = .returned (rch s (vf k r ks d v cs) k r v q0 q1 q2 q3).v ∧ Below w.heap.size w w' := by
  have HV : Hid (∀ V, Below w.heap.size w V → Calls Tryz.prog 7 #[fv k r K d v C] V fun e w' => e = .returned (.bool (vf k r ks d v cs)) ∧ Below V.heap.size V w') := fun V h => fvalid_any k r d v ks cs K C V (hK.later h) (hC.later h)
  clear hK hC
  generalize vf k r ks d v cs = b at HV ⊢
  have HD : Hid (rch s b k r v q0 q1 q2 q3 = if b then (if k = 8 then R.mov q0 q1 q2 q3 (wrap64 (s * r)) (wrap64 (s * v)) else R.gro q0 q1 q2 q3 r) else ⟨0, 0, 0, 0⟩) := rfl
  generalize rch s b k r v q0 q1 q2 q3 = z at HD ⊢
  cases b
  all_goals by_cases h8 : k = 8
  all_goals
    have HD2 := HD.out
    simp only [h8, if_true, if_false, Bool.false_eq_true] at HD2
    clear HD
    (try subst h8)
    (try replace h8 := beq_no h8)
    have HE := Lib.hid HD2; clear HD2
    go_enter Tryz.func31, Tryz.ntmps31
    go_wp2_with (first
      | (go_at_call 7; (with_reducible refine (bcall (w0 := w) ?_ (HV.out _ ?_)).mono ?_); (focus with_reducible exact R.below3); (focus with_reducible exact R.below3); rintro e w' ⟨rfl, hb, hb'⟩; obtain ⟨hc, hf⟩ := bcell hb'; have hz0 : w.heap.size < w'.heap.size := (by have := hb'.size; (try simp at this); omega); have hz1 : w.heap.size + 1 < w'.heap.size := (by have := hb'.size; (try simp at this); omega); have hz2 : w.heap.size + 2 < w'.heap.size := (by have := hb'.size; (try simp at this); omega))
      | (go_at_call 54; (with_reducible refine (bcall (w0 := w) ?_ (R.move_any _ _ _ _ _ _ _)).mono ?_); (focus with_reducible assumption); rintro e w2 ⟨rfl, hb2, hb2'⟩; obtain ⟨hc2, hf2⟩ := bcell hb2'; have hy2 : w.heap.size + 2 < w2.heap.size := (by have := hb2'.size; omega))
      | (go_at_call 55; (with_reducible refine (bcall (w0 := w) ?_ (R.grow_any _ _ _ _ _ _)).mono ?_); (focus with_reducible assumption); rintro e w2 ⟨rfl, hb2, hb2'⟩; obtain ⟨hc2, hf2⟩ := bcell hb2'; have hy2 : w.heap.size + 2 < w2.heap.size := (by have := hb2'.size; omega)))
    exact bodyPost_ret (v := z.v) (by rw [HE.out]; simp [results, Tryz.results31, go_sem, *]) rfl ⟨rfl, by first | with_reducible assumption | exact R.below_set4 (by assumption) (by omega) _ _ _ _⟩
end Go.Proofs.YtbodmeiecdomfaaGreat.W
