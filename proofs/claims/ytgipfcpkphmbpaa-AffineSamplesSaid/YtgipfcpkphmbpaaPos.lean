/-
  What Of and At of rect and of the reference return, and Small of the reference.
-/
import Derived.Test.YtgipfcpkphmbpaaMoves
namespace Go.Proofs.Ytgipfcpkphmbpaa
open Go.RowKit
set_option maxRecDepth 100000

abbrev tv (x y : Int) : Value := .agg #[.int .i64 x, .int .i64 y]
abbrev pob (x y : Int) : Obj := .cells #[.int .i64 x, .int .i64 y] 49
abbrev TB (w : World) (b : Nat) (x0 x1 : Int) : Prop :=
  w.cell? ⟨b, 0, none⟩ = some (.int .i64 x0) ∧ w.cell? ⟨b, 1, none⟩ = some (.int .i64 x1)
theorem St.pair {W w : World} {L : List (Nat × Obj)} (h : St W L w) {b : Nat} {x0 x1 : Int} {t : TypeId} (hm : (b, .cells #[.int .i64 x0, .int .i64 x1] t) ∈ L) : TB w b x0 x1 :=
  ⟨h.cell hm 0, h.cell hm 1⟩
theorem St.row4 {W w : World} {L : List (Nat × Obj)} (h : St W L w) {b : Nat} {x0 x1 x2 x3 : Int} {t : TypeId} (hm : (b, .cells #[.int .i64 x0, .int .i64 x1, .int .i64 x2, .int .i64 x3] t) ∈ L) : RB w b x0 x1 x2 x3 :=
  ⟨h.cell hm 0, h.cell hm 1, h.cell hm 2, h.cell hm 3⟩
def ofr (x y : Int) : Rc := ⟨wrap64 (8 * x), wrap64 (8 * y), wrap64 (wrap64 (8 * x) + 8), wrap64 (wrap64 (8 * y) + 8)⟩
theorem below_set2 {n b : Nat} {w w' : World} (h : Below n w w') (hb : n ≤ b) (x0 x1 : Value) :
    Below n w ((w'.setCell ⟨b, 0, none⟩ x0).setCell ⟨b, 1, none⟩ x1) :=
  (h.setCell (p := ⟨b, 0, none⟩) hb _).setCell (p := ⟨b, 1, none⟩) hb _

/-- the small rectangle that the reference makes of four numbers -/
def sml (q0 q1 q2 q3 : Int) : Rc := ⟨q0 % 40 - 20, q1 % 40 - 20, q0 % 40 - 20 + q2 % 40, q1 % 40 - 20 + q3 % 40⟩
theorem refRest40 (a : Int) (w : World) : Calls Try.prog 50 #[.int .i64 a, .int .i64 40] w fun e w' => e = .returned (.int .i64 (a % 40)) ∧ w = w' := by
  have h := refRest_any a 40 w (by omega) (by omega)
  rw [rest_mod a 40 (by omega) (by omega)] at h; exact h

set_option maxHeartbeats 1000000 in
theorem small_any (q0 q1 q2 q3 : Int) (w : World) : Calls Try.prog 29 #[.agg #[.int .i64 q0, .int .i64 q1, .int .i64 q2, .int .i64 q3]] w fun e w' => e = .returned (sml q0 q1 q2 q3).v ∧ Below w.heap.size w w' := by
  go_enter Try.func29, Try.ntmps29
  go_upto_region 3 with (go_at_call 50; (with_reducible refine (refRest40 _ _).mono ?_); rintro e w' ⟨rfl, rfl⟩)
  have hs := ((St.start w).alloc (.cells #[.int .i64 q0, .int .i64 q1, .int .i64 q2, .int .i64 q3] 55)).alloc (ro 0 0 0 0)
  rw [World.size_alloc] at hs
  have HC : Hid (∀ V, St w [(w.heap.size + 1, ro 0 0 0 0), (w.heap.size, .cells #[.int .i64 q0, .int .i64 q1, .int .i64 q2, .int .i64 q3] 55)] V → RB V w.heap.size q0 q1 q2 q3 ∧ RB V (w.heap.size + 1) 0 0 0 0 ∧ ∀ j, V.frozen? ⟨w.heap.size + 1, j, none⟩ = false) := fun V hV =>
    ⟨hV.row4 (t := 55) (by simp), hV.rect (by simp), hV.frozen (b := w.heap.size + 1) (cs := #[.int .i64 0, .int .i64 0, .int .i64 0, .int .i64 0]) (t := 51) (by simp)⟩
  generalize (w.alloc (.cells #[.int .i64 q0, .int .i64 q1, .int .i64 q2, .int .i64 q3] 55)).alloc (ro 0 0 0 0) = w1 at hs ⊢
  have hd := hs.drew
  refine wp_region_still_tail 13 (by kernel_rfl) (by kernel_rfl) ?_
  rw [drew_eq w1]
  generalize w1.drew = w2 at hd ⊢
  simp only [List.take_succ_cons, List.take_zero, List.drop_succ_cons, List.drop_zero]
  obtain ⟨hr1, hr2, hf1⟩ := HC.out _ hd
  iterate 5 still_step
  still_call (quiet_sym (refRest40 _ _))
  iterate 4 still_step
  still_call (quiet_sym (refRest40 _ _))
  iterate 2 still_step
  refine wpStill_nil ?_
  go_wp2
  exact bodyPost_ret (v := (sml q0 q1 q2 q3).v) (by simp [results, Try.results29, go_sem, sml, *]) rfl ⟨rfl, below_set4 hd.below (by omega) _ _ _ _⟩
end Go.Proofs.Ytgipfcpkphmbpaa
