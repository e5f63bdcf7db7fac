/-
  What Of and At of rect and of the reference return, and Small of the reference.
-/
import Derived.Test.YtjadccelplnpnaaMoves
namespace Go.Proofs.Ytjadccelplnpnaa
open Go.RowKit

abbrev tv (x y : Int) : Value := .agg #[.int .i64 x, .int .i64 y]
abbrev tob (x y : Int) : Obj := .cells #[.int .i64 x, .int .i64 y] 30
abbrev pob (x y : Int) : Obj := .cells #[.int .i64 x, .int .i64 y] 34
abbrev TB (w : World) (b : Nat) (x0 x1 : Int) : Prop :=
  w.cell? ⟨b, 0, none⟩ = some (.int .i64 x0) ∧ w.cell? ⟨b, 1, none⟩ = some (.int .i64 x1)
theorem St.pair {W w : World} {L : List (Nat × Obj)} (h : St W L w) {b : Nat} {x0 x1 : Int} {t : TypeId} (hm : (b, .cells #[.int .i64 x0, .int .i64 x1] t) ∈ L) : TB w b x0 x1 :=
  ⟨h.cell hm 0, h.cell hm 1⟩
theorem St.row4 {W w : World} {L : List (Nat × Obj)} (h : St W L w) {b : Nat} {x0 x1 x2 x3 : Int} {t : TypeId} (hm : (b, .cells #[.int .i64 x0, .int .i64 x1, .int .i64 x2, .int .i64 x3] t) ∈ L) : RB w b x0 x1 x2 x3 :=
  ⟨h.cell hm 0, h.cell hm 1, h.cell hm 2, h.cell hm 3⟩
def ofr (x y : Int) : Rc := ⟨wrap64 (8 * x), wrap64 (8 * y), wrap64 (wrap64 (8 * x) + 8), wrap64 (wrap64 (8 * y) + 8)⟩
theorem below_set2 {n b : Nat} {w w' : World} (h : Below n w w') (hb : n ≤ b) (x0 x1 : Value) :
    Below n w ((w'.setCell ⟨b, 0, none⟩ x0).setCell ⟨b, 1, none⟩ x1) :=
  (h.setCell (p := ⟨b, 0, none⟩) hb _).setCell (p := ⟨b, 1, none⟩) hb _

set_option maxHeartbeats 1000000 in
theorem refOf_any (x y : Int) (w : World) : Calls Try.prog 21 #[tv x y] w fun e w' => e = .returned (ofr x y).v ∧ Below w.heap.size w w' := by
  go_enter Try.func21, Try.ntmps21
  go_wp2
  exact bodyPost_ret (v := (ofr x y).v) (by simp [results, Try.results21, go_sem, ofr]) rfl ⟨rfl, by first | with_reducible exact below2 | exact below_set4 below2 (by omega) _ _ _ _⟩

set_option maxHeartbeats 1000000 in
theorem of_any (x y : Int) (w : World) : Calls Try.prog 20 #[tv x y] w fun e w' => e = .returned (ofr x y).v ∧ Below w.heap.size w w' := by
  go_enter Try.func20, Try.ntmps20
  go_upto_region 1 with fail
  have hs := ((St.start w).alloc (tob x y)).alloc (ro 0 0 0 0)
  rw [World.size_alloc] at hs
  have HC : Hid (∀ V, St w [(w.heap.size + 1, ro 0 0 0 0), (w.heap.size, tob x y)] V → TB V w.heap.size x y ∧ RB V (w.heap.size + 1) 0 0 0 0 ∧ ∀ j, V.frozen? ⟨w.heap.size + 1, j, none⟩ = false) := fun V hV =>
    ⟨hV.pair (t := 30) (by simp), hV.rect (by simp), hV.frozen (b := w.heap.size + 1) (cs := #[.int .i64 0, .int .i64 0, .int .i64 0, .int .i64 0]) (t := 23) (by simp)⟩
  generalize (w.alloc (tob x y)).alloc (ro 0 0 0 0) = w1 at hs ⊢
  obtain ⟨hr1, hr2, hf1⟩ := HC.out _ hs
  go_quiet (fail)
  clear hr1 hr2 hf1
  have hd : St w [(w.heap.size + 1, ro 0 0 0 0), (w.heap.size, tob x y)] (w1.drewN nq) := hs.drewN _
  generalize w1.drewN nq = w2 at hd ⊢
  obtain ⟨hr1, hr2, hf1⟩ := HC.out _ hd
  go_wp2
  exact bodyPost_ret (v := (ofr x y).v) (by simp [results, Try.results20, go_sem, ofr, *]) rfl ⟨rfl, below_set4 hd.below (by omega) _ _ _ _⟩

set_option maxHeartbeats 1000000 in
theorem refAt_any (x y : Int) (w : World) : Calls Try.prog 23 #[.int .i64 x, .int .i64 y] w fun e w' => e = .returned (tv (flo x 8) (flo y 8)) ∧ Below w.heap.size w w' := by
  go_enter Try.func23, Try.ntmps23
  go_wp2_with (go_at_call 27; (with_reducible refine (refFloor_any _ _ _).mono ?_); rintro e w' ⟨rfl, rfl⟩)
  exact bodyPost_ret (v := tv (flo x 8) (flo y 8)) (by simp [results, Try.results23, go_sem]) rfl ⟨rfl, by first | with_reducible exact below1 | exact below_set2 below1 (by omega) _ _⟩

set_option maxHeartbeats 1000000 in
theorem at_any (x y : Int) (w : World) : Calls Try.prog 22 #[.agg #[.int .i64 x, .int .i64 y]] w fun e w' => e = .returned (tv (flo x 8) (flo y 8)) ∧ Below w.heap.size w w' := by
  go_enter Try.func22, Try.ntmps22
  go_upto_region 1 with fail
  have hs := ((St.start w).alloc (pob x y)).alloc (tob 0 0)
  rw [World.size_alloc] at hs
  have HC : Hid (∀ V, St w [(w.heap.size + 1, tob 0 0), (w.heap.size, pob x y)] V → TB V w.heap.size x y ∧ TB V (w.heap.size + 1) 0 0 ∧ ∀ j, V.frozen? ⟨w.heap.size + 1, j, none⟩ = false) := fun V hV =>
    ⟨hV.pair (t := 34) (by simp), hV.pair (t := 30) (by simp), hV.frozen (b := w.heap.size + 1) (cs := #[.int .i64 0, .int .i64 0]) (t := 30) (by simp)⟩
  generalize (w.alloc (pob x y)).alloc (tob 0 0) = w1 at hs ⊢
  have hd := hs.drew
  refine wp_region_still_tail 7 (by kernel_rfl) (by kernel_rfl) ?_
  rw [drew_eq w1]
  generalize w1.drew = w2 at hd ⊢
  simp only [List.take_succ_cons, List.take_zero, List.drop_succ_cons, List.drop_zero]
  obtain ⟨hr1, hr2, hf1⟩ := HC.out _ hd
  iterate 2 still_step
  still_call (quiet_sym (floor_any _ _ _))
  iterate 2 still_step
  still_call (quiet_sym (floor_any _ _ _))
  still_step
  refine wpStill_nil ?_
  go_wp2
  exact bodyPost_ret (v := tv (flo x 8) (flo y 8)) (by simp [results, Try.results22, go_sem, *]) rfl ⟨rfl, below_set2 hd.below (by omega) _ _⟩

/-- the small rectangle that the reference makes of four numbers -/
def sml (q0 q1 q2 q3 : Int) : Rc := ⟨q0 % 40 - 20, q1 % 40 - 20, q0 % 40 - 20 + q2 % 40, q1 % 40 - 20 + q3 % 40⟩
theorem refRest40 (a : Int) (w : World) : Calls Try.prog 43 #[.int .i64 a, .int .i64 40] w fun e w' => e = .returned (.int .i64 (a % 40)) ∧ w = w' := by
  have h := refRest_any a 40 w (by omega) (by omega)
  rw [rest_mod a 40 (by omega) (by omega)] at h; exact h

set_option maxHeartbeats 1000000 in
theorem small_any (q0 q1 q2 q3 : Int) (w : World) : Calls Try.prog 14 #[.agg #[.int .i64 q0, .int .i64 q1, .int .i64 q2, .int .i64 q3]] w fun e w' => e = .returned (sml q0 q1 q2 q3).v ∧ Below w.heap.size w w' := by
  go_enter Try.func14, Try.ntmps14
  go_upto_region 3 with (go_at_call 43; (with_reducible refine (refRest40 _ _).mono ?_); rintro e w' ⟨rfl, rfl⟩)
  have hs := ((St.start w).alloc (.cells #[.int .i64 q0, .int .i64 q1, .int .i64 q2, .int .i64 q3] 27)).alloc (ro 0 0 0 0)
  rw [World.size_alloc] at hs
  have HC : Hid (∀ V, St w [(w.heap.size + 1, ro 0 0 0 0), (w.heap.size, .cells #[.int .i64 q0, .int .i64 q1, .int .i64 q2, .int .i64 q3] 27)] V → RB V w.heap.size q0 q1 q2 q3 ∧ RB V (w.heap.size + 1) 0 0 0 0 ∧ ∀ j, V.frozen? ⟨w.heap.size + 1, j, none⟩ = false) := fun V hV =>
    ⟨hV.row4 (t := 27) (by simp), hV.rect (by simp), hV.frozen (b := w.heap.size + 1) (cs := #[.int .i64 0, .int .i64 0, .int .i64 0, .int .i64 0]) (t := 23) (by simp)⟩
  generalize (w.alloc (.cells #[.int .i64 q0, .int .i64 q1, .int .i64 q2, .int .i64 q3] 27)).alloc (ro 0 0 0 0) = w1 at hs ⊢
  have hd := hs.drew
  refine wp_region_still_tail 13 (by kernel_rfl) (by kernel_rfl) ?_
  rw [drew_eq w1]
  generalize w1.drew = w2 at hd ⊢
  simp only [List.take_succ_cons, List.take_zero, List.drop_succ_cons, List.drop_zero]
  obtain ⟨hr1, hr2, hf1⟩ := HC.out _ hd
  iterate 5 still_step
  still_call (quiet_sym (refRest40 _ _))
  iterate 4 still_step
  still_call (quiet_sym (refRest40 _ _))
  iterate 2 still_step
  refine wpStill_nil ?_
  go_wp2
  exact bodyPost_ret (v := (sml q0 q1 q2 q3).v) (by simp [results, Try.results14, go_sem, sml, *]) rfl ⟨rfl, below_set4 hd.below (by omega) _ _ _ _⟩
end Go.Proofs.Ytjadccelplnpnaa
