/-
  RectZooms: for all rectangles, zoom levels, points and positions, Scale, Shrink, Of and At return what the reference returns. No conditions.
-/
import Derived.Test.YtjadccelplnpnaaLaw
namespace Go.Proofs.Ytjadccelplnpnaa.LZooms
open Go.ChangeShapes Go.WideShapes Go.ChangeAt Go.RowKit

theorem rest6 (a : Int) (w : World) : Calls Try.prog 24 #[.int .i64 a, .int .i64 6] w fun e w' => e = .returned (.int .i64 (a % 6)) ∧ w = w' := by
  have h := rest_any a 6 w (by omega) (by omega)
  rw [rest_mod a 6 (by omega) (by omega)] at h; exact h

set_option maxHeartbeats 4000000 in
set_option maxRecDepth 100000 in
theorem walk (r0 r1 r2 r3 n0 n1 n2 : Int) (w : World) : Calls Try.prog 4 #[.agg #[.int .i64 r0, .int .i64 r1, .int .i64 r2, .int .i64 r3], .agg #[.int .i64 n0, .int .i64 n1, .int .i64 n2]] w fun e w' => e = .returned (.bool true) ∧ Below w.heap.size w w' := by
  go_enter Try.func4, Try.ntmps4
  go_upto_region 1 with fail
  have hs := ((St.start w).alloc (ro r0 r1 r2 r3)).alloc (.cells #[.int .i64 n0, .int .i64 n1, .int .i64 n2] 24)
  rw [World.size_alloc] at hs
  generalize (w.alloc (ro r0 r1 r2 r3)).alloc (.cells #[.int .i64 n0, .int .i64 n1, .int .i64 n2] 24) = w1 at hs ⊢
  go_upto_region 2 with (go_at_call 13; (with_reducible refine (St.call hs (sane_any _)).mono ?_); rintro e w2 ⟨rfl, h2⟩)
  clear hs
  obtain ⟨a0, a1, a2, a3⟩ := h2.rect (b := w.heap.size) (x0 := r0) (x1 := r1) (x2 := r2) (x3 := r3) (by simp)
  go_upto_region 3 with (go_at_call 14; (with_reducible refine (St.call h2 (small_any _ _ _ _ _)).mono ?_); rintro e w3 ⟨rfl, h3⟩)
  clear h2 a0 a1 a2 a3
  generalize sml r0 r1 r2 r3 = x at h3 ⊢
  have hs := h3.alloc (ro x.x0 x.y0 x.x1 x.y1)
  clear h3
  generalize w3.heap.size = bx at hs ⊢
  generalize w3.alloc (ro x.x0 x.y0 x.x1 x.y1) = w5 at hs ⊢
  obtain ⟨b0, b1, b2⟩ : w5.cell? ⟨w.heap.size + 1, 0, none⟩ = some (.int .i64 n0) ∧ w5.cell? ⟨w.heap.size + 1, 1, none⟩ = some (.int .i64 n1) ∧ w5.cell? ⟨w.heap.size + 1, 2, none⟩ = some (.int .i64 n2) :=
    have h := hs.row (b := w.heap.size + 1) (o := .cells #[.int .i64 n0, .int .i64 n1, .int .i64 n2] 24) (by simp)
    ⟨cell_of_row _ _ 0 _ _ _ h, cell_of_row _ _ 1 _ _ _ h, cell_of_row _ _ 2 _ _ _ h⟩
  go_upto_region 4 with fail
  clear b0 b1 b2
  have ht := hs.alloc (tob n0 n1)
  clear hs
  generalize w5.heap.size = bt at ht ⊢
  generalize w5.alloc (tob n0 n1) = w6 at ht ⊢
  obtain ⟨L, hL⟩ : ∃ L, L = [(bt, tob n0 n1), (bx, ro x.x0 x.y0 x.x1 x.y1), (w.heap.size + 1, .cells #[.int .i64 n0, .int .i64 n1, .int .i64 n2] 24), (w.heap.size, ro r0 r1 r2 r3)] := ⟨_, rfl⟩
  rw [← hL] at ht
  have HP : Hid (∀ V, St w L V → St w L V ∧ RB V w.heap.size r0 r1 r2 r3 ∧ (V.cell? ⟨w.heap.size + 1, 0, none⟩ = some (.int .i64 n0) ∧ V.cell? ⟨w.heap.size + 1, 1, none⟩ = some (.int .i64 n1) ∧ V.cell? ⟨w.heap.size + 1, 2, none⟩ = some (.int .i64 n2)) ∧ RB V bx x.x0 x.y0 x.x1 x.y1 ∧ TB V bt n0 n1) := fun V hV => by
    subst hL
    have h := hV.row (b := w.heap.size + 1) (o := .cells #[.int .i64 n0, .int .i64 n1, .int .i64 n2] 24) (by simp)
    exact ⟨hV, hV.rect (by simp), ⟨cell_of_row _ _ 0 _ _ _ h, cell_of_row _ _ 1 _ _ _ h, cell_of_row _ _ 2 _ _ _ h⟩, hV.rect (by simp), hV.pair (t := 30) (by simp)⟩
  clear hL
  have hd := ht.drew
  clear ht
  go_region_held3 (fun V => St w L V ∧ RB V w.heap.size r0 r1 r2 r3 ∧ (V.cell? ⟨w.heap.size + 1, 0, none⟩ = some (.int .i64 n0) ∧ V.cell? ⟨w.heap.size + 1, 1, none⟩ = some (.int .i64 n1) ∧ V.cell? ⟨w.heap.size + 1, 2, none⟩ = some (.int .i64 n2)) ∧ RB V bx x.x0 x.y0 x.x1 x.y1 ∧ TB V bt n0 n1) ((refine HP.out _ ?_; assumption)) (first
    | (go_at_call 16; (with_reducible refine (St.call (W := w) (L := L) ?_ (scale_any _ _ _ _ _ _)).mono ?_); (focus assumption); rintro e w4 ⟨rfl, h4⟩)
    | (go_at_call 17; (with_reducible refine (St.call (W := w) (L := L) ?_ (refScale_any _ _ _ _ _ _)).mono ?_); (focus assumption); rintro e w4 ⟨rfl, h4⟩)
    | (go_at_call 18; (with_reducible refine (St.call (W := w) (L := L) ?_ (shrink_any _ _ _ _ _ _)).mono ?_); (focus assumption); rintro e w4 ⟨rfl, h4⟩)
    | (go_at_call 19; (with_reducible refine (St.call (W := w) (L := L) ?_ (refShrink_any _ _ _ _ _ _)).mono ?_); (focus assumption); rintro e w4 ⟨rfl, h4⟩)
    | (go_at_call 20; (with_reducible refine (St.call (W := w) (L := L) ?_ (of_any _ _ _)).mono ?_); (focus assumption); rintro e w4 ⟨rfl, h4⟩)
    | (go_at_call 21; (with_reducible refine (St.call (W := w) (L := L) ?_ (refOf_any _ _ _)).mono ?_); (focus assumption); rintro e w4 ⟨rfl, h4⟩)
    | (go_at_call 22; (with_reducible refine (St.call (W := w) (L := L) ?_ (at_any _ _ _)).mono ?_); (focus assumption); rintro e w4 ⟨rfl, h4⟩)
    | (go_at_call 23; (with_reducible refine (St.call (W := w) (L := L) ?_ (refAt_any _ _ _)).mono ?_); (focus assumption); rintro e w4 ⟨rfl, h4⟩))
  clear hd
  obtain ⟨_, _, ⟨_, _, b2⟩, _, _⟩ := HP.out _ h4
  go_upto_region 6 with (go_at_call 24; (with_reducible refine (rest6 _ _).mono ?_); rintro e w4 ⟨rfl, rfl⟩)
  clear b2
  generalize n2 % 6 = z
  have hd := h4.drew
  go_region_held3 (fun V => St w L V ∧ RB V w.heap.size r0 r1 r2 r3 ∧ (V.cell? ⟨w.heap.size + 1, 0, none⟩ = some (.int .i64 n0) ∧ V.cell? ⟨w.heap.size + 1, 1, none⟩ = some (.int .i64 n1) ∧ V.cell? ⟨w.heap.size + 1, 2, none⟩ = some (.int .i64 n2)) ∧ RB V bx x.x0 x.y0 x.x1 x.y1 ∧ TB V bt n0 n1) ((refine HP.out _ ?_; assumption)) (first
    | (go_at_call 16; (with_reducible refine (St.call (W := w) (L := L) ?_ (scale_any _ _ _ _ _ _)).mono ?_); (focus assumption); rintro e w4 ⟨rfl, h4⟩)
    | (go_at_call 17; (with_reducible refine (St.call (W := w) (L := L) ?_ (refScale_any _ _ _ _ _ _)).mono ?_); (focus assumption); rintro e w4 ⟨rfl, h4⟩)
    | (go_at_call 18; (with_reducible refine (St.call (W := w) (L := L) ?_ (shrink_any _ _ _ _ _ _)).mono ?_); (focus assumption); rintro e w4 ⟨rfl, h4⟩)
    | (go_at_call 19; (with_reducible refine (St.call (W := w) (L := L) ?_ (refShrink_any _ _ _ _ _ _)).mono ?_); (focus assumption); rintro e w4 ⟨rfl, h4⟩))
  go_wp2_with fail
  go_ret
  exact ⟨rfl, by first | exact h4.below | (rename_i h5 _; exact h5.below)⟩

set_option maxRecDepth 100000 in
theorem lifted (os : Os) (started : os.Started) (H : Type) (enc : TypeId × Value → H) :
    ReturnsInHanded {} Try.checked os 4 .any (Rows.rectZoomsSpec.pre6 enc Try.prog Try.f4 Rows.rectZoomsRow.domain false) (Rows.rectZoomsSpec.post enc Try.prog Try.f4 false true false false) := by
  refine returnsInHanded_of_change_sized (C := Try.checked) own started (by kernel_rfl) Try.func4
    (ChangeSpec.witness6 (enc := enc) (C := Try.checked) false ⟨#[], #[.agg #[.int .i64 0, .int .i64 0, .int .i64 0, .int .i64 0], .agg #[.int .i64 0, .int .i64 0, .int .i64 0]], []⟩ 8 (by kernel_rfl) (by kernel_rfl) (by kernel_rfl) (by kernel_rfl)) ?_
  intro W base args ds gs before hval0 hW _ _ _
  have hval : ∀ (j : Nat) t v, Try.f4.params[j]? = some t → args[j]? = some v → Value.okWide Try.prog W .any base t v := hval0
  have hW' := hW
  obtain ⟨p, q, hA0, hV, rfl, hfz, hnd⟩ := hW
  have hA : DataW.TrodAll enc Try.prog W 0 (fun _ => true) true Try.f4.params.toList args.toList ds p := hA0
  rw [Try.params4] at hA hval
  obtain ⟨v0, v1, d0, d1, p0, p1, rfl, rfl, rfl, h0, h1⟩ := trodAll_two hA
  obtain ⟨rfl, rfl⟩ := trodVars_none hV
  obtain ⟨r0, r1, r2, r3, rfl⟩ := agg_rect (hval 0 23 v0 rfl rfl)
  obtain ⟨n0, n1, n2, rfl⟩ := agg_n3 (hval 1 24 v1 rfl rfl)
  refine (walk r0 r1 r2 r3 n0 n1 n2 W).mono fun e W' ⟨he, hb⟩ => ?_
  subst he
  exact ⟨_, rfl, law_post hW' rfl (by kernel_rfl) rfl (by intro t ht; rw [Try.params4] at ht; simp at ht; rcases ht with rfl | rfl <;> exact ⟨by kernel_rfl, of_decide_eq_true (by kernel_rfl)⟩) hb⟩

theorem holds : Rows.RectZoomsSaid :=
  OpenClaim.holds_of_wide 4 Try.f4 rfl rfl rfl rfl rfl rfl rfl ⟨rfl, rfl, rfl, rfl, rfl⟩ rfl rfl rfl rfl rfl (by kernel_rfl) Try.func4 (by kernel_rfl)
    (of_decide_eq_true (by kernel_rfl)) (by unfold Func.isWrapper; first | (rw [if_pos (by decide +kernel)]; kernel_rfl) | (rw [if_neg (by decide +kernel)]; exact ⟨rfl, rfl⟩))
    (fun os started H enc _ => lifted os started H enc)
end Go.Proofs.Ytjadccelplnpnaa.LZooms
