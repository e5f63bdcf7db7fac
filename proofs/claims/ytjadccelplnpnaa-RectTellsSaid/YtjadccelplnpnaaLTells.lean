/-
  RectTells: for all rectangles and numbers, all functions on rectangles return what the reference model returns. No conditions.
-/
import Derived.Test.YtjadccelplnpnaaLaw
import Derived.Test.YtjadccelplnpnaaExact
namespace Go.Proofs.Ytjadccelplnpnaa.LTells
open Go.ChangeShapes Go.WideShapes Go.ChangeAt Go.RowKit


set_option maxHeartbeats 4000000 in
set_option maxRecDepth 100000 in
theorem walk (a0 a1 a2 a3 b0 b1 b2 b3 n0 n1 n2 : Int) (w : World) : Calls Try.prog 3 #[.agg #[.int .i64 a0, .int .i64 a1, .int .i64 a2, .int .i64 a3], .agg #[.int .i64 b0, .int .i64 b1, .int .i64 b2, .int .i64 b3], .agg #[.int .i64 n0, .int .i64 n1, .int .i64 n2]] w fun e w' => e = .returned (.bool true) ∧ Below w.heap.size w w' := by
  go_enter Try.func3, Try.ntmps3
  go_upto_region 1 with fail
  have hs := (((St.start w).alloc (ro a0 a1 a2 a3)).alloc (ro b0 b1 b2 b3)).alloc (.cells #[.int .i64 n0, .int .i64 n1, .int .i64 n2] 24)
  rw [World.size_alloc, World.size_alloc] at hs
  generalize ((w.alloc (ro a0 a1 a2 a3)).alloc (ro b0 b1 b2 b3)).alloc (.cells #[.int .i64 n0, .int .i64 n1, .int .i64 n2] 24) = w1 at hs ⊢
  go_upto_region 2 with (go_at_call 13; (with_reducible refine (St.call hs (sane_any _)).mono ?_); rintro e w2 ⟨rfl, h2⟩)
  clear hs
  obtain ⟨p0, p1, p2, p3⟩ := h2.rect (b := w.heap.size) (x0 := a0) (x1 := a1) (x2 := a2) (x3 := a3) (by simp)
  go_upto_region 3 with (go_at_call 14; (with_reducible refine (St.call h2 (small_any _ _ _ _ _)).mono ?_); rintro e w3 ⟨rfl, h3⟩)
  clear h2 p0 p1 p2 p3
  generalize sml a0 a1 a2 a3 = x at h3 ⊢
  have hs := h3.alloc (ro x.x0 x.y0 x.x1 x.y1)
  clear h3
  generalize w3.heap.size = bx at hs ⊢
  generalize w3.alloc (ro x.x0 x.y0 x.x1 x.y1) = w5 at hs ⊢
  obtain ⟨p0, p1, p2, p3⟩ := hs.rect (b := w.heap.size + 1) (x0 := b0) (x1 := b1) (x2 := b2) (x3 := b3) (by simp)
  go_upto_region 4 with (go_at_call 14; (with_reducible refine (St.call hs (small_any _ _ _ _ _)).mono ?_); rintro e w6 ⟨rfl, h3⟩)
  clear hs p0 p1 p2 p3
  generalize sml b0 b1 b2 b3 = y at h3 ⊢
  have hs := h3.alloc (ro y.x0 y.y0 y.x1 y.y1)
  clear h3
  generalize w6.heap.size = bz at hs ⊢
  generalize w6.alloc (ro y.x0 y.y0 y.x1 y.y1) = w7 at hs ⊢
  obtain ⟨q0, q1, q2⟩ : NB w7 (w.heap.size + 1 + 1) n0 n1 n2 := hs.trip (t := 24) (by simp)
  go_upto_region 5 with fail
  clear q0 q1 q2
  generalize n0.tmod 60 = m0
  generalize n1.tmod 60 = m1
  generalize n2.tmod 12 = m2
  have ht := hs.alloc (.cells #[.int .i64 m0, .int .i64 m1, .int .i64 m2] 24)
  clear hs
  generalize w7.heap.size = bf at ht ⊢
  generalize w7.alloc (.cells #[.int .i64 m0, .int .i64 m1, .int .i64 m2] 24) = w8 at ht ⊢
  obtain ⟨L, hL⟩ : ∃ L, L = [(bf, .cells #[.int .i64 m0, .int .i64 m1, .int .i64 m2] 24), (bz, ro y.x0 y.y0 y.x1 y.y1), (bx, ro x.x0 x.y0 x.x1 x.y1), (w.heap.size + 1 + 1, .cells #[.int .i64 n0, .int .i64 n1, .int .i64 n2] 24), (w.heap.size + 1, ro b0 b1 b2 b3), (w.heap.size, ro a0 a1 a2 a3)] := ⟨_, rfl⟩
  rw [← hL] at ht
  have HP : Hid (∀ V, St w L V → RB V w.heap.size a0 a1 a2 a3 ∧ RB V (w.heap.size + 1) b0 b1 b2 b3 ∧ NB V (w.heap.size + 1 + 1) n0 n1 n2 ∧ RB V bx x.x0 x.y0 x.x1 x.y1 ∧ RB V bz y.x0 y.y0 y.x1 y.y1 ∧ NB V bf m0 m1 m2) := fun V hV => by
    subst hL
    exact ⟨hV.rect (by simp), hV.rect (by simp), hV.trip (t := 24) (by simp), hV.rect (by simp), hV.rect (by simp), hV.trip (t := 24) (by simp)⟩
  clear hL
  obtain ⟨⟨a00, a01, a02, a03⟩, ⟨b00, b01, b02, b03⟩, ⟨n00, n01, n02⟩, ⟨x00, x01, x02, x03⟩, ⟨y00, y01, y02, y03⟩, ⟨m00, m01, m02⟩⟩ := HP.out _ ht
  go_wp2_with (go_at_call 15; (with_reducible refine (St.call (W := w) (L := L) ?_ (exact_any _ _ _ _ _ _ _ _ _ _ _ _)).mono ?_); (focus assumption); rintro e w4 ⟨rfl, h4⟩; obtain ⟨⟨a00, a01, a02, a03⟩, ⟨b00, b01, b02, b03⟩, ⟨n00, n01, n02⟩, ⟨x00, x01, x02, x03⟩, ⟨y00, y01, y02, y03⟩, ⟨m00, m01, m02⟩⟩ := HP.out _ h4)
  go_ret
  exact ⟨rfl, h4.below⟩

set_option maxRecDepth 100000 in
theorem lifted (os : Os) (started : os.Started) (H : Type) (enc : TypeId × Value → H) :
    ReturnsInHanded {} Try.checked os 3 .any (Rows.rectTellsSpec.pre6 enc Try.prog Try.f3 Rows.rectTellsRow.domain false) (Rows.rectTellsSpec.post enc Try.prog Try.f3 false true false false) := by
  refine returnsInHanded_of_change_sized (C := Try.checked) own started (by kernel_rfl) Try.func3
    (ChangeSpec.witness6 (enc := enc) (C := Try.checked) false ⟨#[], #[.agg #[.int .i64 0, .int .i64 0, .int .i64 0, .int .i64 0], .agg #[.int .i64 0, .int .i64 0, .int .i64 0, .int .i64 0], .agg #[.int .i64 0, .int .i64 0, .int .i64 0]], []⟩ 8 (by kernel_rfl) (by kernel_rfl) (by kernel_rfl) (by kernel_rfl)) ?_
  intro W base args ds gs before hval0 hW _ _ _
  have hval : ∀ (j : Nat) t v, Try.f3.params[j]? = some t → args[j]? = some v → Value.okWide Try.prog W .any base t v := hval0
  have hW' := hW
  obtain ⟨p, q, hA0, hV, rfl, hfz, hnd⟩ := hW
  have hA : DataW.TrodAll enc Try.prog W 0 (fun _ => true) true Try.f3.params.toList args.toList ds p := hA0
  rw [Try.params3] at hA hval
  obtain ⟨v0, v1, v2, d0, d1, d2, p0, p1, p2, rfl, rfl, rfl, h0, h1, h2⟩ := trodAll_three hA
  obtain ⟨rfl, rfl⟩ := trodVars_none hV
  obtain ⟨a0, a1, a2, a3, rfl⟩ := agg_rect (hval 0 23 v0 rfl rfl)
  obtain ⟨b0, b1, b2, b3, rfl⟩ := agg_rect (hval 1 23 v1 rfl rfl)
  obtain ⟨n0, n1, n2, rfl⟩ := agg_n3 (hval 2 24 v2 rfl rfl)
  refine (walk a0 a1 a2 a3 b0 b1 b2 b3 n0 n1 n2 W).mono fun e W' ⟨he, hb⟩ => ?_
  subst he
  exact ⟨_, rfl, law_post hW' rfl (by kernel_rfl) rfl (by intro t ht; rw [Try.params3] at ht; simp at ht; rcases ht with rfl | rfl <;> exact ⟨by kernel_rfl, of_decide_eq_true (by kernel_rfl)⟩) hb⟩

theorem holds : Rows.RectTellsSaid :=
  OpenClaim.holds_of_wide 3 Try.f3 rfl rfl rfl rfl rfl rfl rfl ⟨rfl, rfl, rfl, rfl, rfl⟩ rfl rfl rfl rfl rfl (by kernel_rfl) Try.func3 (by kernel_rfl)
    (of_decide_eq_true (by kernel_rfl)) (by unfold Func.isWrapper; first | (rw [if_pos (by decide +kernel)]; kernel_rfl) | (rw [if_neg (by decide +kernel)]; exact ⟨rfl, rfl⟩))
    (fun os started H enc _ => lifted os started H enc)
end Go.Proofs.Ytjadccelplnpnaa.LTells
