/-
  RectShrinks: for all small rectangles and zoom levels, Shrink returns the smallest rectangle whose Scale contains the rectangle, and Shrink undoes Scale. No conditions.
-/
import Derived.Test.YtjadccelplnpnaaLaw
import Derived.Test.YtjadccelplnpnaaMath
import Derived.Deep.RegionWith
import Derived.Deep.DeepCutAuto
namespace Go.Proofs.Ytjadccelplnpnaa.LShrinks
open Go.ChangeShapes Go.WideShapes Go.ChangeAt Go.RowKit

theorem rest5 (a : Int) (w : World) : Calls Try.prog 24 #[.int .i64 a, .int .i64 5] w fun e w' => e = .returned (.int .i64 (a % 5)) ∧ w = w' := by
  have h := rest_any a 5 w (by omega) (by omega)
  rw [rest_mod a 5 (by omega) (by omega)] at h; exact h

set_option maxHeartbeats 4000000 in
set_option maxRecDepth 100000 in
theorem walk (q0 q1 q2 q3 q4 q5 q6 q7 zoom : Int) (w : World) : Calls Try.prog 11 #[.agg #[.int .i64 q0, .int .i64 q1, .int .i64 q2, .int .i64 q3, .int .i64 q4, .int .i64 q5, .int .i64 q6, .int .i64 q7], .int .i64 zoom] w fun e w' => e = .returned (.bool true) ∧ Below w.heap.size w w' := by
  go_enter Try.func11, Try.ntmps11
  go_upto_region 1 with fail
  have hs := (St.start w).alloc (.cells #[.int .i64 q0, .int .i64 q1, .int .i64 q2, .int .i64 q3, .int .i64 q4, .int .i64 q5, .int .i64 q6, .int .i64 q7] 39)
  generalize w.alloc (.cells #[.int .i64 q0, .int .i64 q1, .int .i64 q2, .int .i64 q3, .int .i64 q4, .int .i64 q5, .int .i64 q6, .int .i64 q7] 39) = w1 at hs ⊢
  go_upto_region 2 with (go_at_call 13; (with_reducible refine (St.call hs (sane_any _)).mono ?_); rintro e w2 ⟨rfl, h2⟩)
  clear hs
  go_upto_region 3 with (go_at_call 24; (with_reducible refine (rest5 _ _).mono ?_); rintro e w4 ⟨rfl, rfl⟩)
  have hz0 : 0 ≤ zoom % 5 := by omega
  have hz1 : zoom % 5 ≤ 4 := by omega
  generalize zoom % 5 = z at hz0 hz1 ⊢
  obtain ⟨c0, c1, c2, c3, c4, c5, c6, c7⟩ : QB w2 w.heap.size q0 q1 q2 q3 q4 q5 q6 q7 := h2.qb (t := 39) (by simp)
  go_upto_region 4 with (go_at_call 14; (with_reducible refine (St.call h2 (small_any _ _ _ _ _)).mono ?_); rintro e w3 ⟨rfl, h3⟩)
  clear h2 c0 c1 c2 c3 c4 c5 c6 c7
  have hx := sml_sm q0 q1 q2 q3
  generalize sml q0 q1 q2 q3 = x at h3 hx ⊢
  have hs := h3.alloc (ro x.x0 x.y0 x.x1 x.y1)
  clear h3
  generalize w3.heap.size = bx at hs ⊢
  generalize w3.alloc (ro x.x0 x.y0 x.x1 x.y1) = w5 at hs ⊢
  obtain ⟨c0, c1, c2, c3, c4, c5, c6, c7⟩ : QB w5 w.heap.size q0 q1 q2 q3 q4 q5 q6 q7 := hs.qb (t := 39) (by simp)
  go_upto_region 5 with (go_at_call 14; (with_reducible refine (St.call hs (small_any _ _ _ _ _)).mono ?_); rintro e w6 ⟨rfl, h3⟩)
  clear hs c0 c1 c2 c3 c4 c5 c6 c7
  have hc := sml_sm q4 q5 q6 q7
  generalize sml q4 q5 q6 q7 = c at h3 hc ⊢
  have hs := h3.alloc (ro c.x0 c.y0 c.x1 c.y1)
  clear h3
  generalize w6.heap.size = bc at hs ⊢
  generalize w6.alloc (ro c.x0 c.y0 c.x1 c.y1) = w7 at hs ⊢
  have hfx := shrinks x c hx hc z hz0 hz1
  obtain ⟨c0, c1, c2, c3⟩ := hs.rect (b := bx) (x0 := x.x0) (x1 := x.y0) (x2 := x.x1) (x3 := x.y1) (by simp)
  have HF := Lib.hid hfx
  clear hx hc hz0 hz1 hfx
  go_upto_region 6 with (go_at_call 18; (with_reducible refine (St.call hs (shrink_any _ _ _ _ _ _)).mono ?_); rintro e w8 ⟨rfl, h3⟩)
  clear hs c0 c1 c2 c3
  generalize shk x.x0 x.y0 x.x1 x.y1 z = s at h3 HF ⊢
  have hs := h3.alloc (ro s.x0 s.y0 s.x1 s.y1)
  clear h3
  generalize w8.heap.size = bs at hs ⊢
  generalize w8.alloc (ro s.x0 s.y0 s.x1 s.y1) = w9 at hs ⊢
  obtain ⟨L, hL⟩ : ∃ L, L = [(bs, ro s.x0 s.y0 s.x1 s.y1), (bc, ro c.x0 c.y0 c.x1 c.y1), (bx, ro x.x0 x.y0 x.x1 x.y1), (w.heap.size, .cells #[.int .i64 q0, .int .i64 q1, .int .i64 q2, .int .i64 q3, .int .i64 q4, .int .i64 q5, .int .i64 q6, .int .i64 q7] 39)] := ⟨_, rfl⟩
  rw [← hL] at hs
  have HP : Hid (∀ V, St w L V → St w L V ∧ RB V bx x.x0 x.y0 x.x1 x.y1 ∧ RB V bc c.x0 c.y0 c.x1 c.y1 ∧ RB V bs s.x0 s.y0 s.x1 s.y1) := fun V hV => by
    subst hL
    exact ⟨hV, hV.rect (by simp), hV.rect (by simp), hV.rect (by simp)⟩
  clear hL
  obtain ⟨hA, hB, hC⟩ := HF.out
  clear HF
  go_cut [10] from 23 to 33 (fun v wx => v = .bool true ∧ St w L wx)
  case first =>
    have hd := hs.drew
    clear hs
    cases hI : ins x.x0 x.y0 x.x1 x.y1 (scl c.x0 c.y0 c.x1 c.y1 z).x0 (scl c.x0 c.y0 c.x1 c.y1 z).y0 (scl c.x0 c.y0 c.x1 c.y1 z).x1 (scl c.x0 c.y0 c.x1 c.y1 z).y1
    case false =>
      clear hB
      obtain ⟨_, ⟨x00, x01, x02, x03⟩, ⟨c00, c01, c02, c03⟩, ⟨s00, s01, s02, s03⟩⟩ := HP.out _ hd
      first
        | (go_region_with (first | (go_at_call 16; (with_reducible refine (St.call (W := w) (L := L) ?_ (scale_any _ _ _ _ _ _)).mono ?_); (focus assumption); rintro e w4 ⟨rfl, h4⟩; obtain ⟨_, ⟨x00, x01, x02, x03⟩, ⟨c00, c01, c02, c03⟩, ⟨s00, s01, s02, s03⟩⟩ := HP.out _ h4) | (go_at_call 33; (with_reducible refine (St.call (W := w) (L := L) ?_ (inside_any _ _ _ _ _ _ _ _ _)).mono ?_); (focus assumption); rintro e w4 ⟨rfl, h4⟩; obtain ⟨_, ⟨x00, x01, x02, x03⟩, ⟨c00, c01, c02, c03⟩, ⟨s00, s01, s02, s03⟩⟩ := HP.out _ h4)))
        | fail
      all_goals
        go_wp2_with fail
        go_meet
        case rel => exact ⟨rfl, by assumption⟩
    case true =>
      have hB1 := hB hI
      clear hB
      go_region_held3 (fun V => St w L V ∧ RB V bx x.x0 x.y0 x.x1 x.y1 ∧ RB V bc c.x0 c.y0 c.x1 c.y1 ∧ RB V bs s.x0 s.y0 s.x1 s.y1) ((refine HP.out _ ?_; assumption)) (first | (go_at_call 16; (with_reducible refine (St.call (W := w) (L := L) ?_ (scale_any _ _ _ _ _ _)).mono ?_); (focus assumption); rintro e w4 ⟨rfl, h4⟩) | (go_at_call 18; (with_reducible refine (St.call (W := w) (L := L) ?_ (shrink_any _ _ _ _ _ _)).mono ?_); (focus assumption); rintro e w4 ⟨rfl, h4⟩) | (go_at_call 33; (with_reducible refine (St.call (W := w) (L := L) ?_ (inside_any _ _ _ _ _ _ _ _ _)).mono ?_); (focus assumption); rintro e w4 ⟨rfl, h4⟩) | (go_at_call 36; (with_reducible refine (St.call (W := w) (L := L) ?_ (equal_any _ _ _ _ _ _ _ _ _)).mono ?_); (focus assumption); rintro e w4 ⟨rfl, h4⟩))
      go_wp2_with fail
      go_meet
      case rel => exact ⟨rfl, h4⟩
  case rest =>
    obtain ⟨rfl, hX⟩ := hcut
    clear hs hB
    go_upto_region 7 with fail
    have hd := hX.drew
    clear hX
    go_region_held3 (fun V => St w L V ∧ RB V bx x.x0 x.y0 x.x1 x.y1 ∧ RB V bc c.x0 c.y0 c.x1 c.y1 ∧ RB V bs s.x0 s.y0 s.x1 s.y1) ((refine HP.out _ ?_; assumption)) (first | (go_at_call 16; (with_reducible refine (St.call (W := w) (L := L) ?_ (scale_any _ _ _ _ _ _)).mono ?_); (focus assumption); rintro e w4 ⟨rfl, h4⟩) | (go_at_call 18; (with_reducible refine (St.call (W := w) (L := L) ?_ (shrink_any _ _ _ _ _ _)).mono ?_); (focus assumption); rintro e w4 ⟨rfl, h4⟩) | (go_at_call 33; (with_reducible refine (St.call (W := w) (L := L) ?_ (inside_any _ _ _ _ _ _ _ _ _)).mono ?_); (focus assumption); rintro e w4 ⟨rfl, h4⟩) | (go_at_call 36; (with_reducible refine (St.call (W := w) (L := L) ?_ (equal_any _ _ _ _ _ _ _ _ _)).mono ?_); (focus assumption); rintro e w4 ⟨rfl, h4⟩))
    go_wp2_with fail
    go_ret
    exact ⟨rfl, h4.below⟩

set_option maxRecDepth 100000 in
theorem lifted (os : Os) (started : os.Started) (H : Type) (enc : TypeId × Value → H) :
    ReturnsInHanded {} Try.checked os 11 .any (Rows.rectShrinksSpec.pre6 enc Try.prog Try.f11 Rows.rectShrinksRow.domain false) (Rows.rectShrinksSpec.post enc Try.prog Try.f11 false true false false) := by
  refine returnsInHanded_of_change_sized (C := Try.checked) own started (by kernel_rfl) Try.func11
    (ChangeSpec.witness6 (enc := enc) (C := Try.checked) false ⟨#[], #[.agg #[.int .i64 0, .int .i64 0, .int .i64 0, .int .i64 0, .int .i64 0, .int .i64 0, .int .i64 0, .int .i64 0], .int .i64 0], []⟩ 8 (by kernel_rfl) (by kernel_rfl) (by kernel_rfl) (by kernel_rfl)) ?_
  intro W base args ds gs before hval0 hW _ _ _
  have hval : ∀ (j : Nat) t v, Try.f11.params[j]? = some t → args[j]? = some v → Value.okWide Try.prog W .any base t v := hval0
  have hW' := hW
  obtain ⟨p, q, hA0, hV, rfl, hfz, hnd⟩ := hW
  have hA : DataW.TrodAll enc Try.prog W 0 (fun _ => true) true Try.f11.params.toList args.toList ds p := hA0
  rw [Try.params11] at hA hval
  obtain ⟨v0, v1, d0, d1, p0, p1, rfl, rfl, rfl, h0, h1⟩ := trodAll_two hA
  obtain ⟨rfl, rfl⟩ := trodVars_none hV
  obtain ⟨q0, q1, q2, q3, q4, q5, q6, q7, rfl⟩ := agg_q2 (hval 0 39 v0 rfl rfl)
  obtain ⟨zoom, rfl, rfl, rfl, _⟩ := open_int Try.underlying3 (hval 1 3 v1 rfl rfl) h1
  refine (walk q0 q1 q2 q3 q4 q5 q6 q7 zoom W).mono fun e W' ⟨he, hb⟩ => ?_
  subst he
  exact ⟨_, rfl, law_post hW' rfl (by kernel_rfl) rfl (by intro t ht; rw [Try.params11] at ht; simp at ht; rcases ht with rfl | rfl <;> exact ⟨by kernel_rfl, of_decide_eq_true (by kernel_rfl)⟩) hb⟩

theorem holds : Rows.RectShrinksSaid :=
  OpenClaim.holds_of_wide 11 Try.f11 rfl rfl rfl rfl rfl rfl rfl ⟨rfl, rfl, rfl, rfl, rfl⟩ rfl rfl rfl rfl rfl (by kernel_rfl) Try.func11 (by kernel_rfl)
    (of_decide_eq_true (by kernel_rfl)) (by unfold Func.isWrapper; first | (rw [if_pos (by decide +kernel)]; kernel_rfl) | (rw [if_neg (by decide +kernel)]; exact ⟨rfl, rfl⟩))
    (fun os started H enc _ => lifted os started H enc)
end Go.Proofs.Ytjadccelplnpnaa.LShrinks
