/-
  PixelMixes: for all pixels and parameters, Mix, Fade and Clean return what the reference returns. No conditions.
-/
import Derived.Test.YtfclbfliebdopaaLaw
import Derived.Test.YtfclbfliebdopaaSane
import Derived.Test.YtfclbfliebdopaaRefMix
import Derived.Test.YtfclbfliebdopaaFade
namespace Go.Proofs.Ytfclbfliebdopaa.LMixes
open Go.ChangeShapes Go.WideShapes Go.ChangeAt Go.RowKit


set_option maxHeartbeats 8000000 in
set_option maxRecDepth 100000 in
theorem walk (p0 p1 p2 p3 q0 q1 q2 q3 t : Int) (w : World) (hp0 : Ch p0) (hp1 : Ch p1) (hp2 : Ch p2) (hp3 : Ch p3) (hq0 : Ch q0) (hq1 : Ch q1) (hq2 : Ch q2) (hq3 : Ch q3) : Calls Try.prog 5 #[pv p0 p1 p2 p3, pv q0 q1 q2 q3, .int .i64 t] w fun e w' => e = .returned (.bool true) ∧ Below w.heap.size w w' := by
  go_enter Try.func5, Try.ntmps5
  go_upto_region 1 with fail
  have hs := ((St.start w).alloc (po p0 p1 p2 p3)).alloc (po q0 q1 q2 q3)
  rw [World.size_alloc] at hs
  generalize (w.alloc (po p0 p1 p2 p3)).alloc (po q0 q1 q2 q3) = w1 at hs ⊢
  go_upto_region 2 with (go_at_call 12; (with_reducible refine (St.call hs (sane_any _)).mono ?_); rintro e w2 ⟨rfl, h2⟩)
  clear hs
  have HP : Hid (∀ V, St w [(w.heap.size + 1, po q0 q1 q2 q3), (w.heap.size, po p0 p1 p2 p3)] V → St w [(w.heap.size + 1, po q0 q1 q2 q3), (w.heap.size, po p0 p1 p2 p3)] V ∧ RB V w.heap.size p0 p1 p2 p3 ∧ RB V (w.heap.size + 1) q0 q1 q2 q3) := fun V h => ⟨h, h.pix (by simp), h.pix (by simp)⟩
  have hd := h2.drew
  clear h2
  go_region_held3 (fun V => St w [(w.heap.size + 1, po q0 q1 q2 q3), (w.heap.size, po p0 p1 p2 p3)] V ∧ RB V w.heap.size p0 p1 p2 p3 ∧ RB V (w.heap.size + 1) q0 q1 q2 q3) ((refine HP.out _ ?_; assumption)) (first
    | (go_at_call 19; (with_reducible refine (St.call (W := w) (L := [(w.heap.size + 1, po q0 q1 q2 q3), (w.heap.size, po p0 p1 p2 p3)]) ?_ (mix_any _ _ _ _ _ _ _ _ _ _ hp0 hp1 hp2 hp3 hq0 hq1 hq2 hq3)).mono ?_); (focus assumption); rintro e w4 ⟨rfl, h4⟩)
    | (go_at_call 20; (with_reducible refine (St.call (W := w) (L := [(w.heap.size + 1, po q0 q1 q2 q3), (w.heap.size, po p0 p1 p2 p3)]) ?_ (refMix_any _ _ _ _ _ _ _ _ _ _ hp0 hp1 hp2 hp3 hq0 hq1 hq2 hq3)).mono ?_); (focus assumption); rintro e w4 ⟨rfl, h4⟩)
    | (go_at_call 21; (with_reducible refine (St.call (W := w) (L := [(w.heap.size + 1, po q0 q1 q2 q3), (w.heap.size, po p0 p1 p2 p3)]) ?_ (fade_any p0 p1 p2 p3 _ _ hp3)).mono ?_); (focus assumption); rintro e w4 ⟨rfl, h4⟩)
    | (go_at_call 21; (with_reducible refine (St.call (W := w) (L := [(w.heap.size + 1, po q0 q1 q2 q3), (w.heap.size, po p0 p1 p2 p3)]) ?_ (fade_any q0 q1 q2 q3 _ _ hq3)).mono ?_); (focus assumption); rintro e w4 ⟨rfl, h4⟩)
    | (go_at_call 22; (with_reducible refine (St.call (W := w) (L := [(w.heap.size + 1, po q0 q1 q2 q3), (w.heap.size, po p0 p1 p2 p3)]) ?_ (refFade_any p0 p1 p2 p3 _ _ hp3)).mono ?_); (focus assumption); rintro e w4 ⟨rfl, h4⟩)
    | (go_at_call 22; (with_reducible refine (St.call (W := w) (L := [(w.heap.size + 1, po q0 q1 q2 q3), (w.heap.size, po p0 p1 p2 p3)]) ?_ (refFade_any q0 q1 q2 q3 _ _ hq3)).mono ?_); (focus assumption); rintro e w4 ⟨rfl, h4⟩)
    | (go_at_call 23; (with_reducible refine (St.call (W := w) (L := [(w.heap.size + 1, po q0 q1 q2 q3), (w.heap.size, po p0 p1 p2 p3)]) ?_ (clean_any _ _ _ _ _)).mono ?_); (focus assumption); rintro e w4 ⟨rfl, h4⟩)
    | (go_at_call 24; (with_reducible refine (St.call (W := w) (L := [(w.heap.size + 1, po q0 q1 q2 q3), (w.heap.size, po p0 p1 p2 p3)]) ?_ (refClean_any _ _ _ _ _)).mono ?_); (focus assumption); rintro e w4 ⟨rfl, h4⟩))
  go_wp2_with fail
  go_ret
  exact ⟨rfl, h4.below⟩

set_option maxRecDepth 100000 in
theorem lifted (os : Os) (started : os.Started) (H : Type) (enc : TypeId × Value → H) :
    ReturnsInHanded {} Try.checked os 5 .any (Rows.pixelMixesSpec.pre6 enc Try.prog Try.f5 Rows.pixelMixesRow.domain false) (Rows.pixelMixesSpec.post enc Try.prog Try.f5 false true false false) := by
  refine returnsInHanded_of_change_sized (C := Try.checked) own started (by kernel_rfl) Try.func5
    (ChangeSpec.witness6 (enc := enc) (C := Try.checked) false ⟨#[], #[pv 0 0 0 0, pv 0 0 0 0, .int .i64 0], []⟩ 8 (by kernel_rfl) (by kernel_rfl) (by kernel_rfl) (by kernel_rfl)) ?_
  intro W base args ds gs before hval0 hW _ _ _
  have hval : ∀ (j : Nat) t v, Try.f5.params[j]? = some t → args[j]? = some v → Value.okWide Try.prog W .any base t v := hval0
  have hW' := hW
  obtain ⟨p, q, hA0, hV, rfl, hfz, hnd⟩ := hW
  have hA : DataW.TrodAll enc Try.prog W 0 (fun _ => true) true Try.f5.params.toList args.toList ds p := hA0
  rw [Try.params5] at hA hval
  obtain ⟨v0, v1, v2, d0, d1, d2, p0, p1, p2, rfl, rfl, rfl, h0, h1, h2⟩ := trodAll_three hA
  obtain ⟨rfl, rfl⟩ := trodVars_none hV
  obtain ⟨p0, p1, p2, p3, rfl, hp0, hp1, hp2, hp3⟩ := agg_pix (hval 0 27 v0 rfl rfl)
  obtain ⟨q0, q1, q2, q3, rfl, hq0, hq1, hq2, hq3⟩ := agg_pix (hval 1 27 v1 rfl rfl)
  obtain ⟨t, rfl, rfl, rfl, _⟩ := open_int Try.underlying3 (hval 2 3 v2 rfl rfl) h2
  refine (walk p0 p1 p2 p3 q0 q1 q2 q3 t W hp0 hp1 hp2 hp3 hq0 hq1 hq2 hq3).mono fun e W' ⟨he, hb⟩ => ?_
  subst he
  exact ⟨_, rfl, law_post hW' rfl (by kernel_rfl) rfl (by intro t ht; rw [Try.params5] at ht; simp at ht; rcases ht with rfl | rfl <;> exact ⟨by kernel_rfl, of_decide_eq_true (by kernel_rfl)⟩) hb⟩

theorem holds : Rows.PixelMixesSaid :=
  OpenClaim.holds_of_wide 5 Try.f5 rfl rfl rfl rfl rfl rfl rfl ⟨rfl, rfl, rfl, rfl, rfl⟩ rfl rfl rfl rfl rfl (by kernel_rfl) Try.func5 (by kernel_rfl)
    (of_decide_eq_true (by kernel_rfl)) (by unfold Func.isWrapper; first | (rw [if_pos (by decide +kernel)]; kernel_rfl) | (rw [if_neg (by decide +kernel)]; exact ⟨rfl, rfl⟩))
    (fun os started H enc _ => lifted os started H enc)
end Go.Proofs.Ytfclbfliebdopaa.LMixes
