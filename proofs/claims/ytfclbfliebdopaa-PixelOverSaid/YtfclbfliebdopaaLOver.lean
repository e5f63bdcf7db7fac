/-
  PixelOver: for all pixels, modes and coverages, Over returns what the reference returns. No conditions.
-/
import Derived.Test.YtfclbfliebdopaaLaw
import Derived.Test.YtfclbfliebdopaaSane
import Derived.Test.YtfclbfliebdopaaRefOver
namespace Go.Proofs.Ytfclbfliebdopaa.LOver
open Go.ChangeShapes Go.WideShapes Go.ChangeAt Go.RowKit


set_option maxHeartbeats 8000000 in
set_option maxRecDepth 100000 in
theorem walk (p0 p1 p2 p3 q0 q1 q2 q3 x0 x1 : Int) (w : World) (hp0 : Ch p0) (hp1 : Ch p1) (hp2 : Ch p2) (hp3 : Ch p3) (hq0 : Ch q0) (hq1 : Ch q1) (hq2 : Ch q2) (hq3 : Ch q3) : Calls Try.prog 4 #[pv p0 p1 p2 p3, pv q0 q1 q2 q3, .agg #[.int .i64 x0, .int .i64 x1]] w fun e w' => e = .returned (.bool true) ∧ Below w.heap.size w w' := by
  go_enter Try.func4, Try.ntmps4
  go_upto_region 1 with fail
  have hs := (((St.start w).alloc (po p0 p1 p2 p3)).alloc (po q0 q1 q2 q3)).alloc (.cells #[.int .i64 x0, .int .i64 x1] 28)
  rw [World.size_alloc, World.size_alloc] at hs
  generalize ((w.alloc (po p0 p1 p2 p3)).alloc (po q0 q1 q2 q3)).alloc (.cells #[.int .i64 x0, .int .i64 x1] 28) = w1 at hs ⊢
  go_upto_region 2 with (go_at_call 12; (with_reducible refine (St.call hs (sane_any _)).mono ?_); rintro e w2 ⟨rfl, h2⟩)
  clear hs
  have hx0 : w2.cell? ⟨w.heap.size + 1 + 1, 0, none⟩ = some (.int .i64 x0) := h2.cell (cs := #[.int .i64 x0, .int .i64 x1]) (t := 28) (by simp) 0
  have hx1 : w2.cell? ⟨w.heap.size + 1 + 1, 1, none⟩ = some (.int .i64 x1) := h2.cell (cs := #[.int .i64 x0, .int .i64 x1]) (t := 28) (by simp) 1
  go_upto_region 3 with fail
  clear hx0 hx1
  generalize bits BinOp.and IntKind.i64 x0 15 = n0
  generalize bits BinOp.and IntKind.i64 x1 255 = n1
  have hs := h2.alloc (.cells #[.int .i64 n0, .int .i64 n1] 28)
  generalize w2.heap.size = bn at hs ⊢
  generalize w2.alloc (.cells #[.int .i64 n0, .int .i64 n1] 28) = w3 at hs ⊢
  clear h2
  obtain ⟨L, hL⟩ : ∃ L, L = [(bn, .cells #[.int .i64 n0, .int .i64 n1] 28), (w.heap.size + 1 + 1, .cells #[.int .i64 x0, .int .i64 x1] 28), (w.heap.size + 1, po q0 q1 q2 q3), (w.heap.size, po p0 p1 p2 p3)] := ⟨_, rfl⟩
  rw [← hL] at hs
  have HP : Hid (∀ V, St w L V → St w L V ∧ RB V w.heap.size p0 p1 p2 p3 ∧ RB V (w.heap.size + 1) q0 q1 q2 q3 ∧ (V.cell? ⟨w.heap.size + 1 + 1, 0, none⟩ = some (.int .i64 x0) ∧ V.cell? ⟨w.heap.size + 1 + 1, 1, none⟩ = some (.int .i64 x1)) ∧ V.cell? ⟨bn, 0, none⟩ = some (.int .i64 n0) ∧ V.cell? ⟨bn, 1, none⟩ = some (.int .i64 n1)) := fun V h => by
    subst hL
    exact ⟨h, h.pix (by simp), h.pix (by simp), ⟨h.cell (cs := #[.int .i64 x0, .int .i64 x1]) (t := 28) (by simp) 0, h.cell (cs := #[.int .i64 x0, .int .i64 x1]) (t := 28) (by simp) 1⟩, h.cell (cs := #[.int .i64 n0, .int .i64 n1]) (t := 28) (by simp) 0, h.cell (cs := #[.int .i64 n0, .int .i64 n1]) (t := 28) (by simp) 1⟩
  clear hL
  have hd := hs.drew
  clear hs
  go_region_held3 (fun V => St w L V ∧ RB V w.heap.size p0 p1 p2 p3 ∧ RB V (w.heap.size + 1) q0 q1 q2 q3 ∧ (V.cell? ⟨w.heap.size + 1 + 1, 0, none⟩ = some (.int .i64 x0) ∧ V.cell? ⟨w.heap.size + 1 + 1, 1, none⟩ = some (.int .i64 x1)) ∧ V.cell? ⟨bn, 0, none⟩ = some (.int .i64 n0) ∧ V.cell? ⟨bn, 1, none⟩ = some (.int .i64 n1)) ((refine HP.out _ ?_; assumption)) (first
    | (go_at_call 17; (with_reducible refine (St.call (W := w) (L := L) ?_ (over_any _ _ _ _ _ _ _ _ _ _ _ hp0 hp1 hp2 hp3 hq0 hq1 hq2 hq3)).mono ?_); (focus assumption); rintro e w4 ⟨rfl, h4⟩)
    | (go_at_call 18; (with_reducible refine (St.call (W := w) (L := L) ?_ (refOver_any _ _ _ _ _ _ _ _ _ _ _ hp0 hp1 hp2 hp3 hq0 hq1 hq2 hq3)).mono ?_); (focus assumption); rintro e w4 ⟨rfl, h4⟩))
  go_wp2_with fail
  go_ret
  exact ⟨rfl, h4.below⟩

set_option maxRecDepth 100000 in
theorem lifted (os : Os) (started : os.Started) (H : Type) (enc : TypeId × Value → H) :
    ReturnsInHanded {} Try.checked os 4 .any (Rows.pixelOverSpec.pre6 enc Try.prog Try.f4 Rows.pixelOverRow.domain false) (Rows.pixelOverSpec.post enc Try.prog Try.f4 false true false false) := by
  refine returnsInHanded_of_change_sized (C := Try.checked) own started (by kernel_rfl) Try.func4
    (ChangeSpec.witness6 (enc := enc) (C := Try.checked) false ⟨#[], #[pv 0 0 0 0, pv 0 0 0 0, .agg #[.int .i64 0, .int .i64 0]], []⟩ 8 (by kernel_rfl) (by kernel_rfl) (by kernel_rfl) (by kernel_rfl)) ?_
  intro W base args ds gs before hval0 hW _ _ _
  have hval : ∀ (j : Nat) t v, Try.f4.params[j]? = some t → args[j]? = some v → Value.okWide Try.prog W .any base t v := hval0
  have hW' := hW
  obtain ⟨p, q, hA0, hV, rfl, hfz, hnd⟩ := hW
  have hA : DataW.TrodAll enc Try.prog W 0 (fun _ => true) true Try.f4.params.toList args.toList ds p := hA0
  rw [Try.params4] at hA hval
  obtain ⟨v0, v1, v2, d0, d1, d2, p0, p1, p2, rfl, rfl, rfl, h0, h1, h2⟩ := trodAll_three hA
  obtain ⟨rfl, rfl⟩ := trodVars_none hV
  obtain ⟨p0, p1, p2, p3, rfl, hp0, hp1, hp2, hp3⟩ := agg_pix (hval 0 27 v0 rfl rfl)
  obtain ⟨q0, q1, q2, q3, rfl, hq0, hq1, hq2, hq3⟩ := agg_pix (hval 1 27 v1 rfl rfl)
  obtain ⟨x0, x1, rfl⟩ := agg_n2 (hval 2 28 v2 rfl rfl)
  refine (walk p0 p1 p2 p3 q0 q1 q2 q3 x0 x1 W hp0 hp1 hp2 hp3 hq0 hq1 hq2 hq3).mono fun e W' ⟨he, hb⟩ => ?_
  subst he
  exact ⟨_, rfl, law_post hW' rfl (by kernel_rfl) rfl (by intro t ht; rw [Try.params4] at ht; simp at ht; rcases ht with rfl | rfl <;> exact ⟨by kernel_rfl, of_decide_eq_true (by kernel_rfl)⟩) hb⟩

theorem holds : Rows.PixelOverSaid :=
  OpenClaim.holds_of_wide 4 Try.f4 rfl rfl rfl rfl rfl rfl rfl ⟨rfl, rfl, rfl, rfl, rfl⟩ rfl rfl rfl rfl rfl (by kernel_rfl) Try.func4 (by kernel_rfl)
    (of_decide_eq_true (by kernel_rfl)) (by unfold Func.isWrapper; first | (rw [if_pos (by decide +kernel)]; kernel_rfl) | (rw [if_neg (by decide +kernel)]; exact ⟨rfl, rfl⟩))
    (fun os started H enc _ => lifted os started H enc)
end Go.Proofs.Ytfclbfliebdopaa.LOver
