/-
  The statements' own 'sanity' returns true: the chapter's examples.
-/
import Derived.Test.YtfclbfliebdopaaOver
import Derived.Test.YtfclbfliebdopaaMix
namespace Go.Proofs.Ytfclbfliebdopaa
open Go.RowKit

abbrev p8 (a b c d : Int) : Prop := Ch a ∧ Ch b ∧ Ch c ∧ Ch d
theorem over_ex : ovr ⟨0, 0, 255, 255⟩ ⟨255, 0, 0, 255⟩ 0 51 = ⟨51, 0, 204, 255⟩ := by kernel_rfl
theorem mix_ex : mxx ⟨255, 0, 0, 255⟩ ⟨0, 0, 0, 0⟩ 51 = ⟨255, 0, 0, 204⟩ := by kernel_rfl
theorem over_px (p0 p1 p2 p3 q0 q1 q2 q3 m c : Int) (O : Px) (w : World) (hp0 : Ch p0) (hp1 : Ch p1) (hp2 : Ch p2) (hp3 : Ch p3) (hq0 : Ch q0) (hq1 : Ch q1) (hq2 : Ch q2) (hq3 : Ch q3) (hO : ovr ⟨p0, p1, p2, p3⟩ ⟨q0, q1, q2, q3⟩ m c = O) :
    Calls Try.prog 17 #[pv p0 p1 p2 p3, pv q0 q1 q2 q3, .int .i64 m, .int .i64 c] w fun e w' => e = .returned (pv O.r O.g O.b O.a) ∧ Below w.heap.size w w' := by
  subst hO; exact over_any _ _ _ _ _ _ _ _ _ _ w hp0 hp1 hp2 hp3 hq0 hq1 hq2 hq3
theorem mix_px (p0 p1 p2 p3 q0 q1 q2 q3 t : Int) (O : Px) (w : World) (hp0 : Ch p0) (hp1 : Ch p1) (hp2 : Ch p2) (hp3 : Ch p3) (hq0 : Ch q0) (hq1 : Ch q1) (hq2 : Ch q2) (hq3 : Ch q3) (hO : mxx ⟨p0, p1, p2, p3⟩ ⟨q0, q1, q2, q3⟩ t = O) :
    Calls Try.prog 19 #[pv p0 p1 p2 p3, pv q0 q1 q2 q3, .int .i64 t] w fun e w' => e = .returned (pv O.r O.g O.b O.a) ∧ Below w.heap.size w w' := by
  subst hO; exact mix_any _ _ _ _ _ _ _ _ _ w hp0 hp1 hp2 hp3 hq0 hq1 hq2 hq3

set_option maxHeartbeats 4000000 in
theorem sane_any (w : World) : Calls Try.prog 12 #[] w fun e w' => e = .returned (.bool true) ∧ Below w.heap.size w w' := by
  go_enter Try.func12, Try.ntmps12
  go_upto_region 3 with fail
  have hs := ((St.start w).alloc (po 255 0 0 255)).alloc (po 0 0 255 255)
  rw [World.size_alloc] at hs
  generalize (w.alloc (po 255 0 0 255)).alloc (po 0 0 255 255) = w1 at hs ⊢
  obtain ⟨r0, r1, r2, r3⟩ := hs.pix (b := w.heap.size) (x0 := 255) (x1 := 0) (x2 := 0) (x3 := 255) (by simp)
  obtain ⟨s0, s1, s2, s3⟩ := hs.pix (b := w.heap.size + 1) (x0 := 0) (x1 := 0) (x2 := 255) (x3 := 255) (by simp)
  go_upto_region 4 with (go_at_call 17; (refine (St.call hs (over_px _ _ _ _ _ _ _ _ _ _ _ _ (by decide) (by decide) (by decide) (by decide) (by decide) (by decide) (by decide) (by decide) over_ex)).mono ?_); rintro e w2 ⟨rfl, h2⟩)
  clear hs r0 r1 r2 r3 s0 s1 s2 s3
  have hs := h2.alloc (po 51 0 204 255)
  generalize w2.heap.size = bx at hs ⊢
  generalize w2.alloc (po 51 0 204 255) = w3 at hs ⊢
  obtain ⟨r0, r1, r2, r3⟩ := hs.pix (b := w.heap.size) (x0 := 255) (x1 := 0) (x2 := 0) (x3 := 255) (by simp)
  go_upto_region 5 with (go_at_call 19; (refine (St.call hs (mix_px _ _ _ _ _ _ _ _ _ _ _ (by decide) (by decide) (by decide) (by decide) (by decide) (by decide) (by decide) (by decide) mix_ex)).mono ?_); rintro e w4 ⟨rfl, h4⟩)
  clear hs h2 r0 r1 r2 r3
  have hs := h4.alloc (po 255 0 0 204)
  clear h4
  generalize w4.heap.size = by' at hs ⊢
  generalize w4.alloc (po 255 0 0 204) = w5 at hs ⊢
  have HP : Hid (∀ V, St w [(by', po 255 0 0 204), (bx, po 51 0 204 255), (w.heap.size + 1, po 0 0 255 255), (w.heap.size, po 255 0 0 255)] V → RB V by' 255 0 0 204 ∧ RB V bx 51 0 204 255) := fun V h => ⟨h.pix (by simp), h.pix (by simp)⟩
  go_wp2_with (first
    | (go_at_call 15; (with_reducible refine (St.call hs (mul_any _ _ _)).mono ?_); rintro e w6 ⟨rfl, h6⟩; rw [show mul 128 128 = 64 by decide]; obtain ⟨⟨r0, r1, r2, r3⟩, ⟨s0, s1, s2, s3⟩⟩ := HP.out _ h6)
    | (go_at_call 13; (with_reducible refine (St.call h6 (blend_any _ _ _ _)).mono ?_); rintro e w7 ⟨rfl, h7⟩; rw [show bl 2 (cl 100) (cl 200) = 222 by decide]; obtain ⟨⟨y0, y1, y2, y3⟩, ⟨z0, z1, z2, z3⟩⟩ := HP.out _ h7))
  go_ret
  exact ⟨rfl, h7.below⟩
end Go.Proofs.Ytfclbfliebdopaa
