/-
  The reference's channel and Over (contracts).
-/
import Derived.Test.YtkomknhloimhcaaMath
namespace Go.Proofs.Ytkomknhloimhcaa
open Go.RowKit

set_option maxRecDepth 100000 in
set_option maxHeartbeats 4000000 in
theorem refChannel_any (m u v b s : Int) (w : World) (hu : Ch u) (hv : Ch v) (hw : 0 < wgt u v) (hb : Ch b) (hs : Ch s) :
    Calls Try.prog 66 #[.int .i64 m, .int .i64 u, .int .i64 v, .int .i64 b, .int .i64 s, .int .i64 (wgt u v)] w fun e w' => e = .returned (.int .u8 (och m u v b s)) ∧ w = w' := by
  have hm := wgt_md hu hv
  obtain ⟨e0, e1, e2, e3, e4, e5, e6, e7, e8, e9⟩ := osum_parts m hu hv hb hs
  have k0 := w64m e0; have k1 := w64m e1; have k2 := w64m e2; have k3 := w64m e3; have k4 := w64m e4; have k5 := w64m e5; have k6 := w64m e6; have k7 := w64m e7; have k8 := w64m e8
  have k9 : IntKind.i64.wrap (u * (255 - v) * s + u * v * bl m b s + (255 - u) * v * b) = osum m u v b s := w64m e9
  have k10 : rd (osum m u v b s) (wgt u v) % 256 = och m u v b s := by have h := och_ch m hu hv hw hb hs; unfold och at *; omega
  go_enter Try.func66, Try.ntmps66
  go_wp2_with (first
    | (go_at_call 91; (refine (refBlend_any m b s _).mono ?_); rw [cl_of hb, cl_of hs]; rintro e w4 ⟨rfl, rfl⟩)
    | (go_at_call 67; (with_reducible refine (refRound_any _ _ _ e9.1 ?_ hw ?_).mono ?_); (focus omega); (focus omega); rintro e w4 ⟨rfl, rfl⟩))
  go_ret
  exact ⟨ret_int k10, rfl⟩

set_option maxRecDepth 100000 in
set_option maxHeartbeats 4000000 in
theorem refOver_to (p0 p1 p2 p3 q0 q1 q2 q3 m c u : Int) (O : Px) (w : World) (hp0 : Ch p0) (hp1 : Ch p1) (hp2 : Ch p2) (hp3 : Ch p3) (hq0 : Ch q0) (hq1 : Ch q1) (hq2 : Ch q2) (hq3 : Ch q3) (hU : mul q3 c = u) (hu : Ch u)
    (H0 : wgt u p3 = 0 → O = zp) (H1 : wgt u p3 ≠ 0 → O = ⟨och m u p3 p0 q0, och m u p3 p1 q1, och m u p3 p2 q2, rd (wgt u p3) 255⟩) :
    Calls Try.prog 47 #[pv p0 p1 p2 p3, pv q0 q1 q2 q3, .int .i64 m, .int .i64 c] w fun e w' => e = .returned O.v ∧ Below w.heap.size w w' := by
  have hm := wgt_md hu hp3
  have hsq := sq_ch hu hp3
  have ha := walp_ch hu hp3
  have k3 : rd (wgt u p3) 255 % 256 = rd (wgt u p3) 255 := by omega
  have hW : IntKind.i64.wrap (255 * u + 255 * p3 - u * p3) = wgt u p3 := w64m (x := wgt u p3) ⟨hm.1, by omega⟩
  have x0 := w64 hp0; have x1 := w64 hp1; have x2 := w64 hp2; have x3 := w64 hp3; have y0 := w64 hq0; have y1 := w64 hq1; have y2 := w64 hq2; have y3 := w64 hq3
  go_enter Try.func47, Try.ntmps47
  go_upto_region 1 with fail
  have hs := (((St.start w).alloc (po p0 p1 p2 p3)).alloc (po q0 q1 q2 q3)).alloc (po 0 0 0 0)
  rw [World.size_alloc, World.size_alloc] at hs
  generalize ((w.alloc (po p0 p1 p2 p3)).alloc (po q0 q1 q2 q3)).alloc (po 0 0 0 0) = w1 at hs ⊢
  obtain ⟨r0, r1, r2, r3⟩ := hs.pix (b := w.heap.size) (x0 := p0) (x1 := p1) (x2 := p2) (x3 := p3) (by simp)
  obtain ⟨s0, s1, s2, s3⟩ := hs.pix (b := w.heap.size + 1) (x0 := q0) (x1 := q1) (x2 := q2) (x3 := q3) (by simp)
  obtain ⟨t0, t1, t2, t3⟩ := hs.pix (b := w.heap.size + 1 + 1) (x0 := 0) (x1 := 0) (x2 := 0) (x3 := 0) (by simp)
  have f0 := fun j => hs.frozen (b := w.heap.size + 1 + 1) (cs := #[.int .u8 0, .int .u8 0, .int .u8 0, .int .u8 0]) (t := 23) (by simp) j
  go_upto_region 4 with (go_at_call 65; (refine (refMul_any q3 c _).mono ?_); rw [hU]; rintro e w4 ⟨rfl, rfl⟩)
  by_cases h0 : wgt u p3 = 0
  · obtain rfl := H0 h0
    go_wp2_with fail
    exact bodyPost_ret (v := zp.v) (by simp [results, Try.results47, go_sem, *]) rfl ⟨rfl, below_set4 hs.below (by omega) _ _ _ _⟩
  · obtain rfl := H1 h0
    have h1 : 0 < wgt u p3 := by omega
    go_wp2_with (first
      | (go_at_call 66; (refine (refChannel_any _ _ _ _ _ _ hu hp3 h1 (by assumption) (by assumption)).mono ?_); rintro e w4 ⟨rfl, rfl⟩)
      | (go_at_call 67; (with_reducible refine (refRound_any _ 255 _ hm.1 ?_ ?_ ?_).mono ?_); (focus omega); (focus decide); (focus decide); rintro e w4 ⟨rfl, rfl⟩))
    exact bodyPost_ret (v := (Px.mk (och m u p3 p0 q0) (och m u p3 p1 q1) (och m u p3 p2 q2) (rd (wgt u p3) 255)).v) (by simp [results, Try.results47, go_sem, *]) rfl ⟨rfl, below_set4 hs.below (by omega) _ _ _ _⟩
theorem refOver_any (p0 p1 p2 p3 q0 q1 q2 q3 m c : Int) (w : World) (hp0 : Ch p0) (hp1 : Ch p1) (hp2 : Ch p2) (hp3 : Ch p3) (hq0 : Ch q0) (hq1 : Ch q1) (hq2 : Ch q2) (hq3 : Ch q3) :
    Calls Try.prog 47 #[pv p0 p1 p2 p3, pv q0 q1 q2 q3, .int .i64 m, .int .i64 c] w fun e w' => e = .returned (ovr ⟨p0, p1, p2, p3⟩ ⟨q0, q1, q2, q3⟩ m c).v ∧ Below w.heap.size w w' :=
  refOver_to _ _ _ _ _ _ _ _ _ _ _ _ w hp0 hp1 hp2 hp3 hq0 hq1 hq2 hq3 rfl (mul_ch _ _) (fun h => if_pos h) (fun h => if_neg h)
end Go.Proofs.Ytkomknhloimhcaa
