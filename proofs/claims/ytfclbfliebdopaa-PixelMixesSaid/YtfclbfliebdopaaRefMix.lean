/-
  The reference's Mix (contract).
-/
import Derived.Test.YtfclbfliebdopaaMath
namespace Go.Proofs.Ytfclbfliebdopaa
open Go.RowKit

set_option maxRecDepth 100000 in
set_option maxHeartbeats 8000000 in
theorem refMix_to (p0 p1 p2 p3 q0 q1 q2 q3 t u P Q A : Int) (O : Px) (w : World) (hp0 : Ch p0) (hp1 : Ch p1) (hp2 : Ch p2) (hp3 : Ch p3) (hq0 : Ch q0) (hq1 : Ch q1) (hq2 : Ch q2) (hq3 : Ch q3) (hU : cl t = u) (hu : Ch u)
    (hP : p3 * (255 - u) = P) (hQ : q3 * u = Q) (hP' : 0 ≤ P ∧ P ≤ 65025) (hQ' : 0 ≤ Q ∧ Q ≤ 65025) (hA : rd (P + Q) 255 = A) (hA' : Ch A)
    (H0 : A = 0 → O = zp) (H1 : A ≠ 0 → O = ⟨mch P Q p0 q0, mch P Q p1 q1, mch P Q p2 q2, A⟩) :
    Calls Try.prog 20 #[pv p0 p1 p2 p3, pv q0 q1 q2 q3, .int .i64 t] w fun e w' => e = .returned O.v ∧ Below w.heap.size w w' := by
  have x0 := w64 hp0; have x1 := w64 hp1; have x2 := w64 hp2; have x3 := w64 hp3; have y0 := w64 hq0; have y1 := w64 hq1; have y2 := w64 hq2; have y3 := w64 hq3
  have k1 : IntKind.i64.wrap (p3 * (255 - u)) = P := by rw [hP]; exact w64m ⟨hP'.1, by omega⟩
  have k2 : IntKind.i64.wrap (q3 * u) = Q := by rw [hQ]; exact w64m ⟨hQ'.1, by omega⟩
  have k3 : IntKind.i64.wrap (255 - u) = 255 - u := w64m ⟨by omega, by omega⟩
  have k5 : IntKind.i64.wrap P = P := w64m ⟨hP'.1, by omega⟩
  have k6 : IntKind.i64.wrap Q = Q := w64m ⟨hQ'.1, by omega⟩
  have k4 : IntKind.i64.wrap (P + Q) = P + Q := w64m ⟨by omega, by omega⟩
  obtain ⟨a1, a2, a3, a4⟩ := msum_md hP' hQ' hp0 hq0
  obtain ⟨b1, b2, b3, b4⟩ := msum_md hP' hQ' hp1 hq1
  obtain ⟨c1, c2, c3, c4⟩ := msum_md hP' hQ' hp2 hq2
  go_enter Try.func20, Try.ntmps20
  go_upto_region 1 with fail
  have hs := (((St.start w).alloc (po p0 p1 p2 p3)).alloc (po q0 q1 q2 q3)).alloc (po 0 0 0 0)
  rw [World.size_alloc, World.size_alloc] at hs
  generalize ((w.alloc (po p0 p1 p2 p3)).alloc (po q0 q1 q2 q3)).alloc (po 0 0 0 0) = w1 at hs ⊢
  have HP : Hid (∀ V, St w [(w.heap.size + 1 + 1, po 0 0 0 0), (w.heap.size + 1, po q0 q1 q2 q3), (w.heap.size, po p0 p1 p2 p3)] V → St w [(w.heap.size + 1 + 1, po 0 0 0 0), (w.heap.size + 1, po q0 q1 q2 q3), (w.heap.size, po p0 p1 p2 p3)] V ∧ RB V w.heap.size p0 p1 p2 p3 ∧ RB V (w.heap.size + 1) q0 q1 q2 q3) := fun V h => ⟨h, h.pix (by simp), h.pix (by simp)⟩
  have hd := hs.drew
  clear hs
  go_region_held3 (fun V => St w [(w.heap.size + 1 + 1, po 0 0 0 0), (w.heap.size + 1, po q0 q1 q2 q3), (w.heap.size, po p0 p1 p2 p3)] V ∧ RB V w.heap.size p0 p1 p2 p3 ∧ RB V (w.heap.size + 1) q0 q1 q2 q3) ((refine HP.out _ ?_; assumption)) (first
    | (go_at_call 31; (refine (refClamp_any t _).mono ?_); rw [hU]; rintro e w4 ⟨rfl, rfl⟩))
  rename_i hHeld
  obtain ⟨hs, _⟩ := hHeld
  go_upto_region 2 with fail
  clear hd
  have hd := hs.drew
  clear hs
  go_region_held3 (fun V => St w [(w.heap.size + 1 + 1, po 0 0 0 0), (w.heap.size + 1, po q0 q1 q2 q3), (w.heap.size, po p0 p1 p2 p3)] V ∧ RB V w.heap.size p0 p1 p2 p3 ∧ RB V (w.heap.size + 1) q0 q1 q2 q3) ((refine HP.out _ ?_; assumption)) (first
    | (go_at_call 31; (refine (refClamp_any t _).mono ?_); rw [hU]; rintro e w4 ⟨rfl, rfl⟩))
  rename_i hHeld
  obtain ⟨hs, ⟨r0, r1, r2, r3⟩, ⟨s0, s1, s2, s3⟩⟩ := hHeld
  clear hd
  generalize w1.drew.drew = w2 at *
  obtain ⟨t0, t1, t2, t3⟩ := hs.pix (b := w.heap.size + 1 + 1) (x0 := 0) (x1 := 0) (x2 := 0) (x3 := 0) (by simp)
  have f0 := fun j => hs.frozen (b := w.heap.size + 1 + 1) (cs := #[.int .u8 0, .int .u8 0, .int .u8 0, .int .u8 0]) (t := 27) (by simp) j
  go_upto_region 4 with (go_at_call 37; (refine (refRound_any (P + Q) 255 _ (by omega) (by omega) (by decide) (by decide)).mono ?_); rw [hA]; rintro e w4 ⟨rfl, rfl⟩)
  by_cases h0 : A = 0
  · obtain rfl := H0 h0
    go_wp2_with fail
    exact bodyPost_ret (v := zp.v) (by simp [results, Try.results20, go_sem, *]) rfl ⟨rfl, below_set4 hs.below (by omega) _ _ _ _⟩
  · obtain rfl := H1 h0
    have hPQ : 0 < P + Q := rd_pos (by omega) (by rw [hA]; exact h0)
    have m0 := mch_ch hP' hQ' hPQ hp0 hq0
    have m1 := mch_ch hP' hQ' hPQ hp1 hq1
    have m2 := mch_ch hP' hQ' hPQ hp2 hq2
    have n0 : mch P Q p0 q0 % 256 = mch P Q p0 q0 := by omega
    have n1 : mch P Q p1 q1 % 256 = mch P Q p1 q1 := by omega
    have n2 : mch P Q p2 q2 % 256 = mch P Q p2 q2 := by omega
    have n3 : A % 256 = A := by omega
    go_wp2_with (first
      | (go_at_call 37; (with_reducible refine (refRound_any _ _ _ a3.1 ?_ hPQ ?_).mono ?_); (focus omega); (focus omega); rw [show rd (P * p0 + Q * q0) (P + Q) = mch P Q p0 q0 from rfl]; rintro e w4 ⟨rfl, rfl⟩)
      | (go_at_call 37; (with_reducible refine (refRound_any _ _ _ b3.1 ?_ hPQ ?_).mono ?_); (focus omega); (focus omega); rw [show rd (P * p1 + Q * q1) (P + Q) = mch P Q p1 q1 from rfl]; rintro e w4 ⟨rfl, rfl⟩)
      | (go_at_call 37; (with_reducible refine (refRound_any _ _ _ c3.1 ?_ hPQ ?_).mono ?_); (focus omega); (focus omega); rw [show rd (P * p2 + Q * q2) (P + Q) = mch P Q p2 q2 from rfl]; rintro e w4 ⟨rfl, rfl⟩))
    exact bodyPost_ret (v := (Px.mk (mch P Q p0 q0) (mch P Q p1 q1) (mch P Q p2 q2) A).v) (by simp [results, Try.results20, go_sem, *]) rfl ⟨rfl, below_set4 hs.below (by omega) _ _ _ _⟩
theorem refMix_any (p0 p1 p2 p3 q0 q1 q2 q3 t : Int) (w : World) (hp0 : Ch p0) (hp1 : Ch p1) (hp2 : Ch p2) (hp3 : Ch p3) (hq0 : Ch q0) (hq1 : Ch q1) (hq2 : Ch q2) (hq3 : Ch q3) :
    Calls Try.prog 20 #[pv p0 p1 p2 p3, pv q0 q1 q2 q3, .int .i64 t] w fun e w' => e = .returned (mxx ⟨p0, p1, p2, p3⟩ ⟨q0, q1, q2, q3⟩ t).v ∧ Below w.heap.size w w' :=
  refMix_to _ _ _ _ _ _ _ _ _ _ _ _ _ _ w hp0 hp1 hp2 hp3 hq0 hq1 hq2 hq3 rfl (cl_ch t) rfl rfl (mpq hp3 hq3 (cl_ch t)).1 (mpq hp3 hq3 (cl_ch t)).2.1 rfl (mpq hp3 hq3 (cl_ch t)).2.2 (fun h => if_pos h) (fun h => if_neg h)
end Go.Proofs.Ytfclbfliebdopaa
