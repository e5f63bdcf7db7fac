/-
  The reference's look: a colour in a valid grid, the same interpolation.
-/
import Derived.Test.YtcmplgiilcfncaaKRPos
import Derived.Test.YtcmplgiilcfncaaKRGam
import Derived.Test.YtcmplgiilcfncaaKIplM
import Derived.Deep.CutBlock
namespace Go.Proofs.Ytcmplgiilcfncaa.K
open Go.RowKit
set_option maxRecDepth 100000
variable {W w w' : World} {L : List (Nat × Obj)}

set_option maxHeartbeats 16000000 in
theorem rlook_any (n : Nat) (v : Value) (l : List C3) (c0 c1 c2 : Int) (w : World) (hcl : Cls w v l) (hg : GV n l) : Calls Try.prog 15 #[gv n v, ag c0 c1 c2] w fun e w' => e = .returned (ipl n l ⟨c0, c1, c2⟩).v ∧ Below w.heap.size w w' := by
  have h2 := hg.two
  have h17 := hg.max
  have hlen := hg.len
  have hgam := hg.gam
  have h8 : 0 < n * n * n := Nat.mul_pos (Nat.mul_pos (by omega) (by omega)) (by omega)
  obtain ⟨bl, ol, cap, rfl, _, _, hrow⟩ := hcl.row (by omega)
  have HG : Hid (∀ V, Calls Try.prog 35 #[ag c0 c1 c2] V fun e w' => e = .returned (ag (clp 0 65535 c0) (clp 0 65535 c1) (clp 0 65535 c2)) ∧ Below V.heap.size V w') := fun V => rgam_any c0 c1 c2 V
  have k0 : Gm (clp 0 65535 c0) := by unfold Gm clp; omega
  have k1 : Gm (clp 0 65535 c1) := by unfold Gm clp; omega
  have k2 : Gm (clp 0 65535 c2) := by unfold Gm clp; omega
  obtain ⟨p0, a0, f0, hp0, wp0, ws0, p00, p01, ha0, hm0, a00, a01, hf0, hg0, f00, f01⟩ := cel_facts (n := (n : Int)) (by omega) (by omega) k0
  obtain ⟨p1, a1, f1, hp1, wp1, ws1, p10, p11, ha1, hm1, a10, a11, hf1, hg1, f10, f11⟩ := cel_facts (n := (n : Int)) (by omega) (by omega) k1
  obtain ⟨p2, a2, f2, hp2, wp2, ws2, p20, p21, ha2, hm2, a20, a21, hf2, hg2, f20, f21⟩ := cel_facts (n := (n : Int)) (by omega) (by omega) k2
  have hfo : fo n ⟨c0, c1, c2⟩ = f3 f0 f1 f2 := by unfold fo; rw [hf0, hf1, hf2]
  have hcor : q0 n ⟨c0, c1, c2⟩ = plc n ⟨a0, a1, a2⟩ := by unfold q0 cor plc; rw [ha0, ha1, ha2]
  obtain ⟨hperm, hab, hbc⟩ := insO_perm (fo n ⟨c0, c1, c2⟩)
  have hs1 : q1 n ⟨c0, c1, c2⟩ = q0 n ⟨c0, c1, c2⟩ + strd n (ax n ⟨c0, c1, c2⟩).a := rfl
  have hs2 : q2 n ⟨c0, c1, c2⟩ = q1 n ⟨c0, c1, c2⟩ + strd n (ax n ⟨c0, c1, c2⟩).b := rfl
  have hs3 : q3 n ⟨c0, c1, c2⟩ = q2 n ⟨c0, c1, c2⟩ + strd n (ax n ⟨c0, c1, c2⟩).c := rfl
  have hS0 : s0 n l ⟨c0, c1, c2⟩ = wsum c30 (c3n l (q0 n ⟨c0, c1, c2⟩).toNat) (65535 - fo n ⟨c0, c1, c2⟩ (ax n ⟨c0, c1, c2⟩).a) := rfl
  have hS1 : s1 n l ⟨c0, c1, c2⟩ = wsum (s0 n l ⟨c0, c1, c2⟩) (c3n l (q1 n ⟨c0, c1, c2⟩).toNat) (fo n ⟨c0, c1, c2⟩ (ax n ⟨c0, c1, c2⟩).a - fo n ⟨c0, c1, c2⟩ (ax n ⟨c0, c1, c2⟩).b) := rfl
  have hS2 : s2 n l ⟨c0, c1, c2⟩ = wsum (s1 n l ⟨c0, c1, c2⟩) (c3n l (q2 n ⟨c0, c1, c2⟩).toNat) (fo n ⟨c0, c1, c2⟩ (ax n ⟨c0, c1, c2⟩).b - fo n ⟨c0, c1, c2⟩ (ax n ⟨c0, c1, c2⟩).c) := rfl
  have hS3 : s3 n l ⟨c0, c1, c2⟩ = wsum (s2 n l ⟨c0, c1, c2⟩) (c3n l (q3 n ⟨c0, c1, c2⟩).toNat) (fo n ⟨c0, c1, c2⟩ (ax n ⟨c0, c1, c2⟩).c) := rfl
  have hE : ipl n l ⟨c0, c1, c2⟩ = (s3 n l ⟨c0, c1, c2⟩).map fun v => (v + 32767) / 65535 := rfl
  have hax : ax n ⟨c0, c1, c2⟩ = insO (fo n ⟨c0, c1, c2⟩) 3 := rfl
  rw [← hax] at hperm hab hbc
  rw [hfo, ← bub_eq] at hax
  rw [hfo] at hab hbc hS0 hS1 hS2 hS3
  generalize ax n ⟨c0, c1, c2⟩ = T at *
  obtain ⟨ta, tb, tc⟩ := T
  obtain ⟨hta, htb, htc⟩ := hperm.lt
  simp only [] at hab hbc hs1 hs2 hs3 hS0 hS1 hS2 hS3 hta htb htc
  obtain ⟨d0, d1, d2, d3⟩ := inc_bd (n := (n : Int)) (a := ⟨a0, a1, a2⟩) ⟨⟨a00, a01⟩, ⟨a10, a11⟩, ⟨a20, a21⟩⟩ hperm
  have t1 := inc_set hta ⟨a0, a1, a2⟩
  have t2 := inc_set htb (inc ta ⟨a0, a1, a2⟩)
  have t3 := inc_set htc (inc tb (inc ta ⟨a0, a1, a2⟩))
  have r1 := plc_inc hta n ⟨a0, a1, a2⟩
  have r2 := plc_inc htb n (inc ta ⟨a0, a1, a2⟩)
  have r3 := plc_inc htc n (inc tb (inc ta ⟨a0, a1, a2⟩))
  generalize inc tc (inc tb (inc ta ⟨a0, a1, a2⟩)) = P3 at *
  generalize inc tb (inc ta ⟨a0, a1, a2⟩) = P2 at *
  generalize inc ta ⟨a0, a1, a2⟩ = P1 at *
  obtain ⟨y0, z0, u0, Q0, hy0, hz0, hu0, hv0, hq0, l0⟩ := pos_facts h2 h17 hlen d0
  obtain ⟨y1, z1, u1, Q1, hy1, hz1, hu1, hv1, hq1, l1⟩ := pos_facts h2 h17 hlen d1
  obtain ⟨y2, z2, u2, Q2, hy2, hz2, hu2, hv2, hq2, l2⟩ := pos_facts h2 h17 hlen d2
  obtain ⟨y3, z3, u3, Q3, hy3, hz3, hu3, hv3, hq3, l3⟩ := pos_facts h2 h17 hlen d3
  obtain ⟨e10, e11, e12⟩ := d1
  obtain ⟨e20, e21, e22⟩ := d2
  obtain ⟨e30, e31, e32⟩ := d3
  rw [hcor, hq0] at hs1 hS0
  rw [hs1, show (Q0 : Int) + strd n ta = Q1 by omega] at hs2 hS1
  rw [hs2, show (Q1 : Int) + strd n tb = Q2 by omega] at hs3 hS2
  rw [hs3, show (Q2 : Int) + strd n tc = Q3 by omega] at hS3
  rw [Int.toNat_natCast] at hS0 hS1 hS2 hS3
  have g0 := hgam Q0 l0; have g1 := hgam Q1 l1; have g2 := hgam Q2 l2; have g3 := hgam Q3 l3
  have x0 := hrow.at' Q0 l0; have x1 := hrow.at' Q1 l1; have x2 := hrow.at' Q2 l2; have x3 := hrow.at' Q3 l3
  have hbl := hrow.lt
  have HLS := Lib.hid (And.intro l0 (And.intro l1 (And.intro l2 l3)))
  generalize c3n l Q0 = X0 at *
  generalize c3n l Q1 = X1 at *
  generalize c3n l Q2 = X2 at *
  generalize c3n l Q3 = X3 at *
  have fa : 0 ≤ f3 f0 f1 f2 ta ∧ f3 f0 f1 f2 ta ≤ 65535 := by rcases (by omega : ta = 0 ∨ ta = 1 ∨ ta = 2) with rfl | rfl | rfl <;> exact ⟨by assumption, by assumption⟩
  have fb : 0 ≤ f3 f0 f1 f2 tb ∧ f3 f0 f1 f2 tb ≤ 65535 := by rcases (by omega : tb = 0 ∨ tb = 1 ∨ tb = 2) with rfl | rfl | rfl <;> exact ⟨by assumption, by assumption⟩
  have fc : 0 ≤ f3 f0 f1 f2 tc ∧ f3 f0 f1 f2 tc ≤ 65535 := by rcases (by omega : tc = 0 ∨ tc = 1 ∨ tc = 2) with rfl | rfl | rfl <;> exact ⟨by assumption, by assumption⟩
  generalize s3 n l ⟨c0, c1, c2⟩ = S3 at *
  generalize s2 n l ⟨c0, c1, c2⟩ = S2 at *
  generalize s1 n l ⟨c0, c1, c2⟩ = S1 at *
  generalize s0 n l ⟨c0, c1, c2⟩ = S0 at *
  obtain ⟨Fa, hFa⟩ : ∃ x, f3 f0 f1 f2 ta = x := ⟨_, rfl⟩
  obtain ⟨Fb, hFb⟩ : ∃ x, f3 f0 f1 f2 tb = x := ⟨_, rfl⟩
  obtain ⟨Fc, hFc⟩ : ∃ x, f3 f0 f1 f2 tc = x := ⟨_, rfl⟩
  rw [hFa] at hab fa hS0 hS1
  rw [hFb] at hab hbc fb hS1 hS2
  rw [hFc] at hbc fc hS2 hS3
  have E0 : (0 ≤ S0.r ∧ S0.r ≤ 4294836225) ∧ (0 ≤ S0.g ∧ S0.g ≤ 4294836225) ∧ (0 ≤ S0.b ∧ S0.b ≤ 4294836225) := by
    have := sum_bd (s := c30) (B := 0) g0 (by omega : 0 ≤ 65535 - Fa) (by omega) (by simp [c30])
    rw [hS0]; simpa using this
  have E1 := sum_bd (B := 4294836225) g1 (by omega : 0 ≤ Fa - Fb) (by omega) E0
  rw [← hS1] at E1
  have E2 := sum_bd g2 (by omega : 0 ≤ Fb - Fc) (by omega) E1
  rw [← hS2] at E2
  have E3 := sum_bd g3 fc.1 fc.2 E2
  rw [← hS3] at E3
  obtain ⟨M00, M00w, M00s⟩ := mul_facts (s := c30.r) (m := (65535 - Fa)) g0.1 (by omega) (by omega) (by simp [c30]) (by simp [c30])
  rw [show c30.r + X0.r * (65535 - Fa) = S0.r by rw [hS0]; rfl] at M00s
  obtain ⟨M01, M01w, M01s⟩ := mul_facts (s := c30.g) (m := (65535 - Fa)) g0.2.1 (by omega) (by omega) (by simp [c30]) (by simp [c30])
  rw [show c30.g + X0.g * (65535 - Fa) = S0.g by rw [hS0]; rfl] at M01s
  obtain ⟨M02, M02w, M02s⟩ := mul_facts (s := c30.b) (m := (65535 - Fa)) g0.2.2 (by omega) (by omega) (by simp [c30]) (by simp [c30])
  rw [show c30.b + X0.b * (65535 - Fa) = S0.b by rw [hS0]; rfl] at M02s
  obtain ⟨M10, M10w, M10s⟩ := mul_facts (s := S0.r) (m := (Fa - Fb)) g1.1 (by omega) (by omega) (by omega) (by omega)
  rw [show S0.r + X1.r * (Fa - Fb) = S1.r by rw [hS1]; rfl] at M10s
  obtain ⟨M11, M11w, M11s⟩ := mul_facts (s := S0.g) (m := (Fa - Fb)) g1.2.1 (by omega) (by omega) (by omega) (by omega)
  rw [show S0.g + X1.g * (Fa - Fb) = S1.g by rw [hS1]; rfl] at M11s
  obtain ⟨M12, M12w, M12s⟩ := mul_facts (s := S0.b) (m := (Fa - Fb)) g1.2.2 (by omega) (by omega) (by omega) (by omega)
  rw [show S0.b + X1.b * (Fa - Fb) = S1.b by rw [hS1]; rfl] at M12s
  obtain ⟨M20, M20w, M20s⟩ := mul_facts (s := S1.r) (m := (Fb - Fc)) g2.1 (by omega) (by omega) (by omega) (by omega)
  rw [show S1.r + X2.r * (Fb - Fc) = S2.r by rw [hS2]; rfl] at M20s
  obtain ⟨M21, M21w, M21s⟩ := mul_facts (s := S1.g) (m := (Fb - Fc)) g2.2.1 (by omega) (by omega) (by omega) (by omega)
  rw [show S1.g + X2.g * (Fb - Fc) = S2.g by rw [hS2]; rfl] at M21s
  obtain ⟨M22, M22w, M22s⟩ := mul_facts (s := S1.b) (m := (Fb - Fc)) g2.2.2 (by omega) (by omega) (by omega) (by omega)
  rw [show S1.b + X2.b * (Fb - Fc) = S2.b by rw [hS2]; rfl] at M22s
  obtain ⟨M30, M30w, M30s⟩ := mul_facts (s := S2.r) (m := Fc) g3.1 (by omega) (by omega) (by omega) (by omega)
  rw [show S2.r + X3.r * Fc = S3.r by rw [hS3]; rfl] at M30s
  obtain ⟨M31, M31w, M31s⟩ := mul_facts (s := S2.g) (m := Fc) g3.2.1 (by omega) (by omega) (by omega) (by omega)
  rw [show S2.g + X3.g * Fc = S3.g by rw [hS3]; rfl] at M31s
  obtain ⟨M32, M32w, M32s⟩ := mul_facts (s := S2.b) (m := Fc) g3.2.2 (by omega) (by omega) (by omega) (by omega)
  rw [show S2.b + X3.b * Fc = S3.b by rw [hS3]; rfl] at M32s
  simp only [c30] at M00s M01s M02s
  have HRES : Hid ((IntKind.i64.wrap (S3.r + 32767) = S3.r + 32767 ∧ wrap64 (S3.r + 32767) = S3.r + 32767 ∧ 0 ≤ S3.r + 32767) ∧ (IntKind.i64.wrap (S3.g + 32767) = S3.g + 32767 ∧ wrap64 (S3.g + 32767) = S3.g + 32767 ∧ 0 ≤ S3.g + 32767) ∧ (IntKind.i64.wrap (S3.b + 32767) = S3.b + 32767 ∧ wrap64 (S3.b + 32767) = S3.b + 32767 ∧ 0 ≤ S3.b + 32767)) := ⟨⟨wr_in (by omega), wrap_in (by omega), by omega⟩, ⟨wr_in (by omega), wrap_in (by omega), by omega⟩, ⟨wr_in (by omega), wrap_in (by omega), by omega⟩⟩
  have HM0z : Hid ((IntKind.i64.wrap M00 = S0.r ∧ wrap64 M00 = S0.r) ∧ (IntKind.i64.wrap M01 = S0.g ∧ wrap64 M01 = S0.g) ∧ (IntKind.i64.wrap M02 = S0.b ∧ wrap64 M02 = S0.b)) := by
    have a := M00s; have b := M01s; have c := M02s
    simp only [Int.zero_add] at a b c
    exact ⟨a, b, c⟩
  obtain ⟨R0, hR0⟩ : ∃ R, (S3.r + 32767) / 65535 = R := ⟨_, rfl⟩
  obtain ⟨R1, hR1⟩ : ∃ R, (S3.g + 32767) / 65535 = R := ⟨_, rfl⟩
  obtain ⟨R2, hR2⟩ : ∃ R, (S3.b + 32767) / 65535 = R := ⟨_, rfl⟩
  have HQT : Hid ((IntKind.i64.wrap ((S3.r + 32767).tdiv 65535) = R0 ∧ wrap64 ((S3.r + 32767).tdiv 65535) = R0) ∧ (IntKind.i64.wrap ((S3.g + 32767).tdiv 65535) = R1 ∧ wrap64 ((S3.g + 32767).tdiv 65535) = R1) ∧ (IntKind.i64.wrap ((S3.b + 32767).tdiv 65535) = R2 ∧ wrap64 ((S3.b + 32767).tdiv 65535) = R2)) := by
    rw [Int.tdiv_eq_ediv_of_nonneg (by omega), Int.tdiv_eq_ediv_of_nonneg (by omega), Int.tdiv_eq_ediv_of_nonneg (by omega), hR0, hR1, hR2]
    exact ⟨⟨wr_in (by omega), wrap_in (by omega)⟩, ⟨wr_in (by omega), wrap_in (by omega)⟩, ⟨wr_in (by omega), wrap_in (by omega)⟩⟩
  have HRS := Lib.hid (And.intro hR0 (And.intro hR1 hR2))
  clear hR0 hR1 hR2
  have HWW : Hid ((IntKind.i64.wrap (65535 - Fa) = 65535 - Fa ∧ wrap64 (65535 - Fa) = 65535 - Fa) ∧ (IntKind.i64.wrap (Fa - Fb) = Fa - Fb ∧ wrap64 (Fa - Fb) = Fa - Fb) ∧ (IntKind.i64.wrap (Fb - Fc) = Fb - Fc ∧ wrap64 (Fb - Fc) = Fb - Fc)) := ⟨⟨wr_in (by omega), wrap_in (by omega)⟩, ⟨wr_in (by omega), wrap_in (by omega)⟩, ⟨wr_in (by omega), wrap_in (by omega)⟩⟩
  have HM0 := Lib.hid (And.intro (And.intro M00w M00s) (And.intro (And.intro M01w M01s) (And.intro M02w M02s)))
  clear M00w M00s M01w M01s M02w M02s
  have HQ0 := Lib.hid (And.intro hy0 (And.intro hz0 (And.intro hu0 hv0)))
  clear hy0 hz0 hu0 hv0
  have HM1 := Lib.hid (And.intro (And.intro M10w M10s) (And.intro (And.intro M11w M11s) (And.intro M12w M12s)))
  clear M10w M10s M11w M11s M12w M12s
  have HQ1 := Lib.hid (And.intro hy1 (And.intro hz1 (And.intro hu1 hv1)))
  clear hy1 hz1 hu1 hv1
  have HM2 := Lib.hid (And.intro (And.intro M20w M20s) (And.intro (And.intro M21w M21s) (And.intro M22w M22s)))
  clear M20w M20s M21w M21s M22w M22s
  have HQ2 := Lib.hid (And.intro hy2 (And.intro hz2 (And.intro hu2 hv2)))
  clear hy2 hz2 hu2 hv2
  have HM3 := Lib.hid (And.intro (And.intro M30w M30s) (And.intro (And.intro M31w M31s) (And.intro M32w M32s)))
  clear M30w M30s M31w M31s M32w M32s
  have HQ3 := Lib.hid (And.intro hy3 (And.intro hz3 (And.intro hu3 hv3)))
  clear hy3 hz3 hu3 hv3
  clear hS0 hS1 hS2 hS3 E0 E1 E2 E3 g0 g1 g2 g3 hgam hs1 hs2 hs3 hcor r1 r2 r3 hq0 hq1 hq2 hq3 hrow hcl hg h8 l0 l1 l2 l3 d0
  rw [hE]
  clear hE
  obtain ⟨b0, b1, b2⟩ := P1
  obtain ⟨g0, g1, g2⟩ := P2
  obtain ⟨h0, h1, h2'⟩ := P3
  obtain ⟨x00, x01, x02⟩ := X0
  obtain ⟨x10, x11, x12⟩ := X1
  obtain ⟨x20, x21, x22⟩ := X2
  obtain ⟨x30, x31, x32⟩ := X3
  obtain ⟨s00, s01, s02⟩ := S0
  obtain ⟨s10, s11, s12⟩ := S1
  obtain ⟨s20, s21, s22⟩ := S2
  obtain ⟨s30, s31, s32⟩ := S3
  simp only [] at t1 t2 t3 e10 e11 e12 e20 e21 e22 e30 e31 e32 x0 x1 x2 x3
  obtain ⟨i0, hi0⟩ : ∃ x, f3 a0 a1 a2 ta = x := ⟨_, rfl⟩
  obtain ⟨i1, hi1⟩ : ∃ x, f3 b0 b1 b2 tb = x := ⟨_, rfl⟩
  obtain ⟨i2, hi2⟩ : ∃ x, f3 g0 g1 g2 tc = x := ⟨_, rfl⟩
  rw [hi0] at t1
  rw [hi1] at t2
  rw [hi2] at t3
  have j0 : 0 ≤ i0 ∧ i0 ≤ 17 := by rw [← hi0]; rcases (by omega : ta = 0 ∨ ta = 1 ∨ ta = 2) with rfl | rfl | rfl <;> simp only [f3] <;> omega
  have j1 : 0 ≤ i1 ∧ i1 ≤ 17 := by rw [← hi1]; rcases (by omega : tb = 0 ∨ tb = 1 ∨ tb = 2) with rfl | rfl | rfl <;> simp only [f3] <;> omega
  have j2 : 0 ≤ i2 ∧ i2 ≤ 17 := by rw [← hi2]; rcases (by omega : tc = 0 ∨ tc = 1 ∨ tc = 2) with rfl | rfl | rfl <;> simp only [f3] <;> omega
  have HI0 := Lib.hid (And.intro hi0 (And.intro t1 (And.intro (wrap_in (x := i0 + 1) (by omega)) (wr_in (x := i0 + 1) (by omega)))))
  have HI1 := Lib.hid (And.intro hi1 (And.intro t2 (And.intro (wrap_in (x := i1 + 1) (by omega)) (wr_in (x := i1 + 1) (by omega)))))
  have HI2 := Lib.hid (And.intro hi2 (And.intro t3 (And.intro (wrap_in (x := i2 + 1) (by omega)) (wr_in (x := i2 + 1) (by omega)))))
  clear hi0 hi1 hi2 t1 t2 t3 j0 j1 j2 e10 e11 e12 e20 e21 e22 e30 e31 e32
  have HF := Lib.hid (And.intro hFa (And.intro hFb hFc))
  clear hFa hFb hFc fa fb fc hab hbc
  have HAX := Lib.hid hax; clear hax
  have HT3 := Lib.hid (And.intro hta (And.intro htb htc)); clear hta htb htc
  have HXS : Hid (∀ V, Below w.heap.size w V → CB3 V bl (ol + Q0 * 3) ⟨x00, x01, x02⟩ ∧ CB3 V bl (ol + Q1 * 3) ⟨x10, x11, x12⟩ ∧ CB3 V bl (ol + Q2 * 3) ⟨x20, x21, x22⟩ ∧ CB3 V bl (ol + Q3 * 3) ⟨x30, x31, x32⟩) := fun V hV => by
    have hc : ∀ j, V.cell? ⟨bl, j, none⟩ = w.cell? ⟨bl, j, none⟩ := fun j => hV.cell (p := ⟨bl, j, none⟩) hbl
    simp only [CB3, hc]
    exact ⟨x0, x1, x2, x3⟩
  clear x0 x1 x2 x3 hbl
  have HN17 := Lib.hid (And.intro h2 h17)
  have hN : l.length = l.length := rfl
  generalize l.length = N at *
  clear hN
  have w11 : IntKind.i64.wrap ((n : Int) - 1) = n - 1 := wr_in (by omega)
  have w12 : wrap64 ((n : Int) - 1) = n - 1 := wrap_in (by omega)
  have w13 : IntKind.i64.wrap ((n : Int) - 2) = n - 2 := wr_in (by omega)
  have w14 : wrap64 ((n : Int) - 2) = n - 2 := wrap_in (by omega)
  have HW1 := Lib.hid (And.intro w11 (And.intro w12 (And.intro w13 w14)))
  clear w11 w12 w13 w14 hlen
  generalize clp 0 65535 c0 = v0 at *
  generalize clp 0 65535 c1 = v1 at *
  generalize clp 0 65535 c2 = v2 at *
  obtain ⟨D0, hD0⟩ : ∃ D, p0 / 65535 = D := ⟨_, rfl⟩
  rw [hD0] at hm0
  have hT0 : p0.tdiv 65535 = D0 := by rw [Int.tdiv_eq_ediv_of_nonneg p00]; exact hD0
  have hTw0 : IntKind.i64.wrap (p0.tdiv 65535) = D0 := by rw [hT0]; exact wr_in (by omega)
  have hTs0 : wrap64 (p0.tdiv 65535) = D0 := by rw [hT0]; exact wrap_in (by omega)
  have HC0 := Lib.hid (And.intro wp0 (And.intro ws0 (And.intro p00 (And.intro hm0 (And.intro a00 (And.intro hTw0 (And.intro hTs0 (And.intro (wr_in (x := 65535 * a0) (by omega)) (And.intro (wrap_in (x := 65535 * a0) (by omega)) (And.intro (show IntKind.i64.wrap (p0 - 65535 * a0) = f0 by rw [wr_in (by omega)]; exact hg0) (show wrap64 (p0 - 65535 * a0) = f0 by rw [wrap_in (by omega)]; exact hg0)))))))))))
  obtain ⟨D1, hD1⟩ : ∃ D, p1 / 65535 = D := ⟨_, rfl⟩
  rw [hD1] at hm1
  have hT1 : p1.tdiv 65535 = D1 := by rw [Int.tdiv_eq_ediv_of_nonneg p10]; exact hD1
  have hTw1 : IntKind.i64.wrap (p1.tdiv 65535) = D1 := by rw [hT1]; exact wr_in (by omega)
  have hTs1 : wrap64 (p1.tdiv 65535) = D1 := by rw [hT1]; exact wrap_in (by omega)
  have HC1 := Lib.hid (And.intro wp1 (And.intro ws1 (And.intro p10 (And.intro hm1 (And.intro a10 (And.intro hTw1 (And.intro hTs1 (And.intro (wr_in (x := 65535 * a1) (by omega)) (And.intro (wrap_in (x := 65535 * a1) (by omega)) (And.intro (show IntKind.i64.wrap (p1 - 65535 * a1) = f1 by rw [wr_in (by omega)]; exact hg1) (show wrap64 (p1 - 65535 * a1) = f1 by rw [wrap_in (by omega)]; exact hg1)))))))))))
  obtain ⟨D2, hD2⟩ : ∃ D, p2 / 65535 = D := ⟨_, rfl⟩
  rw [hD2] at hm2
  have hT2 : p2.tdiv 65535 = D2 := by rw [Int.tdiv_eq_ediv_of_nonneg p20]; exact hD2
  have hTw2 : IntKind.i64.wrap (p2.tdiv 65535) = D2 := by rw [hT2]; exact wr_in (by omega)
  have hTs2 : wrap64 (p2.tdiv 65535) = D2 := by rw [hT2]; exact wrap_in (by omega)
  have HC2 := Lib.hid (And.intro wp2 (And.intro ws2 (And.intro p20 (And.intro hm2 (And.intro a20 (And.intro hTw2 (And.intro hTs2 (And.intro (wr_in (x := 65535 * a2) (by omega)) (And.intro (wrap_in (x := 65535 * a2) (by omega)) (And.intro (show IntKind.i64.wrap (p2 - 65535 * a2) = f2 by rw [wr_in (by omega)]; exact hg2) (show wrap64 (p2 - 65535 * a2) = f2 by rw [wrap_in (by omega)]; exact hg2)))))))))))
  clear k0 hp0 wp0 ws0 p00 p01 ha0 hm0 a00 a01 hf0 hg0 f00 f01 hD0 hT0 hTw0 hTs0 k1 hp1 wp1 ws1 p10 p11 ha1 hm1 a10 a11 hf1 hg1 f10 f11 hD1 hT1 hTw1 hTs1 k2 hp2 wp2 ws2 p20 p21 ha2 hm2 a20 a21 hf2 hg2 f20 f21 hD2 hT2 hTw2 hTs2 hfo
  go_enter Try.func15, Try.ntmps15
  go_upto_region 1 with fail
  have hs := (((St.start w).alloc (gob n (.slice (some ⟨bl, ol, none⟩) N cap))).alloc (ac c0 c1 c2)).alloc (ac 0 0 0)
  simp only [World.size_alloc] at hs
  generalize ((w.alloc (gob n (.slice (some ⟨bl, ol, none⟩) N cap))).alloc (ac c0 c1 c2)).alloc (ac 0 0 0) = w1 at hs ⊢
  generalize hb : w.heap.size = b at hs ⊢
  have hs := hs.swap
  obtain ⟨m0, m1, m2⟩ := hs.col (b := b + 1) (x := c0) (y := c1) (z := c2) (t := 25) (by simp)
  have HS := Lib.hid hs; clear hs
  go_upto_region 2 with (go_at_call 35; (with_reducible refine (HG.out _).mono ?_); rintro e w2 ⟨rfl, h2⟩; have k2 := HS.out.later h2; obtain ⟨m0, m1, m2⟩ := k2.col (b := b + 1) (x := c0) (y := c1) (z := c2) (t := 25) (by simp); obtain ⟨f0', f1', f2'⟩ := k2.fro (b := b + 1) (cs := #[.int .i64 c0, .int .i64 c1, .int .i64 c2]) (t := 25) (by simp))
  have h3 : St w [(b + 1, ac v0 v1 v2), (b + 1 + 1, ac 0 0 0), (b, gob n (.slice (some ⟨bl, ol, none⟩) N cap))] (((w2.setCell ⟨b + 1, 0, none⟩ (.int .i64 v0)).setCell ⟨b + 1, 1, none⟩ (.int .i64 v1)).setCell ⟨b + 1, 2, none⟩ (.int .i64 v2)) := ((k2.put0 (by omega) (by simp)).put1 (by omega) (by simp)).put2 (by omega) (by simp)
  generalize ((w2.setCell ⟨b + 1, 0, none⟩ (.int .i64 v0)).setCell ⟨b + 1, 1, none⟩ (.int .i64 v1)).setCell ⟨b + 1, 2, none⟩ (.int .i64 v2) = w3 at h3 ⊢
  clear HS HG h2 k2 m0 m1 m2 f0' f1' f2'
  go_upto_region 4 with fail
  have hbq : b + 1 + 1 < w3.heap.size := h3.lt (b := b + 1 + 1) (o := ac 0 0 0) (by simp)
  have h4 := (h3.alloc (tri 0 0 0)).alloc (tri 0 0 0)
  rw [World.size_alloc] at h4
  generalize (w3.alloc (tri 0 0 0)).alloc (tri 0 0 0) = w4 at h4 ⊢
  generalize w3.heap.size = q at h4 hbq ⊢
  have h4 := h4.swap
  clear h3
  have HBQ := Lib.hid hbq; clear hbq
  have HWB : Hid (w.heap.size ≤ b) := Nat.le_of_eq hb
  have HS := Lib.hid h4; clear h4
  clear hb
  go_wp2
  go_loopw [7] (fun v7 wr => ∃ k : Nat, k ≤ 3 ∧ v7 = .int .i64 k ∧ Hid (St w [(q, tri (if 0 < k then a0 else 0) (if 1 < k then a1 else 0) (if 2 < k then a2 else 0)), (q + 1, tri (if 0 < k then f0 else 0) (if 1 < k then f1 else 0) (if 2 < k then f2 else 0)), (b + 1, ac v0 v1 v2), (b + 1 + 1, ac 0 0 0), (b, gob n (.slice (some ⟨bl, ol, none⟩) N cap))] wr)) (fun i _ => 3 - (intOf i).toNat)
  case atStart => exact ⟨0, by omega, rfl, HS⟩
  case round =>
    clear HS
    obtain ⟨k, hk, rfl, HT⟩ := hrel
    obtain rfl | rfl | rfl | rfl : k = 0 ∨ k = 1 ∨ k = 2 ∨ k = 3 := by omega
    all_goals simp only [Nat.reduceLT, if_true, if_false, Nat.lt_irrefl] at HT
    · as_aux_lemma =>
      obtain ⟨c1', c2', c3', c4', c5', c6', c7', c8', c9', c10', c11'⟩ := HC0.out
      obtain ⟨w11, w12, w13, w14⟩ := HW1.out
      have hw := HT.out
      clear HT
      go_upto_region 7 with fail
      have hd := hw.drew
      refine wp_region_still_tail 14 (by kernel_rfl) (by kernel_rfl) ?_
      rw [drew_eq wr]
      generalize wr.drew = wd at hd ⊢
      clear hw
      simp only [List.take_succ_cons, List.take_zero, List.drop_succ_cons, List.drop_zero]
      obtain ⟨n0, n1, n2⟩ := hd.col (b := b + 1) (x := v0) (y := v1) (z := v2) (t := 25) (by simp)
      have g0 := hd.cell (b := b) (cs := #[.int .i64 n, .slice (some ⟨bl, ol, none⟩) N cap]) (t := 30) (by simp) 0
      have g1 := hd.cell (b := b) (cs := #[.int .i64 n, .slice (some ⟨bl, ol, none⟩) N cap]) (t := 30) (by simp) 1
      simp only [pair0, pair1] at g0 g1
      obtain ⟨m0, m1, m2⟩ := hd.col (b := q) (x := 0) (y := 0) (z := 0) (t := 24) (by simp)
      obtain ⟨e0, e1, e2⟩ := hd.fro (b := q) (cs := #[.int .i64 0, .int .i64 0, .int .i64 0]) (t := 24) (by simp)
      iterate 14 still_step
      refine wpStill_nil ?_
      go_upto_region 8 with fail
      have hd := hd.put0 (v := .int .i64 a0) (by have := HBQ.out; have := HWB.out; omega) (by have := HBQ.out; simp; omega)
      generalize wd.setCell ⟨q, 0, none⟩ (.int .i64 a0) = we at hd ⊢
      clear n0 n1 n2 g0 g1 m0 m1 m2 e0 e1 e2
      have hd := hd.swap.drew
      refine wp_region_still_tail 14 (by kernel_rfl) (by kernel_rfl) ?_
      rw [drew_eq we]
      generalize we.drew = wf at hd ⊢
      simp only [List.take_succ_cons, List.take_zero, List.drop_succ_cons, List.drop_zero]
      obtain ⟨n0, n1, n2⟩ := hd.col (b := b + 1) (x := v0) (y := v1) (z := v2) (t := 25) (by simp)
      have g0 := hd.cell (b := b) (cs := #[.int .i64 n, .slice (some ⟨bl, ol, none⟩) N cap]) (t := 30) (by simp) 0
      have g1 := hd.cell (b := b) (cs := #[.int .i64 n, .slice (some ⟨bl, ol, none⟩) N cap]) (t := 30) (by simp) 1
      simp only [pair0, pair1] at g0 g1
      obtain ⟨m0, m1, m2⟩ := hd.col (b := q) (x := a0) (y := 0) (z := 0) (t := 24) (by simp)
      obtain ⟨o0, o1, o2⟩ := hd.col (b := q + 1) (x := 0) (y := 0) (z := 0) (t := 24) (by simp)
      obtain ⟨e0, e1, e2⟩ := hd.fro (b := q + 1) (cs := #[.int .i64 0, .int .i64 0, .int .i64 0]) (t := 24) (by simp)
      iterate 14 still_step
      refine wpStill_nil ?_
      have hd2 := (hd.put0 (v := .int .i64 f0) (by have := HBQ.out; have := HWB.out; omega) (by have := HBQ.out; simp; omega)).swap
      have HZ := Lib.hid hd2
      clear hd2
      go_wp2_with fail
      go_roundw
      case rel => exact ⟨1, by omega, by go_num, HZ⟩
      case measure => simp [intOf]
    · as_aux_lemma =>
      obtain ⟨c1', c2', c3', c4', c5', c6', c7', c8', c9', c10', c11'⟩ := HC1.out
      obtain ⟨w11, w12, w13, w14⟩ := HW1.out
      have hw := HT.out
      clear HT
      go_upto_region 7 with fail
      have hd := hw.drew
      refine wp_region_still_tail 14 (by kernel_rfl) (by kernel_rfl) ?_
      rw [drew_eq wr]
      generalize wr.drew = wd at hd ⊢
      clear hw
      simp only [List.take_succ_cons, List.take_zero, List.drop_succ_cons, List.drop_zero]
      obtain ⟨n0, n1, n2⟩ := hd.col (b := b + 1) (x := v0) (y := v1) (z := v2) (t := 25) (by simp)
      have g0 := hd.cell (b := b) (cs := #[.int .i64 n, .slice (some ⟨bl, ol, none⟩) N cap]) (t := 30) (by simp) 0
      have g1 := hd.cell (b := b) (cs := #[.int .i64 n, .slice (some ⟨bl, ol, none⟩) N cap]) (t := 30) (by simp) 1
      simp only [pair0, pair1] at g0 g1
      obtain ⟨m0, m1, m2⟩ := hd.col (b := q) (x := a0) (y := 0) (z := 0) (t := 24) (by simp)
      obtain ⟨e0, e1, e2⟩ := hd.fro (b := q) (cs := #[.int .i64 a0, .int .i64 0, .int .i64 0]) (t := 24) (by simp)
      iterate 14 still_step
      refine wpStill_nil ?_
      go_upto_region 8 with fail
      have hd := hd.put1 (v := .int .i64 a1) (by have := HBQ.out; have := HWB.out; omega) (by have := HBQ.out; simp; omega)
      generalize wd.setCell ⟨q, 1, none⟩ (.int .i64 a1) = we at hd ⊢
      clear n0 n1 n2 g0 g1 m0 m1 m2 e0 e1 e2
      have hd := hd.swap.drew
      refine wp_region_still_tail 14 (by kernel_rfl) (by kernel_rfl) ?_
      rw [drew_eq we]
      generalize we.drew = wf at hd ⊢
      simp only [List.take_succ_cons, List.take_zero, List.drop_succ_cons, List.drop_zero]
      obtain ⟨n0, n1, n2⟩ := hd.col (b := b + 1) (x := v0) (y := v1) (z := v2) (t := 25) (by simp)
      have g0 := hd.cell (b := b) (cs := #[.int .i64 n, .slice (some ⟨bl, ol, none⟩) N cap]) (t := 30) (by simp) 0
      have g1 := hd.cell (b := b) (cs := #[.int .i64 n, .slice (some ⟨bl, ol, none⟩) N cap]) (t := 30) (by simp) 1
      simp only [pair0, pair1] at g0 g1
      obtain ⟨m0, m1, m2⟩ := hd.col (b := q) (x := a0) (y := a1) (z := 0) (t := 24) (by simp)
      obtain ⟨o0, o1, o2⟩ := hd.col (b := q + 1) (x := f0) (y := 0) (z := 0) (t := 24) (by simp)
      obtain ⟨e0, e1, e2⟩ := hd.fro (b := q + 1) (cs := #[.int .i64 f0, .int .i64 0, .int .i64 0]) (t := 24) (by simp)
      iterate 14 still_step
      refine wpStill_nil ?_
      have hd2 := (hd.put1 (v := .int .i64 f1) (by have := HBQ.out; have := HWB.out; omega) (by have := HBQ.out; simp; omega)).swap
      have HZ := Lib.hid hd2
      clear hd2
      go_wp2_with fail
      go_roundw
      case rel => exact ⟨2, by omega, by go_num, HZ⟩
      case measure => simp [intOf]
    · as_aux_lemma =>
      obtain ⟨c1', c2', c3', c4', c5', c6', c7', c8', c9', c10', c11'⟩ := HC2.out
      obtain ⟨w11, w12, w13, w14⟩ := HW1.out
      have hw := HT.out
      clear HT
      go_upto_region 7 with fail
      have hd := hw.drew
      refine wp_region_still_tail 14 (by kernel_rfl) (by kernel_rfl) ?_
      rw [drew_eq wr]
      generalize wr.drew = wd at hd ⊢
      clear hw
      simp only [List.take_succ_cons, List.take_zero, List.drop_succ_cons, List.drop_zero]
      obtain ⟨n0, n1, n2⟩ := hd.col (b := b + 1) (x := v0) (y := v1) (z := v2) (t := 25) (by simp)
      have g0 := hd.cell (b := b) (cs := #[.int .i64 n, .slice (some ⟨bl, ol, none⟩) N cap]) (t := 30) (by simp) 0
      have g1 := hd.cell (b := b) (cs := #[.int .i64 n, .slice (some ⟨bl, ol, none⟩) N cap]) (t := 30) (by simp) 1
      simp only [pair0, pair1] at g0 g1
      obtain ⟨m0, m1, m2⟩ := hd.col (b := q) (x := a0) (y := a1) (z := 0) (t := 24) (by simp)
      obtain ⟨e0, e1, e2⟩ := hd.fro (b := q) (cs := #[.int .i64 a0, .int .i64 a1, .int .i64 0]) (t := 24) (by simp)
      iterate 14 still_step
      refine wpStill_nil ?_
      go_upto_region 8 with fail
      have hd := hd.put2 (v := .int .i64 a2) (by have := HBQ.out; have := HWB.out; omega) (by have := HBQ.out; simp; omega)
      generalize wd.setCell ⟨q, 2, none⟩ (.int .i64 a2) = we at hd ⊢
      clear n0 n1 n2 g0 g1 m0 m1 m2 e0 e1 e2
      have hd := hd.swap.drew
      refine wp_region_still_tail 14 (by kernel_rfl) (by kernel_rfl) ?_
      rw [drew_eq we]
      generalize we.drew = wf at hd ⊢
      simp only [List.take_succ_cons, List.take_zero, List.drop_succ_cons, List.drop_zero]
      obtain ⟨n0, n1, n2⟩ := hd.col (b := b + 1) (x := v0) (y := v1) (z := v2) (t := 25) (by simp)
      have g0 := hd.cell (b := b) (cs := #[.int .i64 n, .slice (some ⟨bl, ol, none⟩) N cap]) (t := 30) (by simp) 0
      have g1 := hd.cell (b := b) (cs := #[.int .i64 n, .slice (some ⟨bl, ol, none⟩) N cap]) (t := 30) (by simp) 1
      simp only [pair0, pair1] at g0 g1
      obtain ⟨m0, m1, m2⟩ := hd.col (b := q) (x := a0) (y := a1) (z := a2) (t := 24) (by simp)
      obtain ⟨o0, o1, o2⟩ := hd.col (b := q + 1) (x := f0) (y := f1) (z := 0) (t := 24) (by simp)
      obtain ⟨e0, e1, e2⟩ := hd.fro (b := q + 1) (cs := #[.int .i64 f0, .int .i64 f1, .int .i64 0]) (t := 24) (by simp)
      iterate 14 still_step
      refine wpStill_nil ?_
      have hd2 := (hd.put2 (v := .int .i64 f2) (by have := HBQ.out; have := HWB.out; omega) (by have := HBQ.out; simp; omega)).swap
      have HZ := Lib.hid hd2
      clear hd2
      go_wp2_with fail
      go_roundw
      case rel => exact ⟨3, by omega, by go_num, HZ⟩
      case measure => simp [intOf]
    · as_aux_lemma =>
      clear HC0 HC1 HC2 HW1 hk
      have hw := HT.out
      have hx : q + 1 < wr.heap.size := hw.lt (b := q + 1) (o := tri f0 f1 f2) (by simp)
      have h9 := hw.alloc (tri 0 1 2)
      clear hw HT
      go_upto_block 2 with fail
      generalize wr.alloc (tri 0 1 2) = w9 at h9 ⊢
      generalize wr.heap.size = x at h9 hx ⊢
      have HXQ := Lib.hid hx; clear hx
      have HT := Lib.hid h9; clear h9
      go_cut [9] from 10 to 87 (fun _ wx => Hid (St w [(x, tri ta tb tc), (q, tri a0 a1 a2), (q + 1, tri f0 f1 f2), (b + 1, ac v0 v1 v2), (b + 1 + 1, ac 0 0 0), (b, gob n (.slice (some ⟨bl, ol, none⟩) N cap))] wx))
      case first =>
        clear HM0 HM1 HM2 HM3 HQ0 HQ1 HQ2 HQ3 HI0 HI1 HI2 HF HRES HWW HXS HN17 HLS hperm
        rcases Int.lt_or_le f0 f1 with q01 | q01
        · rcases Int.lt_or_le f0 f2 with q02 | q02
          · rcases Int.lt_or_le f1 f2 with q12 | q12
            · have d01 : (f0 < f1) = True := eq_true (by omega)
              have d02 : (f0 < f2) = True := eq_true (by omega)
              have d12 : (f1 < f2) = True := eq_true (by omega)
              as_aux_lemma =>
              have e : (⟨ta, tb, tc⟩ : T3) = ⟨2, 1, 0⟩ := by rw [HAX.out]; simp only [ins1, st2, f3, *, if_true]
              simp only [T3.mk.injEq] at e
              obtain ⟨rfl, rfl, rfl⟩ := e
              clear HAX HT3
              go_wp2_with fail
              go_loopw [9] (fun v9 wr => (v9 = .int .i64 0 ∧ Hid (St w [(x, tri 0 1 2), (q, tri a0 a1 a2), (q + 1, tri f0 f1 f2), (b + 1, ac v0 v1 v2), (b + 1 + 1, ac 0 0 0), (b, gob n (.slice (some ⟨bl, ol, none⟩) N cap))] wr)) ∨ (v9 = .int .i64 1 ∧ Hid (St w [(x, tri 1 2 0), (q, tri a0 a1 a2), (q + 1, tri f0 f1 f2), (b + 1, ac v0 v1 v2), (b + 1 + 1, ac 0 0 0), (b, gob n (.slice (some ⟨bl, ol, none⟩) N cap))] wr)) ∨ (v9 = .int .i64 2 ∧ Hid (St w [(x, tri 2 1 0), (q, tri a0 a1 a2), (q + 1, tri f0 f1 f2), (b + 1, ac v0 v1 v2), (b + 1 + 1, ac 0 0 0), (b, gob n (.slice (some ⟨bl, ol, none⟩) N cap))] wr))) (fun i _ => 2 - (intOf i).toNat)
              case atStart => exact .inl ⟨rfl, HT⟩
              case round =>
                clear HT
                obtain ⟨rfl, HT⟩ | ⟨rfl, HT⟩ | ⟨rfl, HT⟩ := hrel
                · as_aux_lemma =>
                  go_wp2_with fail
                  go_loopw [10] (fun v10 wr => (v10 = .int .i64 0 ∧ Hid (St w [(x, tri 0 1 2), (q, tri a0 a1 a2), (q + 1, tri f0 f1 f2), (b + 1, ac v0 v1 v2), (b + 1 + 1, ac 0 0 0), (b, gob n (.slice (some ⟨bl, ol, none⟩) N cap))] wr)) ∨ (v10 = .int .i64 1 ∧ Hid (St w [(x, tri 1 0 2), (q, tri a0 a1 a2), (q + 1, tri f0 f1 f2), (b + 1, ac v0 v1 v2), (b + 1 + 1, ac 0 0 0), (b, gob n (.slice (some ⟨bl, ol, none⟩) N cap))] wr)) ∨ (v10 = .int .i64 2 ∧ Hid (St w [(x, tri 1 2 0), (q, tri a0 a1 a2), (q + 1, tri f0 f1 f2), (b + 1, ac v0 v1 v2), (b + 1 + 1, ac 0 0 0), (b, gob n (.slice (some ⟨bl, ol, none⟩) N cap))] wr))) (fun i _ => 2 - (intOf i).toNat)
                  case atStart => exact .inl ⟨rfl, HT⟩
                  case round =>
                    clear HT
                    obtain ⟨rfl, HT⟩ | ⟨rfl, HT⟩ | ⟨rfl, HT⟩ := hrel
                    · as_aux_lemma =>
                      have hw := HT.out
                      obtain ⟨m0, m1, m2⟩ := hw.col (b := x) (x := 0) (y := 1) (z := 2) (t := 24) (by simp)
                      obtain ⟨o0, o1, o2⟩ := hw.col (b := q + 1) (x := f0) (y := f1) (z := f2) (t := 24) (by simp)
                      clear HT
                      go_upto_region 16 with fail
                      go_quiet (fail)
                      have hz := hw.drewN nq
                      clear hw m0 m1 m2 o0 o1 o2
                      generalize wr.drewN nq = wz at hz ⊢
                      obtain ⟨m0, m1, m2⟩ := hz.col (b := x) (x := 0) (y := 1) (z := 2) (t := 24) (by simp)
                      obtain ⟨e0, e1, e2⟩ := hz.fro (b := x) (cs := #[.int .i64 0, .int .i64 1, .int .i64 2]) (t := 24) (by simp)
                      go_upto_region 19 with fail
                      have h5 := hz.put0 (v := .int .i64 1) (by have := HBQ.out; have := HWB.out; have := HXQ.out; omega) (by have := HBQ.out; have := HWB.out; have := HXQ.out; simp; omega)
                      clear hz m0 m1 m2 e0 e1 e2
                      generalize wz.setCell ⟨x, 0, none⟩ (.int .i64 1) = wy at h5 ⊢
                      obtain ⟨m0, m1, m2⟩ := h5.col (b := x) (x := 1) (y := 1) (z := 2) (t := 24) (by simp)
                      obtain ⟨e0, e1, e2⟩ := h5.fro (b := x) (cs := #[.int .i64 1, .int .i64 1, .int .i64 2]) (t := 24) (by simp)
                      have HZ := Lib.hid (h5.put1 (v := .int .i64 0) (by have := HBQ.out; have := HWB.out; have := HXQ.out; omega) (by have := HBQ.out; have := HWB.out; have := HXQ.out; simp; omega))
                      clear h5
                      go_wp2_with fail
                      go_roundw
                      case rel => exact .inr (.inl ⟨rfl, HZ⟩)
                      case measure => simp [intOf]
                    · as_aux_lemma =>
                      have hw := HT.out
                      obtain ⟨m0, m1, m2⟩ := hw.col (b := x) (x := 1) (y := 0) (z := 2) (t := 24) (by simp)
                      obtain ⟨o0, o1, o2⟩ := hw.col (b := q + 1) (x := f0) (y := f1) (z := f2) (t := 24) (by simp)
                      clear HT
                      go_upto_region 16 with fail
                      go_quiet (fail)
                      have hz := hw.drewN nq
                      clear hw m0 m1 m2 o0 o1 o2
                      generalize wr.drewN nq = wz at hz ⊢
                      obtain ⟨m0, m1, m2⟩ := hz.col (b := x) (x := 1) (y := 0) (z := 2) (t := 24) (by simp)
                      obtain ⟨e0, e1, e2⟩ := hz.fro (b := x) (cs := #[.int .i64 1, .int .i64 0, .int .i64 2]) (t := 24) (by simp)
                      go_upto_region 19 with fail
                      have h5 := hz.put1 (v := .int .i64 2) (by have := HBQ.out; have := HWB.out; have := HXQ.out; omega) (by have := HBQ.out; have := HWB.out; have := HXQ.out; simp; omega)
                      clear hz m0 m1 m2 e0 e1 e2
                      generalize wz.setCell ⟨x, 1, none⟩ (.int .i64 2) = wy at h5 ⊢
                      obtain ⟨m0, m1, m2⟩ := h5.col (b := x) (x := 1) (y := 2) (z := 2) (t := 24) (by simp)
                      obtain ⟨e0, e1, e2⟩ := h5.fro (b := x) (cs := #[.int .i64 1, .int .i64 2, .int .i64 2]) (t := 24) (by simp)
                      have HZ := Lib.hid (h5.put2 (v := .int .i64 0) (by have := HBQ.out; have := HWB.out; have := HXQ.out; omega) (by have := HBQ.out; have := HWB.out; have := HXQ.out; simp; omega))
                      clear h5
                      go_wp2_with fail
                      go_roundw
                      case rel => exact .inr (.inr (⟨rfl, HZ⟩))
                      case measure => simp [intOf]
                    · as_aux_lemma =>
                      have HZ := HT; clear HT
                      go_wp2_with fail
                      go_roundw
                      case rel => exact .inr (.inl ⟨rfl, HZ⟩)
                      case measure => simp [intOf]
                · as_aux_lemma =>
                  go_wp2_with fail
                  go_loopw [10] (fun v10 wr => (v10 = .int .i64 0 ∧ Hid (St w [(x, tri 1 2 0), (q, tri a0 a1 a2), (q + 1, tri f0 f1 f2), (b + 1, ac v0 v1 v2), (b + 1 + 1, ac 0 0 0), (b, gob n (.slice (some ⟨bl, ol, none⟩) N cap))] wr)) ∨ (v10 = .int .i64 1 ∧ Hid (St w [(x, tri 2 1 0), (q, tri a0 a1 a2), (q + 1, tri f0 f1 f2), (b + 1, ac v0 v1 v2), (b + 1 + 1, ac 0 0 0), (b, gob n (.slice (some ⟨bl, ol, none⟩) N cap))] wr))) (fun i _ => 1 - (intOf i).toNat)
                  case atStart => exact .inl ⟨rfl, HT⟩
                  case round =>
                    clear HT
                    obtain ⟨rfl, HT⟩ | ⟨rfl, HT⟩ := hrel
                    · as_aux_lemma =>
                      have hw := HT.out
                      obtain ⟨m0, m1, m2⟩ := hw.col (b := x) (x := 1) (y := 2) (z := 0) (t := 24) (by simp)
                      obtain ⟨o0, o1, o2⟩ := hw.col (b := q + 1) (x := f0) (y := f1) (z := f2) (t := 24) (by simp)
                      clear HT
                      go_upto_region 16 with fail
                      go_quiet (fail)
                      have hz := hw.drewN nq
                      clear hw m0 m1 m2 o0 o1 o2
                      generalize wr.drewN nq = wz at hz ⊢
                      obtain ⟨m0, m1, m2⟩ := hz.col (b := x) (x := 1) (y := 2) (z := 0) (t := 24) (by simp)
                      obtain ⟨e0, e1, e2⟩ := hz.fro (b := x) (cs := #[.int .i64 1, .int .i64 2, .int .i64 0]) (t := 24) (by simp)
                      go_upto_region 19 with fail
                      have h5 := hz.put0 (v := .int .i64 2) (by have := HBQ.out; have := HWB.out; have := HXQ.out; omega) (by have := HBQ.out; have := HWB.out; have := HXQ.out; simp; omega)
                      clear hz m0 m1 m2 e0 e1 e2
                      generalize wz.setCell ⟨x, 0, none⟩ (.int .i64 2) = wy at h5 ⊢
                      obtain ⟨m0, m1, m2⟩ := h5.col (b := x) (x := 2) (y := 2) (z := 0) (t := 24) (by simp)
                      obtain ⟨e0, e1, e2⟩ := h5.fro (b := x) (cs := #[.int .i64 2, .int .i64 2, .int .i64 0]) (t := 24) (by simp)
                      have HZ := Lib.hid (h5.put1 (v := .int .i64 1) (by have := HBQ.out; have := HWB.out; have := HXQ.out; omega) (by have := HBQ.out; have := HWB.out; have := HXQ.out; simp; omega))
                      clear h5
                      go_wp2_with fail
                      go_roundw
                      case rel => exact .inr (⟨rfl, HZ⟩)
                      case measure => simp [intOf]
                    · as_aux_lemma =>
                      have HZ := HT; clear HT
                      go_wp2_with fail
                      go_roundw
                      case rel => exact .inr (.inr (⟨rfl, HZ⟩))
                      case measure => simp [intOf]
                · as_aux_lemma =>
                  go_wp2_with fail
                  go_meet
                  exact HT
            · have d01 : (f0 < f1) = True := eq_true (by omega)
              have d02 : (f0 < f2) = True := eq_true (by omega)
              have d12 : (f1 < f2) = False := eq_false (by omega)
              as_aux_lemma =>
              have e : (⟨ta, tb, tc⟩ : T3) = ⟨1, 2, 0⟩ := by rw [HAX.out]; simp only [ins1, st2, f3, *, if_true, if_false]
              simp only [T3.mk.injEq] at e
              obtain ⟨rfl, rfl, rfl⟩ := e
              clear HAX HT3
              go_wp2_with fail
              go_loopw [9] (fun v9 wr => (v9 = .int .i64 0 ∧ Hid (St w [(x, tri 0 1 2), (q, tri a0 a1 a2), (q + 1, tri f0 f1 f2), (b + 1, ac v0 v1 v2), (b + 1 + 1, ac 0 0 0), (b, gob n (.slice (some ⟨bl, ol, none⟩) N cap))] wr)) ∨ (v9 = .int .i64 1 ∧ Hid (St w [(x, tri 1 2 0), (q, tri a0 a1 a2), (q + 1, tri f0 f1 f2), (b + 1, ac v0 v1 v2), (b + 1 + 1, ac 0 0 0), (b, gob n (.slice (some ⟨bl, ol, none⟩) N cap))] wr)) ∨ (v9 = .int .i64 2 ∧ Hid (St w [(x, tri 1 2 0), (q, tri a0 a1 a2), (q + 1, tri f0 f1 f2), (b + 1, ac v0 v1 v2), (b + 1 + 1, ac 0 0 0), (b, gob n (.slice (some ⟨bl, ol, none⟩) N cap))] wr))) (fun i _ => 2 - (intOf i).toNat)
              case atStart => exact .inl ⟨rfl, HT⟩
              case round =>
                clear HT
                obtain ⟨rfl, HT⟩ | ⟨rfl, HT⟩ | ⟨rfl, HT⟩ := hrel
                · as_aux_lemma =>
                  go_wp2_with fail
                  go_loopw [10] (fun v10 wr => (v10 = .int .i64 0 ∧ Hid (St w [(x, tri 0 1 2), (q, tri a0 a1 a2), (q + 1, tri f0 f1 f2), (b + 1, ac v0 v1 v2), (b + 1 + 1, ac 0 0 0), (b, gob n (.slice (some ⟨bl, ol, none⟩) N cap))] wr)) ∨ (v10 = .int .i64 1 ∧ Hid (St w [(x, tri 1 0 2), (q, tri a0 a1 a2), (q + 1, tri f0 f1 f2), (b + 1, ac v0 v1 v2), (b + 1 + 1, ac 0 0 0), (b, gob n (.slice (some ⟨bl, ol, none⟩) N cap))] wr)) ∨ (v10 = .int .i64 2 ∧ Hid (St w [(x, tri 1 2 0), (q, tri a0 a1 a2), (q + 1, tri f0 f1 f2), (b + 1, ac v0 v1 v2), (b + 1 + 1, ac 0 0 0), (b, gob n (.slice (some ⟨bl, ol, none⟩) N cap))] wr))) (fun i _ => 2 - (intOf i).toNat)
                  case atStart => exact .inl ⟨rfl, HT⟩
                  case round =>
                    clear HT
                    obtain ⟨rfl, HT⟩ | ⟨rfl, HT⟩ | ⟨rfl, HT⟩ := hrel
                    · as_aux_lemma =>
                      have hw := HT.out
                      obtain ⟨m0, m1, m2⟩ := hw.col (b := x) (x := 0) (y := 1) (z := 2) (t := 24) (by simp)
                      obtain ⟨o0, o1, o2⟩ := hw.col (b := q + 1) (x := f0) (y := f1) (z := f2) (t := 24) (by simp)
                      clear HT
                      go_upto_region 16 with fail
                      go_quiet (fail)
                      have hz := hw.drewN nq
                      clear hw m0 m1 m2 o0 o1 o2
                      generalize wr.drewN nq = wz at hz ⊢
                      obtain ⟨m0, m1, m2⟩ := hz.col (b := x) (x := 0) (y := 1) (z := 2) (t := 24) (by simp)
                      obtain ⟨e0, e1, e2⟩ := hz.fro (b := x) (cs := #[.int .i64 0, .int .i64 1, .int .i64 2]) (t := 24) (by simp)
                      go_upto_region 19 with fail
                      have h5 := hz.put0 (v := .int .i64 1) (by have := HBQ.out; have := HWB.out; have := HXQ.out; omega) (by have := HBQ.out; have := HWB.out; have := HXQ.out; simp; omega)
                      clear hz m0 m1 m2 e0 e1 e2
                      generalize wz.setCell ⟨x, 0, none⟩ (.int .i64 1) = wy at h5 ⊢
                      obtain ⟨m0, m1, m2⟩ := h5.col (b := x) (x := 1) (y := 1) (z := 2) (t := 24) (by simp)
                      obtain ⟨e0, e1, e2⟩ := h5.fro (b := x) (cs := #[.int .i64 1, .int .i64 1, .int .i64 2]) (t := 24) (by simp)
                      have HZ := Lib.hid (h5.put1 (v := .int .i64 0) (by have := HBQ.out; have := HWB.out; have := HXQ.out; omega) (by have := HBQ.out; have := HWB.out; have := HXQ.out; simp; omega))
                      clear h5
                      go_wp2_with fail
                      go_roundw
                      case rel => exact .inr (.inl ⟨rfl, HZ⟩)
                      case measure => simp [intOf]
                    · as_aux_lemma =>
                      have hw := HT.out
                      obtain ⟨m0, m1, m2⟩ := hw.col (b := x) (x := 1) (y := 0) (z := 2) (t := 24) (by simp)
                      obtain ⟨o0, o1, o2⟩ := hw.col (b := q + 1) (x := f0) (y := f1) (z := f2) (t := 24) (by simp)
                      clear HT
                      go_upto_region 16 with fail
                      go_quiet (fail)
                      have hz := hw.drewN nq
                      clear hw m0 m1 m2 o0 o1 o2
                      generalize wr.drewN nq = wz at hz ⊢
                      obtain ⟨m0, m1, m2⟩ := hz.col (b := x) (x := 1) (y := 0) (z := 2) (t := 24) (by simp)
                      obtain ⟨e0, e1, e2⟩ := hz.fro (b := x) (cs := #[.int .i64 1, .int .i64 0, .int .i64 2]) (t := 24) (by simp)
                      go_upto_region 19 with fail
                      have h5 := hz.put1 (v := .int .i64 2) (by have := HBQ.out; have := HWB.out; have := HXQ.out; omega) (by have := HBQ.out; have := HWB.out; have := HXQ.out; simp; omega)
                      clear hz m0 m1 m2 e0 e1 e2
                      generalize wz.setCell ⟨x, 1, none⟩ (.int .i64 2) = wy at h5 ⊢
                      obtain ⟨m0, m1, m2⟩ := h5.col (b := x) (x := 1) (y := 2) (z := 2) (t := 24) (by simp)
                      obtain ⟨e0, e1, e2⟩ := h5.fro (b := x) (cs := #[.int .i64 1, .int .i64 2, .int .i64 2]) (t := 24) (by simp)
                      have HZ := Lib.hid (h5.put2 (v := .int .i64 0) (by have := HBQ.out; have := HWB.out; have := HXQ.out; omega) (by have := HBQ.out; have := HWB.out; have := HXQ.out; simp; omega))
                      clear h5
                      go_wp2_with fail
                      go_roundw
                      case rel => exact .inr (.inr (⟨rfl, HZ⟩))
                      case measure => simp [intOf]
                    · as_aux_lemma =>
                      have HZ := HT; clear HT
                      go_wp2_with fail
                      go_roundw
                      case rel => exact .inr (.inl ⟨rfl, HZ⟩)
                      case measure => simp [intOf]
                · as_aux_lemma =>
                  go_wp2_with fail
                  go_loopw [10] (fun v10 wr => (v10 = .int .i64 0 ∧ Hid (St w [(x, tri 1 2 0), (q, tri a0 a1 a2), (q + 1, tri f0 f1 f2), (b + 1, ac v0 v1 v2), (b + 1 + 1, ac 0 0 0), (b, gob n (.slice (some ⟨bl, ol, none⟩) N cap))] wr)) ∨ (v10 = .int .i64 1 ∧ Hid (St w [(x, tri 1 2 0), (q, tri a0 a1 a2), (q + 1, tri f0 f1 f2), (b + 1, ac v0 v1 v2), (b + 1 + 1, ac 0 0 0), (b, gob n (.slice (some ⟨bl, ol, none⟩) N cap))] wr))) (fun i _ => 1 - (intOf i).toNat)
                  case atStart => exact .inl ⟨rfl, HT⟩
                  case round =>
                    clear HT
                    obtain ⟨rfl, HT⟩ | ⟨rfl, HT⟩ := hrel
                    · as_aux_lemma =>
                      have hw := HT.out
                      obtain ⟨m0, m1, m2⟩ := hw.col (b := x) (x := 1) (y := 2) (z := 0) (t := 24) (by simp)
                      obtain ⟨o0, o1, o2⟩ := hw.col (b := q + 1) (x := f0) (y := f1) (z := f2) (t := 24) (by simp)
                      clear HT
                      go_upto_region 16 with fail
                      go_quiet (fail)
                      have hz := hw.drewN nq
                      clear hw m0 m1 m2 o0 o1 o2
                      generalize wr.drewN nq = wz at hz ⊢
                      have HZ := Lib.hid hz; clear hz
                      go_wp2_with fail
                      go_roundw
                      case rel => exact .inr (⟨rfl, HZ⟩)
                      case measure => simp [intOf]
                    · as_aux_lemma =>
                      have HZ := HT; clear HT
                      go_wp2_with fail
                      go_roundw
                      case rel => exact .inr (.inr (⟨rfl, HZ⟩))
                      case measure => simp [intOf]
                · as_aux_lemma =>
                  go_wp2_with fail
                  go_meet
                  exact HT
          · have d01 : (f0 < f1) = True := eq_true (by omega)
            have d02 : (f0 < f2) = False := eq_false (by omega)
            have d10 : (f1 < f0) = False := eq_false (by omega)
            as_aux_lemma =>
            have e : (⟨ta, tb, tc⟩ : T3) = ⟨1, 0, 2⟩ := by rw [HAX.out]; simp only [ins1, st2, f3, *, if_true, if_false]
            simp only [T3.mk.injEq] at e
            obtain ⟨rfl, rfl, rfl⟩ := e
            clear HAX HT3
            go_wp2_with fail
            go_loopw [9] (fun v9 wr => (v9 = .int .i64 0 ∧ Hid (St w [(x, tri 0 1 2), (q, tri a0 a1 a2), (q + 1, tri f0 f1 f2), (b + 1, ac v0 v1 v2), (b + 1 + 1, ac 0 0 0), (b, gob n (.slice (some ⟨bl, ol, none⟩) N cap))] wr)) ∨ (v9 = .int .i64 1 ∧ Hid (St w [(x, tri 1 0 2), (q, tri a0 a1 a2), (q + 1, tri f0 f1 f2), (b + 1, ac v0 v1 v2), (b + 1 + 1, ac 0 0 0), (b, gob n (.slice (some ⟨bl, ol, none⟩) N cap))] wr)) ∨ (v9 = .int .i64 2 ∧ Hid (St w [(x, tri 1 0 2), (q, tri a0 a1 a2), (q + 1, tri f0 f1 f2), (b + 1, ac v0 v1 v2), (b + 1 + 1, ac 0 0 0), (b, gob n (.slice (some ⟨bl, ol, none⟩) N cap))] wr))) (fun i _ => 2 - (intOf i).toNat)
            case atStart => exact .inl ⟨rfl, HT⟩
            case round =>
              clear HT
              obtain ⟨rfl, HT⟩ | ⟨rfl, HT⟩ | ⟨rfl, HT⟩ := hrel
              · as_aux_lemma =>
                go_wp2_with fail
                go_loopw [10] (fun v10 wr => (v10 = .int .i64 0 ∧ Hid (St w [(x, tri 0 1 2), (q, tri a0 a1 a2), (q + 1, tri f0 f1 f2), (b + 1, ac v0 v1 v2), (b + 1 + 1, ac 0 0 0), (b, gob n (.slice (some ⟨bl, ol, none⟩) N cap))] wr)) ∨ (v10 = .int .i64 1 ∧ Hid (St w [(x, tri 1 0 2), (q, tri a0 a1 a2), (q + 1, tri f0 f1 f2), (b + 1, ac v0 v1 v2), (b + 1 + 1, ac 0 0 0), (b, gob n (.slice (some ⟨bl, ol, none⟩) N cap))] wr)) ∨ (v10 = .int .i64 2 ∧ Hid (St w [(x, tri 1 0 2), (q, tri a0 a1 a2), (q + 1, tri f0 f1 f2), (b + 1, ac v0 v1 v2), (b + 1 + 1, ac 0 0 0), (b, gob n (.slice (some ⟨bl, ol, none⟩) N cap))] wr))) (fun i _ => 2 - (intOf i).toNat)
                case atStart => exact .inl ⟨rfl, HT⟩
                case round =>
                  clear HT
                  obtain ⟨rfl, HT⟩ | ⟨rfl, HT⟩ | ⟨rfl, HT⟩ := hrel
                  · as_aux_lemma =>
                    have hw := HT.out
                    obtain ⟨m0, m1, m2⟩ := hw.col (b := x) (x := 0) (y := 1) (z := 2) (t := 24) (by simp)
                    obtain ⟨o0, o1, o2⟩ := hw.col (b := q + 1) (x := f0) (y := f1) (z := f2) (t := 24) (by simp)
                    clear HT
                    go_upto_region 16 with fail
                    go_quiet (fail)
                    have hz := hw.drewN nq
                    clear hw m0 m1 m2 o0 o1 o2
                    generalize wr.drewN nq = wz at hz ⊢
                    obtain ⟨m0, m1, m2⟩ := hz.col (b := x) (x := 0) (y := 1) (z := 2) (t := 24) (by simp)
                    obtain ⟨e0, e1, e2⟩ := hz.fro (b := x) (cs := #[.int .i64 0, .int .i64 1, .int .i64 2]) (t := 24) (by simp)
                    go_upto_region 19 with fail
                    have h5 := hz.put0 (v := .int .i64 1) (by have := HBQ.out; have := HWB.out; have := HXQ.out; omega) (by have := HBQ.out; have := HWB.out; have := HXQ.out; simp; omega)
                    clear hz m0 m1 m2 e0 e1 e2
                    generalize wz.setCell ⟨x, 0, none⟩ (.int .i64 1) = wy at h5 ⊢
                    obtain ⟨m0, m1, m2⟩ := h5.col (b := x) (x := 1) (y := 1) (z := 2) (t := 24) (by simp)
                    obtain ⟨e0, e1, e2⟩ := h5.fro (b := x) (cs := #[.int .i64 1, .int .i64 1, .int .i64 2]) (t := 24) (by simp)
                    have HZ := Lib.hid (h5.put1 (v := .int .i64 0) (by have := HBQ.out; have := HWB.out; have := HXQ.out; omega) (by have := HBQ.out; have := HWB.out; have := HXQ.out; simp; omega))
                    clear h5
                    go_wp2_with fail
                    go_roundw
                    case rel => exact .inr (.inl ⟨rfl, HZ⟩)
                    case measure => simp [intOf]
                  · as_aux_lemma =>
                    have hw := HT.out
                    obtain ⟨m0, m1, m2⟩ := hw.col (b := x) (x := 1) (y := 0) (z := 2) (t := 24) (by simp)
                    obtain ⟨o0, o1, o2⟩ := hw.col (b := q + 1) (x := f0) (y := f1) (z := f2) (t := 24) (by simp)
                    clear HT
                    go_upto_region 16 with fail
                    go_quiet (fail)
                    have hz := hw.drewN nq
                    clear hw m0 m1 m2 o0 o1 o2
                    generalize wr.drewN nq = wz at hz ⊢
                    have HZ := Lib.hid hz; clear hz
                    go_wp2_with fail
                    go_roundw
                    case rel => exact .inr (.inr (⟨rfl, HZ⟩))
                    case measure => simp [intOf]
                  · as_aux_lemma =>
                    have HZ := HT; clear HT
                    go_wp2_with fail
                    go_roundw
                    case rel => exact .inr (.inl ⟨rfl, HZ⟩)
                    case measure => simp [intOf]
              · as_aux_lemma =>
                go_wp2_with fail
                go_loopw [10] (fun v10 wr => (v10 = .int .i64 0 ∧ Hid (St w [(x, tri 1 0 2), (q, tri a0 a1 a2), (q + 1, tri f0 f1 f2), (b + 1, ac v0 v1 v2), (b + 1 + 1, ac 0 0 0), (b, gob n (.slice (some ⟨bl, ol, none⟩) N cap))] wr)) ∨ (v10 = .int .i64 1 ∧ Hid (St w [(x, tri 1 0 2), (q, tri a0 a1 a2), (q + 1, tri f0 f1 f2), (b + 1, ac v0 v1 v2), (b + 1 + 1, ac 0 0 0), (b, gob n (.slice (some ⟨bl, ol, none⟩) N cap))] wr))) (fun i _ => 1 - (intOf i).toNat)
                case atStart => exact .inl ⟨rfl, HT⟩
                case round =>
                  clear HT
                  obtain ⟨rfl, HT⟩ | ⟨rfl, HT⟩ := hrel
                  · as_aux_lemma =>
                    have hw := HT.out
                    obtain ⟨m0, m1, m2⟩ := hw.col (b := x) (x := 1) (y := 0) (z := 2) (t := 24) (by simp)
                    obtain ⟨o0, o1, o2⟩ := hw.col (b := q + 1) (x := f0) (y := f1) (z := f2) (t := 24) (by simp)
                    clear HT
                    go_upto_region 16 with fail
                    go_quiet (fail)
                    have hz := hw.drewN nq
                    clear hw m0 m1 m2 o0 o1 o2
                    generalize wr.drewN nq = wz at hz ⊢
                    have HZ := Lib.hid hz; clear hz
                    go_wp2_with fail
                    go_roundw
                    case rel => exact .inr (⟨rfl, HZ⟩)
                    case measure => simp [intOf]
                  · as_aux_lemma =>
                    have HZ := HT; clear HT
                    go_wp2_with fail
                    go_roundw
                    case rel => exact .inr (.inr (⟨rfl, HZ⟩))
                    case measure => simp [intOf]
              · as_aux_lemma =>
                go_wp2_with fail
                go_meet
                exact HT
        · rcases Int.lt_or_le f1 f2 with q12 | q12
          · rcases Int.lt_or_le f0 f2 with q02 | q02
            · have d01 : (f0 < f1) = False := eq_false (by omega)
              have d12 : (f1 < f2) = True := eq_true (by omega)
              have d02 : (f0 < f2) = True := eq_true (by omega)
              as_aux_lemma =>
              have e : (⟨ta, tb, tc⟩ : T3) = ⟨2, 0, 1⟩ := by rw [HAX.out]; simp only [ins1, st2, f3, *, if_true, if_false]
              simp only [T3.mk.injEq] at e
              obtain ⟨rfl, rfl, rfl⟩ := e
              clear HAX HT3
              go_wp2_with fail
              go_loopw [9] (fun v9 wr => (v9 = .int .i64 0 ∧ Hid (St w [(x, tri 0 1 2), (q, tri a0 a1 a2), (q + 1, tri f0 f1 f2), (b + 1, ac v0 v1 v2), (b + 1 + 1, ac 0 0 0), (b, gob n (.slice (some ⟨bl, ol, none⟩) N cap))] wr)) ∨ (v9 = .int .i64 1 ∧ Hid (St w [(x, tri 0 2 1), (q, tri a0 a1 a2), (q + 1, tri f0 f1 f2), (b + 1, ac v0 v1 v2), (b + 1 + 1, ac 0 0 0), (b, gob n (.slice (some ⟨bl, ol, none⟩) N cap))] wr)) ∨ (v9 = .int .i64 2 ∧ Hid (St w [(x, tri 2 0 1), (q, tri a0 a1 a2), (q + 1, tri f0 f1 f2), (b + 1, ac v0 v1 v2), (b + 1 + 1, ac 0 0 0), (b, gob n (.slice (some ⟨bl, ol, none⟩) N cap))] wr))) (fun i _ => 2 - (intOf i).toNat)
              case atStart => exact .inl ⟨rfl, HT⟩
              case round =>
                clear HT
                obtain ⟨rfl, HT⟩ | ⟨rfl, HT⟩ | ⟨rfl, HT⟩ := hrel
                · as_aux_lemma =>
                  go_wp2_with fail
                  go_loopw [10] (fun v10 wr => (v10 = .int .i64 0 ∧ Hid (St w [(x, tri 0 1 2), (q, tri a0 a1 a2), (q + 1, tri f0 f1 f2), (b + 1, ac v0 v1 v2), (b + 1 + 1, ac 0 0 0), (b, gob n (.slice (some ⟨bl, ol, none⟩) N cap))] wr)) ∨ (v10 = .int .i64 1 ∧ Hid (St w [(x, tri 0 1 2), (q, tri a0 a1 a2), (q + 1, tri f0 f1 f2), (b + 1, ac v0 v1 v2), (b + 1 + 1, ac 0 0 0), (b, gob n (.slice (some ⟨bl, ol, none⟩) N cap))] wr)) ∨ (v10 = .int .i64 2 ∧ Hid (St w [(x, tri 0 2 1), (q, tri a0 a1 a2), (q + 1, tri f0 f1 f2), (b + 1, ac v0 v1 v2), (b + 1 + 1, ac 0 0 0), (b, gob n (.slice (some ⟨bl, ol, none⟩) N cap))] wr))) (fun i _ => 2 - (intOf i).toNat)
                  case atStart => exact .inl ⟨rfl, HT⟩
                  case round =>
                    clear HT
                    obtain ⟨rfl, HT⟩ | ⟨rfl, HT⟩ | ⟨rfl, HT⟩ := hrel
                    · as_aux_lemma =>
                      have hw := HT.out
                      obtain ⟨m0, m1, m2⟩ := hw.col (b := x) (x := 0) (y := 1) (z := 2) (t := 24) (by simp)
                      obtain ⟨o0, o1, o2⟩ := hw.col (b := q + 1) (x := f0) (y := f1) (z := f2) (t := 24) (by simp)
                      clear HT
                      go_upto_region 16 with fail
                      go_quiet (fail)
                      have hz := hw.drewN nq
                      clear hw m0 m1 m2 o0 o1 o2
                      generalize wr.drewN nq = wz at hz ⊢
                      have HZ := Lib.hid hz; clear hz
                      go_wp2_with fail
                      go_roundw
                      case rel => exact .inr (.inl ⟨rfl, HZ⟩)
                      case measure => simp [intOf]
                    · as_aux_lemma =>
                      have hw := HT.out
                      obtain ⟨m0, m1, m2⟩ := hw.col (b := x) (x := 0) (y := 1) (z := 2) (t := 24) (by simp)
                      obtain ⟨o0, o1, o2⟩ := hw.col (b := q + 1) (x := f0) (y := f1) (z := f2) (t := 24) (by simp)
                      clear HT
                      go_upto_region 16 with fail
                      go_quiet (fail)
                      have hz := hw.drewN nq
                      clear hw m0 m1 m2 o0 o1 o2
                      generalize wr.drewN nq = wz at hz ⊢
                      obtain ⟨m0, m1, m2⟩ := hz.col (b := x) (x := 0) (y := 1) (z := 2) (t := 24) (by simp)
                      obtain ⟨e0, e1, e2⟩ := hz.fro (b := x) (cs := #[.int .i64 0, .int .i64 1, .int .i64 2]) (t := 24) (by simp)
                      go_upto_region 19 with fail
                      have h5 := hz.put1 (v := .int .i64 2) (by have := HBQ.out; have := HWB.out; have := HXQ.out; omega) (by have := HBQ.out; have := HWB.out; have := HXQ.out; simp; omega)
                      clear hz m0 m1 m2 e0 e1 e2
                      generalize wz.setCell ⟨x, 1, none⟩ (.int .i64 2) = wy at h5 ⊢
                      obtain ⟨m0, m1, m2⟩ := h5.col (b := x) (x := 0) (y := 2) (z := 2) (t := 24) (by simp)
                      obtain ⟨e0, e1, e2⟩ := h5.fro (b := x) (cs := #[.int .i64 0, .int .i64 2, .int .i64 2]) (t := 24) (by simp)
                      have HZ := Lib.hid (h5.put2 (v := .int .i64 1) (by have := HBQ.out; have := HWB.out; have := HXQ.out; omega) (by have := HBQ.out; have := HWB.out; have := HXQ.out; simp; omega))
                      clear h5
                      go_wp2_with fail
                      go_roundw
                      case rel => exact .inr (.inr (⟨rfl, HZ⟩))
                      case measure => simp [intOf]
                    · as_aux_lemma =>
                      have HZ := HT; clear HT
                      go_wp2_with fail
                      go_roundw
                      case rel => exact .inr (.inl ⟨rfl, HZ⟩)
                      case measure => simp [intOf]
                · as_aux_lemma =>
                  go_wp2_with fail
                  go_loopw [10] (fun v10 wr => (v10 = .int .i64 0 ∧ Hid (St w [(x, tri 0 2 1), (q, tri a0 a1 a2), (q + 1, tri f0 f1 f2), (b + 1, ac v0 v1 v2), (b + 1 + 1, ac 0 0 0), (b, gob n (.slice (some ⟨bl, ol, none⟩) N cap))] wr)) ∨ (v10 = .int .i64 1 ∧ Hid (St w [(x, tri 2 0 1), (q, tri a0 a1 a2), (q + 1, tri f0 f1 f2), (b + 1, ac v0 v1 v2), (b + 1 + 1, ac 0 0 0), (b, gob n (.slice (some ⟨bl, ol, none⟩) N cap))] wr))) (fun i _ => 1 - (intOf i).toNat)
                  case atStart => exact .inl ⟨rfl, HT⟩
                  case round =>
                    clear HT
                    obtain ⟨rfl, HT⟩ | ⟨rfl, HT⟩ := hrel
                    · as_aux_lemma =>
                      have hw := HT.out
                      obtain ⟨m0, m1, m2⟩ := hw.col (b := x) (x := 0) (y := 2) (z := 1) (t := 24) (by simp)
                      obtain ⟨o0, o1, o2⟩ := hw.col (b := q + 1) (x := f0) (y := f1) (z := f2) (t := 24) (by simp)
                      clear HT
                      go_upto_region 16 with fail
                      go_quiet (fail)
                      have hz := hw.drewN nq
                      clear hw m0 m1 m2 o0 o1 o2
                      generalize wr.drewN nq = wz at hz ⊢
                      obtain ⟨m0, m1, m2⟩ := hz.col (b := x) (x := 0) (y := 2) (z := 1) (t := 24) (by simp)
                      obtain ⟨e0, e1, e2⟩ := hz.fro (b := x) (cs := #[.int .i64 0, .int .i64 2, .int .i64 1]) (t := 24) (by simp)
                      go_upto_region 19 with fail
                      have h5 := hz.put0 (v := .int .i64 2) (by have := HBQ.out; have := HWB.out; have := HXQ.out; omega) (by have := HBQ.out; have := HWB.out; have := HXQ.out; simp; omega)
                      clear hz m0 m1 m2 e0 e1 e2
                      generalize wz.setCell ⟨x, 0, none⟩ (.int .i64 2) = wy at h5 ⊢
                      obtain ⟨m0, m1, m2⟩ := h5.col (b := x) (x := 2) (y := 2) (z := 1) (t := 24) (by simp)
                      obtain ⟨e0, e1, e2⟩ := h5.fro (b := x) (cs := #[.int .i64 2, .int .i64 2, .int .i64 1]) (t := 24) (by simp)
                      have HZ := Lib.hid (h5.put1 (v := .int .i64 0) (by have := HBQ.out; have := HWB.out; have := HXQ.out; omega) (by have := HBQ.out; have := HWB.out; have := HXQ.out; simp; omega))
                      clear h5
                      go_wp2_with fail
                      go_roundw
                      case rel => exact .inr (⟨rfl, HZ⟩)
                      case measure => simp [intOf]
                    · as_aux_lemma =>
                      have HZ := HT; clear HT
                      go_wp2_with fail
                      go_roundw
                      case rel => exact .inr (.inr (⟨rfl, HZ⟩))
                      case measure => simp [intOf]
                · as_aux_lemma =>
                  go_wp2_with fail
                  go_meet
                  exact HT
            · have d01 : (f0 < f1) = False := eq_false (by omega)
              have d12 : (f1 < f2) = True := eq_true (by omega)
              have d02 : (f0 < f2) = False := eq_false (by omega)
              as_aux_lemma =>
              have e : (⟨ta, tb, tc⟩ : T3) = ⟨0, 2, 1⟩ := by rw [HAX.out]; simp only [ins1, st2, f3, *, if_true, if_false]
              simp only [T3.mk.injEq] at e
              obtain ⟨rfl, rfl, rfl⟩ := e
              clear HAX HT3
              go_wp2_with fail
              go_loopw [9] (fun v9 wr => (v9 = .int .i64 0 ∧ Hid (St w [(x, tri 0 1 2), (q, tri a0 a1 a2), (q + 1, tri f0 f1 f2), (b + 1, ac v0 v1 v2), (b + 1 + 1, ac 0 0 0), (b, gob n (.slice (some ⟨bl, ol, none⟩) N cap))] wr)) ∨ (v9 = .int .i64 1 ∧ Hid (St w [(x, tri 0 2 1), (q, tri a0 a1 a2), (q + 1, tri f0 f1 f2), (b + 1, ac v0 v1 v2), (b + 1 + 1, ac 0 0 0), (b, gob n (.slice (some ⟨bl, ol, none⟩) N cap))] wr)) ∨ (v9 = .int .i64 2 ∧ Hid (St w [(x, tri 0 2 1), (q, tri a0 a1 a2), (q + 1, tri f0 f1 f2), (b + 1, ac v0 v1 v2), (b + 1 + 1, ac 0 0 0), (b, gob n (.slice (some ⟨bl, ol, none⟩) N cap))] wr))) (fun i _ => 2 - (intOf i).toNat)
              case atStart => exact .inl ⟨rfl, HT⟩
              case round =>
                clear HT
                obtain ⟨rfl, HT⟩ | ⟨rfl, HT⟩ | ⟨rfl, HT⟩ := hrel
                · as_aux_lemma =>
                  go_wp2_with fail
                  go_loopw [10] (fun v10 wr => (v10 = .int .i64 0 ∧ Hid (St w [(x, tri 0 1 2), (q, tri a0 a1 a2), (q + 1, tri f0 f1 f2), (b + 1, ac v0 v1 v2), (b + 1 + 1, ac 0 0 0), (b, gob n (.slice (some ⟨bl, ol, none⟩) N cap))] wr)) ∨ (v10 = .int .i64 1 ∧ Hid (St w [(x, tri 0 1 2), (q, tri a0 a1 a2), (q + 1, tri f0 f1 f2), (b + 1, ac v0 v1 v2), (b + 1 + 1, ac 0 0 0), (b, gob n (.slice (some ⟨bl, ol, none⟩) N cap))] wr)) ∨ (v10 = .int .i64 2 ∧ Hid (St w [(x, tri 0 2 1), (q, tri a0 a1 a2), (q + 1, tri f0 f1 f2), (b + 1, ac v0 v1 v2), (b + 1 + 1, ac 0 0 0), (b, gob n (.slice (some ⟨bl, ol, none⟩) N cap))] wr))) (fun i _ => 2 - (intOf i).toNat)
                  case atStart => exact .inl ⟨rfl, HT⟩
                  case round =>
                    clear HT
                    obtain ⟨rfl, HT⟩ | ⟨rfl, HT⟩ | ⟨rfl, HT⟩ := hrel
                    · as_aux_lemma =>
                      have hw := HT.out
                      obtain ⟨m0, m1, m2⟩ := hw.col (b := x) (x := 0) (y := 1) (z := 2) (t := 24) (by simp)
                      obtain ⟨o0, o1, o2⟩ := hw.col (b := q + 1) (x := f0) (y := f1) (z := f2) (t := 24) (by simp)
                      clear HT
                      go_upto_region 16 with fail
                      go_quiet (fail)
                      have hz := hw.drewN nq
                      clear hw m0 m1 m2 o0 o1 o2
                      generalize wr.drewN nq = wz at hz ⊢
                      have HZ := Lib.hid hz; clear hz
                      go_wp2_with fail
                      go_roundw
                      case rel => exact .inr (.inl ⟨rfl, HZ⟩)
                      case measure => simp [intOf]
                    · as_aux_lemma =>
                      have hw := HT.out
                      obtain ⟨m0, m1, m2⟩ := hw.col (b := x) (x := 0) (y := 1) (z := 2) (t := 24) (by simp)
                      obtain ⟨o0, o1, o2⟩ := hw.col (b := q + 1) (x := f0) (y := f1) (z := f2) (t := 24) (by simp)
                      clear HT
                      go_upto_region 16 with fail
                      go_quiet (fail)
                      have hz := hw.drewN nq
                      clear hw m0 m1 m2 o0 o1 o2
                      generalize wr.drewN nq = wz at hz ⊢
                      obtain ⟨m0, m1, m2⟩ := hz.col (b := x) (x := 0) (y := 1) (z := 2) (t := 24) (by simp)
                      obtain ⟨e0, e1, e2⟩ := hz.fro (b := x) (cs := #[.int .i64 0, .int .i64 1, .int .i64 2]) (t := 24) (by simp)
                      go_upto_region 19 with fail
                      have h5 := hz.put1 (v := .int .i64 2) (by have := HBQ.out; have := HWB.out; have := HXQ.out; omega) (by have := HBQ.out; have := HWB.out; have := HXQ.out; simp; omega)
                      clear hz m0 m1 m2 e0 e1 e2
                      generalize wz.setCell ⟨x, 1, none⟩ (.int .i64 2) = wy at h5 ⊢
                      obtain ⟨m0, m1, m2⟩ := h5.col (b := x) (x := 0) (y := 2) (z := 2) (t := 24) (by simp)
                      obtain ⟨e0, e1, e2⟩ := h5.fro (b := x) (cs := #[.int .i64 0, .int .i64 2, .int .i64 2]) (t := 24) (by simp)
                      have HZ := Lib.hid (h5.put2 (v := .int .i64 1) (by have := HBQ.out; have := HWB.out; have := HXQ.out; omega) (by have := HBQ.out; have := HWB.out; have := HXQ.out; simp; omega))
                      clear h5
                      go_wp2_with fail
                      go_roundw
                      case rel => exact .inr (.inr (⟨rfl, HZ⟩))
                      case measure => simp [intOf]
                    · as_aux_lemma =>
                      have HZ := HT; clear HT
                      go_wp2_with fail
                      go_roundw
                      case rel => exact .inr (.inl ⟨rfl, HZ⟩)
                      case measure => simp [intOf]
                · as_aux_lemma =>
                  go_wp2_with fail
                  go_loopw [10] (fun v10 wr => (v10 = .int .i64 0 ∧ Hid (St w [(x, tri 0 2 1), (q, tri a0 a1 a2), (q + 1, tri f0 f1 f2), (b + 1, ac v0 v1 v2), (b + 1 + 1, ac 0 0 0), (b, gob n (.slice (some ⟨bl, ol, none⟩) N cap))] wr)) ∨ (v10 = .int .i64 1 ∧ Hid (St w [(x, tri 0 2 1), (q, tri a0 a1 a2), (q + 1, tri f0 f1 f2), (b + 1, ac v0 v1 v2), (b + 1 + 1, ac 0 0 0), (b, gob n (.slice (some ⟨bl, ol, none⟩) N cap))] wr))) (fun i _ => 1 - (intOf i).toNat)
                  case atStart => exact .inl ⟨rfl, HT⟩
                  case round =>
                    clear HT
                    obtain ⟨rfl, HT⟩ | ⟨rfl, HT⟩ := hrel
                    · as_aux_lemma =>
                      have hw := HT.out
                      obtain ⟨m0, m1, m2⟩ := hw.col (b := x) (x := 0) (y := 2) (z := 1) (t := 24) (by simp)
                      obtain ⟨o0, o1, o2⟩ := hw.col (b := q + 1) (x := f0) (y := f1) (z := f2) (t := 24) (by simp)
                      clear HT
                      go_upto_region 16 with fail
                      go_quiet (fail)
                      have hz := hw.drewN nq
                      clear hw m0 m1 m2 o0 o1 o2
                      generalize wr.drewN nq = wz at hz ⊢
                      have HZ := Lib.hid hz; clear hz
                      go_wp2_with fail
                      go_roundw
                      case rel => exact .inr (⟨rfl, HZ⟩)
                      case measure => simp [intOf]
                    · as_aux_lemma =>
                      have HZ := HT; clear HT
                      go_wp2_with fail
                      go_roundw
                      case rel => exact .inr (.inr (⟨rfl, HZ⟩))
                      case measure => simp [intOf]
                · as_aux_lemma =>
                  go_wp2_with fail
                  go_meet
                  exact HT
          · have d01 : (f0 < f1) = False := eq_false (by omega)
            have d12 : (f1 < f2) = False := eq_false (by omega)
            as_aux_lemma =>
            have e : (⟨ta, tb, tc⟩ : T3) = ⟨0, 1, 2⟩ := by rw [HAX.out]; simp only [ins1, st2, f3, *, if_false]
            simp only [T3.mk.injEq] at e
            obtain ⟨rfl, rfl, rfl⟩ := e
            clear HAX HT3
            go_wp2_with fail
            go_loopw [9] (fun v9 wr => (v9 = .int .i64 0 ∧ Hid (St w [(x, tri 0 1 2), (q, tri a0 a1 a2), (q + 1, tri f0 f1 f2), (b + 1, ac v0 v1 v2), (b + 1 + 1, ac 0 0 0), (b, gob n (.slice (some ⟨bl, ol, none⟩) N cap))] wr)) ∨ (v9 = .int .i64 1 ∧ Hid (St w [(x, tri 0 1 2), (q, tri a0 a1 a2), (q + 1, tri f0 f1 f2), (b + 1, ac v0 v1 v2), (b + 1 + 1, ac 0 0 0), (b, gob n (.slice (some ⟨bl, ol, none⟩) N cap))] wr)) ∨ (v9 = .int .i64 2 ∧ Hid (St w [(x, tri 0 1 2), (q, tri a0 a1 a2), (q + 1, tri f0 f1 f2), (b + 1, ac v0 v1 v2), (b + 1 + 1, ac 0 0 0), (b, gob n (.slice (some ⟨bl, ol, none⟩) N cap))] wr))) (fun i _ => 2 - (intOf i).toNat)
            case atStart => exact .inl ⟨rfl, HT⟩
            case round =>
              clear HT
              obtain ⟨rfl, HT⟩ | ⟨rfl, HT⟩ | ⟨rfl, HT⟩ := hrel
              · as_aux_lemma =>
                go_wp2_with fail
                go_loopw [10] (fun v10 wr => (v10 = .int .i64 0 ∧ Hid (St w [(x, tri 0 1 2), (q, tri a0 a1 a2), (q + 1, tri f0 f1 f2), (b + 1, ac v0 v1 v2), (b + 1 + 1, ac 0 0 0), (b, gob n (.slice (some ⟨bl, ol, none⟩) N cap))] wr)) ∨ (v10 = .int .i64 1 ∧ Hid (St w [(x, tri 0 1 2), (q, tri a0 a1 a2), (q + 1, tri f0 f1 f2), (b + 1, ac v0 v1 v2), (b + 1 + 1, ac 0 0 0), (b, gob n (.slice (some ⟨bl, ol, none⟩) N cap))] wr)) ∨ (v10 = .int .i64 2 ∧ Hid (St w [(x, tri 0 1 2), (q, tri a0 a1 a2), (q + 1, tri f0 f1 f2), (b + 1, ac v0 v1 v2), (b + 1 + 1, ac 0 0 0), (b, gob n (.slice (some ⟨bl, ol, none⟩) N cap))] wr))) (fun i _ => 2 - (intOf i).toNat)
                case atStart => exact .inl ⟨rfl, HT⟩
                case round =>
                  clear HT
                  obtain ⟨rfl, HT⟩ | ⟨rfl, HT⟩ | ⟨rfl, HT⟩ := hrel
                  · as_aux_lemma =>
                    have hw := HT.out
                    obtain ⟨m0, m1, m2⟩ := hw.col (b := x) (x := 0) (y := 1) (z := 2) (t := 24) (by simp)
                    obtain ⟨o0, o1, o2⟩ := hw.col (b := q + 1) (x := f0) (y := f1) (z := f2) (t := 24) (by simp)
                    clear HT
                    go_upto_region 16 with fail
                    go_quiet (fail)
                    have hz := hw.drewN nq
                    clear hw m0 m1 m2 o0 o1 o2
                    generalize wr.drewN nq = wz at hz ⊢
                    have HZ := Lib.hid hz; clear hz
                    go_wp2_with fail
                    go_roundw
                    case rel => exact .inr (.inl ⟨rfl, HZ⟩)
                    case measure => simp [intOf]
                  · as_aux_lemma =>
                    have hw := HT.out
                    obtain ⟨m0, m1, m2⟩ := hw.col (b := x) (x := 0) (y := 1) (z := 2) (t := 24) (by simp)
                    obtain ⟨o0, o1, o2⟩ := hw.col (b := q + 1) (x := f0) (y := f1) (z := f2) (t := 24) (by simp)
                    clear HT
                    go_upto_region 16 with fail
                    go_quiet (fail)
                    have hz := hw.drewN nq
                    clear hw m0 m1 m2 o0 o1 o2
                    generalize wr.drewN nq = wz at hz ⊢
                    have HZ := Lib.hid hz; clear hz
                    go_wp2_with fail
                    go_roundw
                    case rel => exact .inr (.inr (⟨rfl, HZ⟩))
                    case measure => simp [intOf]
                  · as_aux_lemma =>
                    have HZ := HT; clear HT
                    go_wp2_with fail
                    go_roundw
                    case rel => exact .inr (.inl ⟨rfl, HZ⟩)
                    case measure => simp [intOf]
              · as_aux_lemma =>
                go_wp2_with fail
                go_loopw [10] (fun v10 wr => (v10 = .int .i64 0 ∧ Hid (St w [(x, tri 0 1 2), (q, tri a0 a1 a2), (q + 1, tri f0 f1 f2), (b + 1, ac v0 v1 v2), (b + 1 + 1, ac 0 0 0), (b, gob n (.slice (some ⟨bl, ol, none⟩) N cap))] wr)) ∨ (v10 = .int .i64 1 ∧ Hid (St w [(x, tri 0 1 2), (q, tri a0 a1 a2), (q + 1, tri f0 f1 f2), (b + 1, ac v0 v1 v2), (b + 1 + 1, ac 0 0 0), (b, gob n (.slice (some ⟨bl, ol, none⟩) N cap))] wr))) (fun i _ => 1 - (intOf i).toNat)
                case atStart => exact .inl ⟨rfl, HT⟩
                case round =>
                  clear HT
                  obtain ⟨rfl, HT⟩ | ⟨rfl, HT⟩ := hrel
                  · as_aux_lemma =>
                    have hw := HT.out
                    obtain ⟨m0, m1, m2⟩ := hw.col (b := x) (x := 0) (y := 1) (z := 2) (t := 24) (by simp)
                    obtain ⟨o0, o1, o2⟩ := hw.col (b := q + 1) (x := f0) (y := f1) (z := f2) (t := 24) (by simp)
                    clear HT
                    go_upto_region 16 with fail
                    go_quiet (fail)
                    have hz := hw.drewN nq
                    clear hw m0 m1 m2 o0 o1 o2
                    generalize wr.drewN nq = wz at hz ⊢
                    have HZ := Lib.hid hz; clear hz
                    go_wp2_with fail
                    go_roundw
                    case rel => exact .inr (⟨rfl, HZ⟩)
                    case measure => simp [intOf]
                  · as_aux_lemma =>
                    have HZ := HT; clear HT
                    go_wp2_with fail
                    go_roundw
                    case rel => exact .inr (.inr (⟨rfl, HZ⟩))
                    case measure => simp [intOf]
              · as_aux_lemma =>
                go_wp2_with fail
                go_meet
                exact HT
      case rest =>
      as_aux_lemma =>
      have HTS := hcut
      clear HT HAX
      have hw := HTS.out
      have hsx : x < wc.heap.size := hw.lt (b := x) (o := tri ta tb tc) (by simp)
      have h9 := (hw.alloc (tri 0 0 0)).sub (L' := [(wc.heap.size, tri 0 0 0), (q, tri a0 a1 a2), (x, tri ta tb tc), (q + 1, tri f0 f1 f2), (b + 1, ac v0 v1 v2), (b + 1 + 1, ac 0 0 0), (b, gob n (.slice (some ⟨bl, ol, none⟩) N cap))]) (by intro z hz; simp only [List.mem_cons, List.not_mem_nil, or_false] at hz ⊢; grind)
      clear hw HTS
      go_upto_region 21 with fail
      generalize wc.alloc (tri 0 0 0) = w9 at h9 ⊢
      generalize wc.heap.size = s at h9 hsx ⊢
      have HSX := Lib.hid hsx; clear hsx
      have HT := Lib.hid h9; clear h9
      go_wp2
      go_loopw [13, 14] (fun v13 v14 wr => (v14 = .int .i64 0 ∧ v13 = .int .i64 65535 ∧ Hid (St w [(s, tri 0 0 0), (q, tri a0 a1 a2), (x, tri ta tb tc), (q + 1, tri f0 f1 f2), (b + 1, ac v0 v1 v2), (b + 1 + 1, ac 0 0 0), (b, gob n (.slice (some ⟨bl, ol, none⟩) N cap))] wr)) ∨ (v14 = .int .i64 1 ∧ v13 = .int .i64 Fa ∧ Hid (St w [(s, tri s00 s01 s02), (q, tri b0 b1 b2), (x, tri ta tb tc), (q + 1, tri f0 f1 f2), (b + 1, ac v0 v1 v2), (b + 1 + 1, ac 0 0 0), (b, gob n (.slice (some ⟨bl, ol, none⟩) N cap))] wr)) ∨ (v14 = .int .i64 2 ∧ v13 = .int .i64 Fb ∧ Hid (St w [(s, tri s10 s11 s12), (q, tri g0 g1 g2), (x, tri ta tb tc), (q + 1, tri f0 f1 f2), (b + 1, ac v0 v1 v2), (b + 1 + 1, ac 0 0 0), (b, gob n (.slice (some ⟨bl, ol, none⟩) N cap))] wr)) ∨ (v14 = .int .i64 3 ∧ v13 = .int .i64 Fc ∧ Hid (St w [(s, tri s20 s21 s22), (q, tri h0 h1 h2'), (x, tri ta tb tc), (q + 1, tri f0 f1 f2), (b + 1, ac v0 v1 v2), (b + 1 + 1, ac 0 0 0), (b, gob n (.slice (some ⟨bl, ol, none⟩) N cap))] wr)) ∨ (v14 = .int .i64 4 ∧ v13 = .int .i64 Fc ∧ Hid (St w [(s, tri s30 s31 s32), (q, tri h0 h1 h2'), (x, tri ta tb tc), (q + 1, tri f0 f1 f2), (b + 1, ac v0 v1 v2), (b + 1 + 1, ac 0 0 0), (b, gob n (.slice (some ⟨bl, ol, none⟩) N cap))] wr))) (fun _ i _ => 4 - (intOf i).toNat)
      case atStart => exact .inl ⟨rfl, rfl, HT⟩
      case round =>
        clear HT
        obtain ⟨rfl, rfl, HT⟩ | ⟨rfl, rfl, HT⟩ | ⟨rfl, rfl, HT⟩ | ⟨rfl, rfl, HT⟩ | ⟨rfl, rfl, HT⟩ := hrel
        · as_aux_lemma =>
          have hw := HT.out
          clear HT
          obtain ⟨c1', c2'⟩ := HWW.out.1
          have ht : (ta : Int) < 3 := by have := HT3.out; omega
          have ht0 : (0 : Int) ≤ ta := Int.natCast_nonneg _
          obtain ⟨m0, m1, m2⟩ := hw.col (b := x) (x := ta) (y := tb) (z := tc) (t := 24) (by simp)
          have hc := cb_at (hw.col (b := q + 1) (x := f0) (y := f1) (z := f2) (t := 24) (by simp)) HT3.out.1
          rw [HF.out.1] at hc
          go_upto_region 29 with fail
          clear c1' c2' ht ht0 m0 m1 m2 hc
          obtain ⟨⟨c1', c2'⟩, ⟨c3', c4'⟩, ⟨c5', c6'⟩, c7', c8'⟩ := HQ0.out
          have hql : (Q0 : Int) < N := by have := HLS.out; omega
          have hq0 : (0 : Int) ≤ Q0 := Int.natCast_nonneg _
          obtain ⟨m0, m1, m2⟩ := hw.col (b := q) (x := a0) (y := a1) (z := a2) (t := 24) (by simp)
          have n0 := hw.cell (b := b) (cs := #[.int .i64 n, .slice (some ⟨bl, ol, none⟩) N cap]) (t := 30) (by simp) 0
          have n1 := hw.cell (b := b) (cs := #[.int .i64 n, .slice (some ⟨bl, ol, none⟩) N cap]) (t := 30) (by simp) 1
          simp only [pair0, pair1] at n0 n1
          obtain ⟨o0, o1, o2⟩ := (HXS.out _ hw.below).1
          simp only [] at o0 o1 o2
          go_upto_region 30 with fail
          clear c1' c2' c3' c4' c5' c6' c7' c8' hql hq0 m0 m1 m2 n0 n1 o0 o1 o2
          have hz := hw.alloc (ac x00 x01 x02)
          have hvb : s < wr.heap.size := hw.lt (b := s) (o := tri 0 0 0) (by simp)
          clear hw
          generalize wr.alloc (ac x00 x01 x02) = wv at hz ⊢
          generalize wr.heap.size = vb at hz hvb ⊢
          have HVB := Lib.hid hvb; clear hvb
          have HT := Lib.hid hz; clear hz
          go_wp2
          go_loopw [17] (fun v17 wr => (v17 = .int .i64 0 ∧ Hid (St w [(vb, ac x00 x01 x02), (s, tri 0 0 0), (q, tri a0 a1 a2), (x, tri ta tb tc), (q + 1, tri f0 f1 f2), (b + 1, ac v0 v1 v2), (b + 1 + 1, ac 0 0 0), (b, gob n (.slice (some ⟨bl, ol, none⟩) N cap))] wr)) ∨ (v17 = .int .i64 1 ∧ Hid (St w [(vb, ac x00 x01 x02), (s, tri s00 0 0), (q, tri a0 a1 a2), (x, tri ta tb tc), (q + 1, tri f0 f1 f2), (b + 1, ac v0 v1 v2), (b + 1 + 1, ac 0 0 0), (b, gob n (.slice (some ⟨bl, ol, none⟩) N cap))] wr)) ∨ (v17 = .int .i64 2 ∧ Hid (St w [(vb, ac x00 x01 x02), (s, tri s00 s01 0), (q, tri a0 a1 a2), (x, tri ta tb tc), (q + 1, tri f0 f1 f2), (b + 1, ac v0 v1 v2), (b + 1 + 1, ac 0 0 0), (b, gob n (.slice (some ⟨bl, ol, none⟩) N cap))] wr)) ∨ (v17 = .int .i64 3 ∧ Hid (St w [(vb, ac x00 x01 x02), (s, tri s00 s01 s02), (q, tri a0 a1 a2), (x, tri ta tb tc), (q + 1, tri f0 f1 f2), (b + 1, ac v0 v1 v2), (b + 1 + 1, ac 0 0 0), (b, gob n (.slice (some ⟨bl, ol, none⟩) N cap))] wr))) (fun i _ => 3 - (intOf i).toNat)
          case atStart => exact .inl ⟨rfl, HT⟩
          case round =>
            clear HT
            obtain ⟨rfl, HT⟩ | ⟨rfl, HT⟩ | ⟨rfl, HT⟩ | ⟨rfl, HT⟩ := hrel
            · as_aux_lemma =>
              obtain ⟨⟨c1', c2'⟩, c3', c4'⟩ := HM0.out.1
              obtain ⟨c5', c6'⟩ := HM0z.out.1
              have hw := HT.out
              clear HT
              go_upto_region 33 with fail
              have hd := hw.drew
              refine wp_region_still_tail 11 (by kernel_rfl) (by kernel_rfl) ?_
              rw [drew_eq wr]
              generalize wr.drew = wd at hd ⊢
              clear hw
              simp only [List.take_succ_cons, List.take_zero, List.drop_succ_cons, List.drop_zero]
              obtain ⟨n0, n1, n2⟩ := hd.col (b := vb) (x := x00) (y := x01) (z := x02) (t := 25) (by simp)
              obtain ⟨m0, m1, m2⟩ := hd.col (b := s) (x := 0) (y := 0) (z := 0) (t := 24) (by simp)
              obtain ⟨e0, e1, e2⟩ := hd.fro (b := s) (cs := #[.int .i64 0, .int .i64 0, .int .i64 0]) (t := 24) (by simp)
              iterate 11 still_step
              refine wpStill_nil ?_
              have HZ := Lib.hid ((hd.swap.put0 (v := .int .i64 s00) (by have := HBQ.out; have := HWB.out; have := HXQ.out; have := HSX.out; omega) (by have := HBQ.out; have := HWB.out; have := HXQ.out; have := HSX.out; have := HVB.out; simp; omega)).swap)
              clear hd
              go_wp2_with fail
              go_roundw
              case rel => (repeat apply Exists.intro); exact ⟨.inr (.inl ⟨rfl, HZ⟩), rfl⟩
              case measure => simp [intOf]
            · as_aux_lemma =>
              obtain ⟨⟨c1', c2'⟩, c3', c4'⟩ := HM0.out.2.1
              obtain ⟨c5', c6'⟩ := HM0z.out.2.1
              have hw := HT.out
              clear HT
              go_upto_region 33 with fail
              have hd := hw.drew
              refine wp_region_still_tail 11 (by kernel_rfl) (by kernel_rfl) ?_
              rw [drew_eq wr]
              generalize wr.drew = wd at hd ⊢
              clear hw
              simp only [List.take_succ_cons, List.take_zero, List.drop_succ_cons, List.drop_zero]
              obtain ⟨n0, n1, n2⟩ := hd.col (b := vb) (x := x00) (y := x01) (z := x02) (t := 25) (by simp)
              obtain ⟨m0, m1, m2⟩ := hd.col (b := s) (x := s00) (y := 0) (z := 0) (t := 24) (by simp)
              obtain ⟨e0, e1, e2⟩ := hd.fro (b := s) (cs := #[.int .i64 s00, .int .i64 0, .int .i64 0]) (t := 24) (by simp)
              iterate 11 still_step
              refine wpStill_nil ?_
              have HZ := Lib.hid ((hd.swap.put1 (v := .int .i64 s01) (by have := HBQ.out; have := HWB.out; have := HXQ.out; have := HSX.out; omega) (by have := HBQ.out; have := HWB.out; have := HXQ.out; have := HSX.out; have := HVB.out; simp; omega)).swap)
              clear hd
              go_wp2_with fail
              go_roundw
              case rel => (repeat apply Exists.intro); exact ⟨.inr (.inr (.inl ⟨rfl, HZ⟩)), rfl⟩
              case measure => simp [intOf]
            · as_aux_lemma =>
              obtain ⟨⟨c1', c2'⟩, c3', c4'⟩ := HM0.out.2.2
              obtain ⟨c5', c6'⟩ := HM0z.out.2.2
              have hw := HT.out
              clear HT
              go_upto_region 33 with fail
              have hd := hw.drew
              refine wp_region_still_tail 11 (by kernel_rfl) (by kernel_rfl) ?_
              rw [drew_eq wr]
              generalize wr.drew = wd at hd ⊢
              clear hw
              simp only [List.take_succ_cons, List.take_zero, List.drop_succ_cons, List.drop_zero]
              obtain ⟨n0, n1, n2⟩ := hd.col (b := vb) (x := x00) (y := x01) (z := x02) (t := 25) (by simp)
              obtain ⟨m0, m1, m2⟩ := hd.col (b := s) (x := s00) (y := s01) (z := 0) (t := 24) (by simp)
              obtain ⟨e0, e1, e2⟩ := hd.fro (b := s) (cs := #[.int .i64 s00, .int .i64 s01, .int .i64 0]) (t := 24) (by simp)
              iterate 11 still_step
              refine wpStill_nil ?_
              have HZ := Lib.hid ((hd.swap.put2 (v := .int .i64 s02) (by have := HBQ.out; have := HWB.out; have := HXQ.out; have := HSX.out; omega) (by have := HBQ.out; have := HWB.out; have := HXQ.out; have := HSX.out; have := HVB.out; simp; omega)).swap)
              clear hd
              go_wp2_with fail
              go_roundw
              case rel => (repeat apply Exists.intro); exact ⟨.inr (.inr (.inr (⟨rfl, HZ⟩))), rfl⟩
              case measure => simp [intOf]
            · as_aux_lemma =>
              have hw := HT.out.sub (L' := [(q, tri a0 a1 a2), (s, tri s00 s01 s02), (x, tri ta tb tc), (q + 1, tri f0 f1 f2), (b + 1, ac v0 v1 v2), (b + 1 + 1, ac 0 0 0), (b, gob n (.slice (some ⟨bl, ol, none⟩) N cap))]) (by intro z hz; simp only [List.mem_cons, List.not_mem_nil, or_false] at hz ⊢; grind)
              clear HT
              obtain ⟨hi1, hi2, hi3, hi4⟩ := HI0.out
              have ht : (ta : Int) < 3 := by have := HT3.out; omega
              have ht0 : (0 : Int) ≤ ta := Int.natCast_nonneg _
              obtain ⟨m0, m1, m2⟩ := hw.col (b := x) (x := ta) (y := tb) (z := tc) (t := 24) (by simp)
              have hc := cb_at (hw.col (b := q) (x := a0) (y := a1) (z := a2) (t := 24) (by simp)) HT3.out.1
              rw [hi1] at hc
              have hf := hw.frozen (b := q) (cs := #[.int .i64 a0, .int .i64 a1, .int .i64 a2]) (t := 24) (by simp) ta
              have hz := hw.put (j := ta) (v := .int .i64 (i0 + 1)) (by have := HBQ.out; have := HWB.out; have := HXQ.out; have := HSX.out; omega) (by have := HBQ.out; have := HWB.out; have := HXQ.out; have := HSX.out; simp; omega)
              rw [hi2] at hz
              have HZ := Lib.hid hz.swap
              clear hw hz hi1 hi2
              go_wp2_with fail
              go_roundw
              case rel => exact .inr (.inl ⟨rfl, rfl, HZ⟩)
              case measure => simp [intOf]
        · as_aux_lemma =>
          have hw := HT.out
          clear HT
          obtain ⟨c1', c2'⟩ := HWW.out.2.1
          have ht : (tb : Int) < 3 := by have := HT3.out; omega
          have ht0 : (0 : Int) ≤ tb := Int.natCast_nonneg _
          obtain ⟨m0, m1, m2⟩ := hw.col (b := x) (x := ta) (y := tb) (z := tc) (t := 24) (by simp)
          have hc := cb_at (hw.col (b := q + 1) (x := f0) (y := f1) (z := f2) (t := 24) (by simp)) HT3.out.2.1
          rw [HF.out.2.1] at hc
          go_upto_region 29 with fail
          clear c1' c2' ht ht0 m0 m1 m2 hc
          obtain ⟨⟨c1', c2'⟩, ⟨c3', c4'⟩, ⟨c5', c6'⟩, c7', c8'⟩ := HQ1.out
          have hql : (Q1 : Int) < N := by have := HLS.out; omega
          have hq0 : (0 : Int) ≤ Q1 := Int.natCast_nonneg _
          obtain ⟨m0, m1, m2⟩ := hw.col (b := q) (x := b0) (y := b1) (z := b2) (t := 24) (by simp)
          have n0 := hw.cell (b := b) (cs := #[.int .i64 n, .slice (some ⟨bl, ol, none⟩) N cap]) (t := 30) (by simp) 0
          have n1 := hw.cell (b := b) (cs := #[.int .i64 n, .slice (some ⟨bl, ol, none⟩) N cap]) (t := 30) (by simp) 1
          simp only [pair0, pair1] at n0 n1
          obtain ⟨o0, o1, o2⟩ := (HXS.out _ hw.below).2.1
          simp only [] at o0 o1 o2
          go_upto_region 30 with fail
          clear c1' c2' c3' c4' c5' c6' c7' c8' hql hq0 m0 m1 m2 n0 n1 o0 o1 o2
          have hz := hw.alloc (ac x10 x11 x12)
          have hvb : s < wr.heap.size := hw.lt (b := s) (o := tri s00 s01 s02) (by simp)
          clear hw
          generalize wr.alloc (ac x10 x11 x12) = wv at hz ⊢
          generalize wr.heap.size = vb at hz hvb ⊢
          have HVB := Lib.hid hvb; clear hvb
          have HT := Lib.hid hz; clear hz
          go_wp2
          go_loopw [17] (fun v17 wr => (v17 = .int .i64 0 ∧ Hid (St w [(vb, ac x10 x11 x12), (s, tri s00 s01 s02), (q, tri b0 b1 b2), (x, tri ta tb tc), (q + 1, tri f0 f1 f2), (b + 1, ac v0 v1 v2), (b + 1 + 1, ac 0 0 0), (b, gob n (.slice (some ⟨bl, ol, none⟩) N cap))] wr)) ∨ (v17 = .int .i64 1 ∧ Hid (St w [(vb, ac x10 x11 x12), (s, tri s10 s01 s02), (q, tri b0 b1 b2), (x, tri ta tb tc), (q + 1, tri f0 f1 f2), (b + 1, ac v0 v1 v2), (b + 1 + 1, ac 0 0 0), (b, gob n (.slice (some ⟨bl, ol, none⟩) N cap))] wr)) ∨ (v17 = .int .i64 2 ∧ Hid (St w [(vb, ac x10 x11 x12), (s, tri s10 s11 s02), (q, tri b0 b1 b2), (x, tri ta tb tc), (q + 1, tri f0 f1 f2), (b + 1, ac v0 v1 v2), (b + 1 + 1, ac 0 0 0), (b, gob n (.slice (some ⟨bl, ol, none⟩) N cap))] wr)) ∨ (v17 = .int .i64 3 ∧ Hid (St w [(vb, ac x10 x11 x12), (s, tri s10 s11 s12), (q, tri b0 b1 b2), (x, tri ta tb tc), (q + 1, tri f0 f1 f2), (b + 1, ac v0 v1 v2), (b + 1 + 1, ac 0 0 0), (b, gob n (.slice (some ⟨bl, ol, none⟩) N cap))] wr))) (fun i _ => 3 - (intOf i).toNat)
          case atStart => exact .inl ⟨rfl, HT⟩
          case round =>
            clear HT
            obtain ⟨rfl, HT⟩ | ⟨rfl, HT⟩ | ⟨rfl, HT⟩ | ⟨rfl, HT⟩ := hrel
            · as_aux_lemma =>
              obtain ⟨⟨c1', c2'⟩, c3', c4'⟩ := HM1.out.1
              have hw := HT.out
              clear HT
              go_upto_region 33 with fail
              have hd := hw.drew
              refine wp_region_still_tail 11 (by kernel_rfl) (by kernel_rfl) ?_
              rw [drew_eq wr]
              generalize wr.drew = wd at hd ⊢
              clear hw
              simp only [List.take_succ_cons, List.take_zero, List.drop_succ_cons, List.drop_zero]
              obtain ⟨n0, n1, n2⟩ := hd.col (b := vb) (x := x10) (y := x11) (z := x12) (t := 25) (by simp)
              obtain ⟨m0, m1, m2⟩ := hd.col (b := s) (x := s00) (y := s01) (z := s02) (t := 24) (by simp)
              obtain ⟨e0, e1, e2⟩ := hd.fro (b := s) (cs := #[.int .i64 s00, .int .i64 s01, .int .i64 s02]) (t := 24) (by simp)
              iterate 11 still_step
              refine wpStill_nil ?_
              have HZ := Lib.hid ((hd.swap.put0 (v := .int .i64 s10) (by have := HBQ.out; have := HWB.out; have := HXQ.out; have := HSX.out; omega) (by have := HBQ.out; have := HWB.out; have := HXQ.out; have := HSX.out; have := HVB.out; simp; omega)).swap)
              clear hd
              go_wp2_with fail
              go_roundw
              case rel => (repeat apply Exists.intro); exact ⟨.inr (.inl ⟨rfl, HZ⟩), rfl⟩
              case measure => simp [intOf]
            · as_aux_lemma =>
              obtain ⟨⟨c1', c2'⟩, c3', c4'⟩ := HM1.out.2.1
              have hw := HT.out
              clear HT
              go_upto_region 33 with fail
              have hd := hw.drew
              refine wp_region_still_tail 11 (by kernel_rfl) (by kernel_rfl) ?_
              rw [drew_eq wr]
              generalize wr.drew = wd at hd ⊢
              clear hw
              simp only [List.take_succ_cons, List.take_zero, List.drop_succ_cons, List.drop_zero]
              obtain ⟨n0, n1, n2⟩ := hd.col (b := vb) (x := x10) (y := x11) (z := x12) (t := 25) (by simp)
              obtain ⟨m0, m1, m2⟩ := hd.col (b := s) (x := s10) (y := s01) (z := s02) (t := 24) (by simp)
              obtain ⟨e0, e1, e2⟩ := hd.fro (b := s) (cs := #[.int .i64 s10, .int .i64 s01, .int .i64 s02]) (t := 24) (by simp)
              iterate 11 still_step
              refine wpStill_nil ?_
              have HZ := Lib.hid ((hd.swap.put1 (v := .int .i64 s11) (by have := HBQ.out; have := HWB.out; have := HXQ.out; have := HSX.out; omega) (by have := HBQ.out; have := HWB.out; have := HXQ.out; have := HSX.out; have := HVB.out; simp; omega)).swap)
              clear hd
              go_wp2_with fail
              go_roundw
              case rel => (repeat apply Exists.intro); exact ⟨.inr (.inr (.inl ⟨rfl, HZ⟩)), rfl⟩
              case measure => simp [intOf]
            · as_aux_lemma =>
              obtain ⟨⟨c1', c2'⟩, c3', c4'⟩ := HM1.out.2.2
              have hw := HT.out
              clear HT
              go_upto_region 33 with fail
              have hd := hw.drew
              refine wp_region_still_tail 11 (by kernel_rfl) (by kernel_rfl) ?_
              rw [drew_eq wr]
              generalize wr.drew = wd at hd ⊢
              clear hw
              simp only [List.take_succ_cons, List.take_zero, List.drop_succ_cons, List.drop_zero]
              obtain ⟨n0, n1, n2⟩ := hd.col (b := vb) (x := x10) (y := x11) (z := x12) (t := 25) (by simp)
              obtain ⟨m0, m1, m2⟩ := hd.col (b := s) (x := s10) (y := s11) (z := s02) (t := 24) (by simp)
              obtain ⟨e0, e1, e2⟩ := hd.fro (b := s) (cs := #[.int .i64 s10, .int .i64 s11, .int .i64 s02]) (t := 24) (by simp)
              iterate 11 still_step
              refine wpStill_nil ?_
              have HZ := Lib.hid ((hd.swap.put2 (v := .int .i64 s12) (by have := HBQ.out; have := HWB.out; have := HXQ.out; have := HSX.out; omega) (by have := HBQ.out; have := HWB.out; have := HXQ.out; have := HSX.out; have := HVB.out; simp; omega)).swap)
              clear hd
              go_wp2_with fail
              go_roundw
              case rel => (repeat apply Exists.intro); exact ⟨.inr (.inr (.inr (⟨rfl, HZ⟩))), rfl⟩
              case measure => simp [intOf]
            · as_aux_lemma =>
              have hw := HT.out.sub (L' := [(q, tri b0 b1 b2), (s, tri s10 s11 s12), (x, tri ta tb tc), (q + 1, tri f0 f1 f2), (b + 1, ac v0 v1 v2), (b + 1 + 1, ac 0 0 0), (b, gob n (.slice (some ⟨bl, ol, none⟩) N cap))]) (by intro z hz; simp only [List.mem_cons, List.not_mem_nil, or_false] at hz ⊢; grind)
              clear HT
              obtain ⟨hi1, hi2, hi3, hi4⟩ := HI1.out
              have ht : (tb : Int) < 3 := by have := HT3.out; omega
              have ht0 : (0 : Int) ≤ tb := Int.natCast_nonneg _
              obtain ⟨m0, m1, m2⟩ := hw.col (b := x) (x := ta) (y := tb) (z := tc) (t := 24) (by simp)
              have hc := cb_at (hw.col (b := q) (x := b0) (y := b1) (z := b2) (t := 24) (by simp)) HT3.out.2.1
              rw [hi1] at hc
              have hf := hw.frozen (b := q) (cs := #[.int .i64 b0, .int .i64 b1, .int .i64 b2]) (t := 24) (by simp) tb
              have hz := hw.put (j := tb) (v := .int .i64 (i1 + 1)) (by have := HBQ.out; have := HWB.out; have := HXQ.out; have := HSX.out; omega) (by have := HBQ.out; have := HWB.out; have := HXQ.out; have := HSX.out; simp; omega)
              rw [hi2] at hz
              have HZ := Lib.hid hz.swap
              clear hw hz hi1 hi2
              go_wp2_with fail
              go_roundw
              case rel => exact .inr (.inr (.inl ⟨rfl, rfl, HZ⟩))
              case measure => simp [intOf]
        · as_aux_lemma =>
          have hw := HT.out
          clear HT
          obtain ⟨c1', c2'⟩ := HWW.out.2.2
          have ht : (tc : Int) < 3 := by have := HT3.out; omega
          have ht0 : (0 : Int) ≤ tc := Int.natCast_nonneg _
          obtain ⟨m0, m1, m2⟩ := hw.col (b := x) (x := ta) (y := tb) (z := tc) (t := 24) (by simp)
          have hc := cb_at (hw.col (b := q + 1) (x := f0) (y := f1) (z := f2) (t := 24) (by simp)) HT3.out.2.2
          rw [HF.out.2.2] at hc
          go_upto_region 29 with fail
          clear c1' c2' ht ht0 m0 m1 m2 hc
          obtain ⟨⟨c1', c2'⟩, ⟨c3', c4'⟩, ⟨c5', c6'⟩, c7', c8'⟩ := HQ2.out
          have hql : (Q2 : Int) < N := by have := HLS.out; omega
          have hq0 : (0 : Int) ≤ Q2 := Int.natCast_nonneg _
          obtain ⟨m0, m1, m2⟩ := hw.col (b := q) (x := g0) (y := g1) (z := g2) (t := 24) (by simp)
          have n0 := hw.cell (b := b) (cs := #[.int .i64 n, .slice (some ⟨bl, ol, none⟩) N cap]) (t := 30) (by simp) 0
          have n1 := hw.cell (b := b) (cs := #[.int .i64 n, .slice (some ⟨bl, ol, none⟩) N cap]) (t := 30) (by simp) 1
          simp only [pair0, pair1] at n0 n1
          obtain ⟨o0, o1, o2⟩ := (HXS.out _ hw.below).2.2.1
          simp only [] at o0 o1 o2
          go_upto_region 30 with fail
          clear c1' c2' c3' c4' c5' c6' c7' c8' hql hq0 m0 m1 m2 n0 n1 o0 o1 o2
          have hz := hw.alloc (ac x20 x21 x22)
          have hvb : s < wr.heap.size := hw.lt (b := s) (o := tri s10 s11 s12) (by simp)
          clear hw
          generalize wr.alloc (ac x20 x21 x22) = wv at hz ⊢
          generalize wr.heap.size = vb at hz hvb ⊢
          have HVB := Lib.hid hvb; clear hvb
          have HT := Lib.hid hz; clear hz
          go_wp2
          go_loopw [17] (fun v17 wr => (v17 = .int .i64 0 ∧ Hid (St w [(vb, ac x20 x21 x22), (s, tri s10 s11 s12), (q, tri g0 g1 g2), (x, tri ta tb tc), (q + 1, tri f0 f1 f2), (b + 1, ac v0 v1 v2), (b + 1 + 1, ac 0 0 0), (b, gob n (.slice (some ⟨bl, ol, none⟩) N cap))] wr)) ∨ (v17 = .int .i64 1 ∧ Hid (St w [(vb, ac x20 x21 x22), (s, tri s20 s11 s12), (q, tri g0 g1 g2), (x, tri ta tb tc), (q + 1, tri f0 f1 f2), (b + 1, ac v0 v1 v2), (b + 1 + 1, ac 0 0 0), (b, gob n (.slice (some ⟨bl, ol, none⟩) N cap))] wr)) ∨ (v17 = .int .i64 2 ∧ Hid (St w [(vb, ac x20 x21 x22), (s, tri s20 s21 s12), (q, tri g0 g1 g2), (x, tri ta tb tc), (q + 1, tri f0 f1 f2), (b + 1, ac v0 v1 v2), (b + 1 + 1, ac 0 0 0), (b, gob n (.slice (some ⟨bl, ol, none⟩) N cap))] wr)) ∨ (v17 = .int .i64 3 ∧ Hid (St w [(vb, ac x20 x21 x22), (s, tri s20 s21 s22), (q, tri g0 g1 g2), (x, tri ta tb tc), (q + 1, tri f0 f1 f2), (b + 1, ac v0 v1 v2), (b + 1 + 1, ac 0 0 0), (b, gob n (.slice (some ⟨bl, ol, none⟩) N cap))] wr))) (fun i _ => 3 - (intOf i).toNat)
          case atStart => exact .inl ⟨rfl, HT⟩
          case round =>
            clear HT
            obtain ⟨rfl, HT⟩ | ⟨rfl, HT⟩ | ⟨rfl, HT⟩ | ⟨rfl, HT⟩ := hrel
            · as_aux_lemma =>
              obtain ⟨⟨c1', c2'⟩, c3', c4'⟩ := HM2.out.1
              have hw := HT.out
              clear HT
              go_upto_region 33 with fail
              have hd := hw.drew
              refine wp_region_still_tail 11 (by kernel_rfl) (by kernel_rfl) ?_
              rw [drew_eq wr]
              generalize wr.drew = wd at hd ⊢
              clear hw
              simp only [List.take_succ_cons, List.take_zero, List.drop_succ_cons, List.drop_zero]
              obtain ⟨n0, n1, n2⟩ := hd.col (b := vb) (x := x20) (y := x21) (z := x22) (t := 25) (by simp)
              obtain ⟨m0, m1, m2⟩ := hd.col (b := s) (x := s10) (y := s11) (z := s12) (t := 24) (by simp)
              obtain ⟨e0, e1, e2⟩ := hd.fro (b := s) (cs := #[.int .i64 s10, .int .i64 s11, .int .i64 s12]) (t := 24) (by simp)
              iterate 11 still_step
              refine wpStill_nil ?_
              have HZ := Lib.hid ((hd.swap.put0 (v := .int .i64 s20) (by have := HBQ.out; have := HWB.out; have := HXQ.out; have := HSX.out; omega) (by have := HBQ.out; have := HWB.out; have := HXQ.out; have := HSX.out; have := HVB.out; simp; omega)).swap)
              clear hd
              go_wp2_with fail
              go_roundw
              case rel => (repeat apply Exists.intro); exact ⟨.inr (.inl ⟨rfl, HZ⟩), rfl⟩
              case measure => simp [intOf]
            · as_aux_lemma =>
              obtain ⟨⟨c1', c2'⟩, c3', c4'⟩ := HM2.out.2.1
              have hw := HT.out
              clear HT
              go_upto_region 33 with fail
              have hd := hw.drew
              refine wp_region_still_tail 11 (by kernel_rfl) (by kernel_rfl) ?_
              rw [drew_eq wr]
              generalize wr.drew = wd at hd ⊢
              clear hw
              simp only [List.take_succ_cons, List.take_zero, List.drop_succ_cons, List.drop_zero]
              obtain ⟨n0, n1, n2⟩ := hd.col (b := vb) (x := x20) (y := x21) (z := x22) (t := 25) (by simp)
              obtain ⟨m0, m1, m2⟩ := hd.col (b := s) (x := s20) (y := s11) (z := s12) (t := 24) (by simp)
              obtain ⟨e0, e1, e2⟩ := hd.fro (b := s) (cs := #[.int .i64 s20, .int .i64 s11, .int .i64 s12]) (t := 24) (by simp)
              iterate 11 still_step
              refine wpStill_nil ?_
              have HZ := Lib.hid ((hd.swap.put1 (v := .int .i64 s21) (by have := HBQ.out; have := HWB.out; have := HXQ.out; have := HSX.out; omega) (by have := HBQ.out; have := HWB.out; have := HXQ.out; have := HSX.out; have := HVB.out; simp; omega)).swap)
              clear hd
              go_wp2_with fail
              go_roundw
              case rel => (repeat apply Exists.intro); exact ⟨.inr (.inr (.inl ⟨rfl, HZ⟩)), rfl⟩
              case measure => simp [intOf]
            · as_aux_lemma =>
              obtain ⟨⟨c1', c2'⟩, c3', c4'⟩ := HM2.out.2.2
              have hw := HT.out
              clear HT
              go_upto_region 33 with fail
              have hd := hw.drew
              refine wp_region_still_tail 11 (by kernel_rfl) (by kernel_rfl) ?_
              rw [drew_eq wr]
              generalize wr.drew = wd at hd ⊢
              clear hw
              simp only [List.take_succ_cons, List.take_zero, List.drop_succ_cons, List.drop_zero]
              obtain ⟨n0, n1, n2⟩ := hd.col (b := vb) (x := x20) (y := x21) (z := x22) (t := 25) (by simp)
              obtain ⟨m0, m1, m2⟩ := hd.col (b := s) (x := s20) (y := s21) (z := s12) (t := 24) (by simp)
              obtain ⟨e0, e1, e2⟩ := hd.fro (b := s) (cs := #[.int .i64 s20, .int .i64 s21, .int .i64 s12]) (t := 24) (by simp)
              iterate 11 still_step
              refine wpStill_nil ?_
              have HZ := Lib.hid ((hd.swap.put2 (v := .int .i64 s22) (by have := HBQ.out; have := HWB.out; have := HXQ.out; have := HSX.out; omega) (by have := HBQ.out; have := HWB.out; have := HXQ.out; have := HSX.out; have := HVB.out; simp; omega)).swap)
              clear hd
              go_wp2_with fail
              go_roundw
              case rel => (repeat apply Exists.intro); exact ⟨.inr (.inr (.inr (⟨rfl, HZ⟩))), rfl⟩
              case measure => simp [intOf]
            · as_aux_lemma =>
              have hw := HT.out.sub (L' := [(q, tri g0 g1 g2), (s, tri s20 s21 s22), (x, tri ta tb tc), (q + 1, tri f0 f1 f2), (b + 1, ac v0 v1 v2), (b + 1 + 1, ac 0 0 0), (b, gob n (.slice (some ⟨bl, ol, none⟩) N cap))]) (by intro z hz; simp only [List.mem_cons, List.not_mem_nil, or_false] at hz ⊢; grind)
              clear HT
              obtain ⟨hi1, hi2, hi3, hi4⟩ := HI2.out
              have ht : (tc : Int) < 3 := by have := HT3.out; omega
              have ht0 : (0 : Int) ≤ tc := Int.natCast_nonneg _
              obtain ⟨m0, m1, m2⟩ := hw.col (b := x) (x := ta) (y := tb) (z := tc) (t := 24) (by simp)
              have hc := cb_at (hw.col (b := q) (x := g0) (y := g1) (z := g2) (t := 24) (by simp)) HT3.out.2.2
              rw [hi1] at hc
              have hf := hw.frozen (b := q) (cs := #[.int .i64 g0, .int .i64 g1, .int .i64 g2]) (t := 24) (by simp) tc
              have hz := hw.put (j := tc) (v := .int .i64 (i2 + 1)) (by have := HBQ.out; have := HWB.out; have := HXQ.out; have := HSX.out; omega) (by have := HBQ.out; have := HWB.out; have := HXQ.out; have := HSX.out; simp; omega)
              rw [hi2] at hz
              have HZ := Lib.hid hz.swap
              clear hw hz hi1 hi2
              go_wp2_with fail
              go_roundw
              case rel => exact .inr (.inr (.inr (.inl ⟨rfl, rfl, HZ⟩)))
              case measure => simp [intOf]
        · as_aux_lemma =>
          have hw := HT.out
          clear HT
          go_upto_region 29 with fail
          obtain ⟨⟨c1', c2'⟩, ⟨c3', c4'⟩, ⟨c5', c6'⟩, c7', c8'⟩ := HQ3.out
          have hql : (Q3 : Int) < N := by have := HLS.out; omega
          have hq0 : (0 : Int) ≤ Q3 := Int.natCast_nonneg _
          obtain ⟨m0, m1, m2⟩ := hw.col (b := q) (x := h0) (y := h1) (z := h2') (t := 24) (by simp)
          have n0 := hw.cell (b := b) (cs := #[.int .i64 n, .slice (some ⟨bl, ol, none⟩) N cap]) (t := 30) (by simp) 0
          have n1 := hw.cell (b := b) (cs := #[.int .i64 n, .slice (some ⟨bl, ol, none⟩) N cap]) (t := 30) (by simp) 1
          simp only [pair0, pair1] at n0 n1
          obtain ⟨o0, o1, o2⟩ := (HXS.out _ hw.below).2.2.2
          simp only [] at o0 o1 o2
          go_upto_region 30 with fail
          clear c1' c2' c3' c4' c5' c6' c7' c8' hql hq0 m0 m1 m2 n0 n1 o0 o1 o2
          have hz := hw.alloc (ac x30 x31 x32)
          have hvb : s < wr.heap.size := hw.lt (b := s) (o := tri s20 s21 s22) (by simp)
          clear hw
          generalize wr.alloc (ac x30 x31 x32) = wv at hz ⊢
          generalize wr.heap.size = vb at hz hvb ⊢
          have HVB := Lib.hid hvb; clear hvb
          have HT := Lib.hid hz; clear hz
          go_wp2
          go_loopw [17] (fun v17 wr => (v17 = .int .i64 0 ∧ Hid (St w [(vb, ac x30 x31 x32), (s, tri s20 s21 s22), (q, tri h0 h1 h2'), (x, tri ta tb tc), (q + 1, tri f0 f1 f2), (b + 1, ac v0 v1 v2), (b + 1 + 1, ac 0 0 0), (b, gob n (.slice (some ⟨bl, ol, none⟩) N cap))] wr)) ∨ (v17 = .int .i64 1 ∧ Hid (St w [(vb, ac x30 x31 x32), (s, tri s30 s21 s22), (q, tri h0 h1 h2'), (x, tri ta tb tc), (q + 1, tri f0 f1 f2), (b + 1, ac v0 v1 v2), (b + 1 + 1, ac 0 0 0), (b, gob n (.slice (some ⟨bl, ol, none⟩) N cap))] wr)) ∨ (v17 = .int .i64 2 ∧ Hid (St w [(vb, ac x30 x31 x32), (s, tri s30 s31 s22), (q, tri h0 h1 h2'), (x, tri ta tb tc), (q + 1, tri f0 f1 f2), (b + 1, ac v0 v1 v2), (b + 1 + 1, ac 0 0 0), (b, gob n (.slice (some ⟨bl, ol, none⟩) N cap))] wr)) ∨ (v17 = .int .i64 3 ∧ Hid (St w [(vb, ac x30 x31 x32), (s, tri s30 s31 s32), (q, tri h0 h1 h2'), (x, tri ta tb tc), (q + 1, tri f0 f1 f2), (b + 1, ac v0 v1 v2), (b + 1 + 1, ac 0 0 0), (b, gob n (.slice (some ⟨bl, ol, none⟩) N cap))] wr))) (fun i _ => 3 - (intOf i).toNat)
          case atStart => exact .inl ⟨rfl, HT⟩
          case round =>
            clear HT
            obtain ⟨rfl, HT⟩ | ⟨rfl, HT⟩ | ⟨rfl, HT⟩ | ⟨rfl, HT⟩ := hrel
            · as_aux_lemma =>
              obtain ⟨⟨c1', c2'⟩, c3', c4'⟩ := HM3.out.1
              have hw := HT.out
              clear HT
              go_upto_region 33 with fail
              have hd := hw.drew
              refine wp_region_still_tail 11 (by kernel_rfl) (by kernel_rfl) ?_
              rw [drew_eq wr]
              generalize wr.drew = wd at hd ⊢
              clear hw
              simp only [List.take_succ_cons, List.take_zero, List.drop_succ_cons, List.drop_zero]
              obtain ⟨n0, n1, n2⟩ := hd.col (b := vb) (x := x30) (y := x31) (z := x32) (t := 25) (by simp)
              obtain ⟨m0, m1, m2⟩ := hd.col (b := s) (x := s20) (y := s21) (z := s22) (t := 24) (by simp)
              obtain ⟨e0, e1, e2⟩ := hd.fro (b := s) (cs := #[.int .i64 s20, .int .i64 s21, .int .i64 s22]) (t := 24) (by simp)
              iterate 11 still_step
              refine wpStill_nil ?_
              have HZ := Lib.hid ((hd.swap.put0 (v := .int .i64 s30) (by have := HBQ.out; have := HWB.out; have := HXQ.out; have := HSX.out; omega) (by have := HBQ.out; have := HWB.out; have := HXQ.out; have := HSX.out; have := HVB.out; simp; omega)).swap)
              clear hd
              go_wp2_with fail
              go_roundw
              case rel => (repeat apply Exists.intro); exact ⟨.inr (.inl ⟨rfl, HZ⟩), rfl⟩
              case measure => simp [intOf]
            · as_aux_lemma =>
              obtain ⟨⟨c1', c2'⟩, c3', c4'⟩ := HM3.out.2.1
              have hw := HT.out
              clear HT
              go_upto_region 33 with fail
              have hd := hw.drew
              refine wp_region_still_tail 11 (by kernel_rfl) (by kernel_rfl) ?_
              rw [drew_eq wr]
              generalize wr.drew = wd at hd ⊢
              clear hw
              simp only [List.take_succ_cons, List.take_zero, List.drop_succ_cons, List.drop_zero]
              obtain ⟨n0, n1, n2⟩ := hd.col (b := vb) (x := x30) (y := x31) (z := x32) (t := 25) (by simp)
              obtain ⟨m0, m1, m2⟩ := hd.col (b := s) (x := s30) (y := s21) (z := s22) (t := 24) (by simp)
              obtain ⟨e0, e1, e2⟩ := hd.fro (b := s) (cs := #[.int .i64 s30, .int .i64 s21, .int .i64 s22]) (t := 24) (by simp)
              iterate 11 still_step
              refine wpStill_nil ?_
              have HZ := Lib.hid ((hd.swap.put1 (v := .int .i64 s31) (by have := HBQ.out; have := HWB.out; have := HXQ.out; have := HSX.out; omega) (by have := HBQ.out; have := HWB.out; have := HXQ.out; have := HSX.out; have := HVB.out; simp; omega)).swap)
              clear hd
              go_wp2_with fail
              go_roundw
              case rel => (repeat apply Exists.intro); exact ⟨.inr (.inr (.inl ⟨rfl, HZ⟩)), rfl⟩
              case measure => simp [intOf]
            · as_aux_lemma =>
              obtain ⟨⟨c1', c2'⟩, c3', c4'⟩ := HM3.out.2.2
              have hw := HT.out
              clear HT
              go_upto_region 33 with fail
              have hd := hw.drew
              refine wp_region_still_tail 11 (by kernel_rfl) (by kernel_rfl) ?_
              rw [drew_eq wr]
              generalize wr.drew = wd at hd ⊢
              clear hw
              simp only [List.take_succ_cons, List.take_zero, List.drop_succ_cons, List.drop_zero]
              obtain ⟨n0, n1, n2⟩ := hd.col (b := vb) (x := x30) (y := x31) (z := x32) (t := 25) (by simp)
              obtain ⟨m0, m1, m2⟩ := hd.col (b := s) (x := s30) (y := s31) (z := s22) (t := 24) (by simp)
              obtain ⟨e0, e1, e2⟩ := hd.fro (b := s) (cs := #[.int .i64 s30, .int .i64 s31, .int .i64 s22]) (t := 24) (by simp)
              iterate 11 still_step
              refine wpStill_nil ?_
              have HZ := Lib.hid ((hd.swap.put2 (v := .int .i64 s32) (by have := HBQ.out; have := HWB.out; have := HXQ.out; have := HSX.out; omega) (by have := HBQ.out; have := HWB.out; have := HXQ.out; have := HSX.out; have := HVB.out; simp; omega)).swap)
              clear hd
              go_wp2_with fail
              go_roundw
              case rel => (repeat apply Exists.intro); exact ⟨.inr (.inr (.inr (⟨rfl, HZ⟩))), rfl⟩
              case measure => simp [intOf]
            · as_aux_lemma =>
              have hw := HT.out.sub (L' := [(q, tri h0 h1 h2'), (s, tri s30 s31 s32), (x, tri ta tb tc), (q + 1, tri f0 f1 f2), (b + 1, ac v0 v1 v2), (b + 1 + 1, ac 0 0 0), (b, gob n (.slice (some ⟨bl, ol, none⟩) N cap))]) (by intro z hz; simp only [List.mem_cons, List.not_mem_nil, or_false] at hz ⊢; grind)
              clear HT
              have HZ := Lib.hid hw.swap
              clear hw
              go_wp2_with fail
              go_roundw
              case rel => exact .inr (.inr (.inr (.inr (⟨rfl, rfl, HZ⟩))))
              case measure => simp [intOf]
        · as_aux_lemma =>
          have hw := HT.out
          clear HT
          obtain ⟨⟨c1', c2', _⟩, ⟨c3', c4', _⟩, c5', c6', _⟩ := HRES.out
          obtain ⟨⟨d1', d2'⟩, ⟨d3', d4'⟩, d5', d6'⟩ := HQT.out
          obtain ⟨m0, m1, m2⟩ := hw.col (b := s) (x := s30) (y := s31) (z := s32) (t := 24) (by simp)
          obtain ⟨n0, n1, n2⟩ := hw.col (b := b + 1 + 1) (x := 0) (y := 0) (z := 0) (t := 25) (by simp)
          obtain ⟨e0, e1, e2⟩ := hw.fro (b := b + 1 + 1) (cs := #[.int .i64 0, .int .i64 0, .int .i64 0]) (t := 25) (by simp)
          have HBL := Lib.hid hw.below
          obtain ⟨hR0, hR1, hR2⟩ := HRS.out
          have HEQ : Hid (ag R0 R1 R2 = (C3.map (fun v => (v + 32767) / 65535) ⟨s30, s31, s32⟩).v) := by subst hR0 hR1 hR2; rfl
          clear hw HRES HQT HRS hR0 hR1 hR2
          go_wp2_with fail
          exact bodyPost_ret (v := ag R0 R1 R2) (by simp [results, Try.results15, go_sem, *]) rfl ⟨by rw [HEQ.out], below_set3 HBL.out (by have := HWB.out; omega) _ _ _⟩
end Go.Proofs.Ytcmplgiilcfncaa.K
