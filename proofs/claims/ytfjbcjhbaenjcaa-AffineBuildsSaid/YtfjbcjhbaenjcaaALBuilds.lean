/-
  AffineBuilds: for all placements and numbers, Valid, Shift, Identity, Reduce and Equal return what the reference returns. No conditions.
-/
import Derived.Test.YtfjbcjhbaenjcaaAOpen
import Derived.Test.YtfjbcjhbaenjcaaAEq
namespace Go.Proofs.Ytfjbcjhbaenjcaa.F.ALBuilds
open Go.ChangeShapes Go.WideShapes Go.ChangeAt Go.RowKit
set_option maxRecDepth 100000


set_option maxHeartbeats 8000000 in
set_option maxRecDepth 100000 in
theorem walk (p0 p1 p2 p3 p4 p5 p6 p7 p8 p9 p10 p11 p12 p13 q0 q1 q2 q3 q4 q5 q6 q7 q8 q9 q10 q11 q12 q13 k : Int) (w : World) : Calls Try.prog 3 #[.agg #[.int .i64 p0, .int .i64 p1, .int .i64 p2, .int .i64 p3, .int .i64 p4, .int .i64 p5, .int .i64 p6, .int .i64 p7, .int .i64 p8, .int .i64 p9, .int .i64 p10, .int .i64 p11, .int .i64 p12, .int .i64 p13], .agg #[.int .i64 q0, .int .i64 q1, .int .i64 q2, .int .i64 q3, .int .i64 q4, .int .i64 q5, .int .i64 q6, .int .i64 q7, .int .i64 q8, .int .i64 q9, .int .i64 q10, .int .i64 q11, .int .i64 q12, .int .i64 q13], .int .i64 k] w fun en w' => en = .returned (.bool true) ∧ Below w.heap.size w w' := by
  obtain ⟨s0, s1, s2, s3, s4, s5, s6, hsm⟩ : ∃ s0 s1 s2 s3 s4 s5 s6, sm7 q0 q1 q2 q3 q4 q5 q6 = ⟨s0, s1, s2, s3, s4, s5, s6⟩ := ⟨_, _, _, _, _, _, _, rfl⟩
  have hsl := sm7_sl q0 q1 q2 q3 q4 q5 q6
  rw [hsm] at hsl
  have HSM : Hid (∀ W, Calls Try.prog 14 #[.agg #[.int .i64 q0, .int .i64 q1, .int .i64 q2, .int .i64 q3, .int .i64 q4, .int .i64 q5, .int .i64 q6]] W fun en w' => en = .returned (av s0 s1 s2 s3 s4 s5 s6) ∧ Below W.heap.size W w') := fun W => by
    have := sm7_any q0 q1 q2 q3 q4 q5 q6 W; rw [hsm] at this; exact this
  clear hsm
  obtain ⟨t0, t1, t2, t3, t4, t5, t6, hsm⟩ : ∃ t0 t1 t2 t3 t4 t5 t6, sm7 q7 q8 q9 q10 q11 q12 q13 = ⟨t0, t1, t2, t3, t4, t5, t6⟩ := ⟨_, _, _, _, _, _, _, rfl⟩
  have hsk := sm7_sl q7 q8 q9 q10 q11 q12 q13
  rw [hsm] at hsk
  have HSN : Hid (∀ W, Calls Try.prog 14 #[.agg #[.int .i64 q7, .int .i64 q8, .int .i64 q9, .int .i64 q10, .int .i64 q11, .int .i64 q12, .int .i64 q13]] W fun en w' => en = .returned (av t0 t1 t2 t3 t4 t5 t6) ∧ Below W.heap.size W w') := fun W => by
    have := sm7_any q7 q8 q9 q10 q11 q12 q13 W; rw [hsm] at this; exact this
  clear hsm
  have hok : Ok ⟨s0, s1, s2, s3, s4, s5, s6⟩ := ⟨sl_bd hsl.1, hsl.2⟩
  have HM : Hid (∀ W, Calls Try.prog 15 #[.int .i64 k, .int .i64 9] W fun en w' => en = .returned (.int .i64 (k % 9)) ∧ Below W.heap.size W w') := fun W => lrest_any k 9 W (by omega) (by omega)
  obtain ⟨kk, hkk⟩ : ∃ kk, k % 9 = kk := ⟨_, rfl⟩
  have bk : 0 ≤ kk ∧ kk ≤ 8 := by omega
  rw [hkk] at HM
  clear hkk
  obtain ⟨m, hm⟩ : ∃ m, 1 + kk = m := ⟨_, rfl⟩
  have bm : 1 ≤ m ∧ m ≤ 9 := by omega
  have em : wrap64 (1 + kk) = 1 + kk := w64 ⟨by omega, by omega⟩
  have hz : ∃ z0 z1 z2 z3 z4 z5 z6, sca m ⟨s0, s1, s2, s3, s4, s5, s6⟩ = ⟨z0, z1, z2, z3, z4, z5, z6⟩ := ⟨_, _, _, _, _, _, _, rfl⟩
  obtain ⟨z0, z1, z2, z3, z4, z5, z6, hz⟩ := hz
  have hl := hsl.1
  unfold Sl at hl
  simp only at hl
  have mb : ∀ v b : Int, -b ≤ v ∧ v ≤ b → b ≤ 20 → 0 ≤ b → -(9 * b) ≤ m * v ∧ m * v ≤ 9 * b := fun v b hv hb h0 => mul_le_of (by omega) hv
  have hz' := hz
  unfold sca at hz'
  simp only [Af.mk.injEq] at hz'
  obtain ⟨hz0, hz1, hz2, hz3, hz4, hz5, hz6⟩ := hz'
  have y0 := mb s0 4 (by omega) (by omega) (by omega)
  have f0 : wrap64 ((1 + kk) * s0) = z0 := by rw [hm, ← hz0]; exact w64 ⟨by omega, by omega⟩
  have y1 := mb s1 4 (by omega) (by omega) (by omega)
  have f1 : wrap64 ((1 + kk) * s1) = z1 := by rw [hm, ← hz1]; exact w64 ⟨by omega, by omega⟩
  have y2 := mb s2 20 (by omega) (by omega) (by omega)
  have f2 : wrap64 ((1 + kk) * s2) = z2 := by rw [hm, ← hz2]; exact w64 ⟨by omega, by omega⟩
  have y3 := mb s3 4 (by omega) (by omega) (by omega)
  have f3 : wrap64 ((1 + kk) * s3) = z3 := by rw [hm, ← hz3]; exact w64 ⟨by omega, by omega⟩
  have y4 := mb s4 4 (by omega) (by omega) (by omega)
  have f4 : wrap64 ((1 + kk) * s4) = z4 := by rw [hm, ← hz4]; exact w64 ⟨by omega, by omega⟩
  have y5 := mb s5 20 (by omega) (by omega) (by omega)
  have f5 : wrap64 ((1 + kk) * s5) = z5 := by rw [hm, ← hz5]; exact w64 ⟨by omega, by omega⟩
  have y6 := mb s6 4 (by omega) (by omega) (by omega)
  have f6 : wrap64 ((1 + kk) * s6) = z6 := by rw [hm, ← hz6]; exact w64 ⟨by omega, by omega⟩
  have hn1 : 1 ≤ m * s6 := mul_pos1 bm.1 (by omega)
  have hoz : Ok (sca m ⟨s0, s1, s2, s3, s4, s5, s6⟩) := ⟨by unfold Bd sca; simp only; omega, by rw [det_sca]; exact Int.mul_ne_zero (Int.mul_ne_zero (by omega) (by omega)) hsl.2⟩
  have heq : eqf ⟨s0, s1, s2, s3, s4, s5, s6⟩ (sca m ⟨s0, s1, s2, s3, s4, s5, s6⟩) = true := by
    unfold eqf sca
    simp only [Bool.and_eq_true, decide_eq_true_eq]
    refine ⟨⟨⟨⟨⟨?_, ?_⟩, ?_⟩, ?_⟩, ?_⟩, ?_⟩ <;> (congr 1; grind)
  have hlow : low (sca m ⟨s0, s1, s2, s3, s4, s5, s6⟩) = low ⟨s0, s1, s2, s3, s4, s5, s6⟩ := low_sca' m _ bm.1
  rw [hz] at hoz heq hlow
  obtain ⟨m0, m1, m2, m3, m4, m5, m6, hlw⟩ : ∃ m0 m1 m2 m3 m4 m5 m6, low ⟨s0, s1, s2, s3, s4, s5, s6⟩ = ⟨m0, m1, m2, m3, m4, m5, m6⟩ := ⟨_, _, _, _, _, _, _, rfl⟩
  rw [hlw] at hlow
  obtain ⟨r0, r1, r2, r3, r4, r5, r6, hrd⟩ : ∃ r0 r1 r2 r3 r4 r5 r6, red ⟨p0, p1, p2, p3, p4, p5, p6⟩ = ⟨r0, r1, r2, r3, r4, r5, r6⟩ := ⟨_, _, _, _, _, _, _, rfl⟩
  obtain ⟨e1, he1⟩ : ∃ e, okA ⟨p0, p1, p2, p3, p4, p5, p6⟩ = e := ⟨_, rfl⟩
  obtain ⟨e2, he2⟩ : ∃ e, eqf ⟨p0, p1, p2, p3, p4, p5, p6⟩ ⟨p7, p8, p9, p10, p11, p12, p13⟩ = e := ⟨_, rfl⟩
  obtain ⟨e3, he3⟩ : ∃ e, eqf ⟨s0, s1, s2, s3, s4, s5, s6⟩ ⟨t0, t1, t2, t3, t4, t5, t6⟩ = e := ⟨_, rfl⟩
  have KV : Hid (∀ W, Calls Try.prog 16 #[av p0 p1 p2 p3 p4 p5 p6] W fun en w' => en = .returned ((.bool e1)) ∧ Below W.heap.size W w') := fun W => by
    have := valid_any p0 p1 p2 p3 p4 p5 p6 W; rw [he1] at this; exact this
  have KW : Hid (∀ W, Calls Try.prog 17 #[av p0 p1 p2 p3 p4 p5 p6] W fun en w' => en = .returned ((.bool e1)) ∧ Below W.heap.size W w') := fun W => by
    have := refOk_any p0 p1 p2 p3 p4 p5 p6 W; rw [he1] at this; exact this
  have KE : Hid (∀ W, Calls Try.prog 18 #[av p0 p1 p2 p3 p4 p5 p6, av p7 p8 p9 p10 p11 p12 p13] W fun en w' => en = .returned ((.bool e2)) ∧ Below W.heap.size W w') := fun W => by
    have := equalA_any p0 p1 p2 p3 p4 p5 p6 p7 p8 p9 p10 p11 p12 p13 W; rw [he2] at this; exact this
  have KF : Hid (∀ W, Calls Try.prog 19 #[av p0 p1 p2 p3 p4 p5 p6, av p7 p8 p9 p10 p11 p12 p13] W fun en w' => en = .returned ((.bool e2)) ∧ Below W.heap.size W w') := fun W => by
    have := refEqual_any p0 p1 p2 p3 p4 p5 p6 p7 p8 p9 p10 p11 p12 p13 W; rw [he2] at this; exact this
  have KR : Hid (∀ W, Calls Try.prog 20 #[av p0 p1 p2 p3 p4 p5 p6] W fun en w' => en = .returned (av r0 r1 r2 r3 r4 r5 r6) ∧ Below W.heap.size W w') := fun W => by
    have := reduce_any p0 p1 p2 p3 p4 p5 p6 W; rw [hrd] at this; exact this
  have KS : Hid (∀ W, Calls Try.prog 21 #[av p0 p1 p2 p3 p4 p5 p6] W fun en w' => en = .returned (av r0 r1 r2 r3 r4 r5 r6) ∧ Below W.heap.size W w') := fun W => by
    have := refReduce_any p0 p1 p2 p3 p4 p5 p6 W; rw [hrd] at this; exact this
  have LV : Hid (∀ W, Calls Try.prog 16 #[av s0 s1 s2 s3 s4 s5 s6] W fun en w' => en = .returned ((.bool true)) ∧ Below W.heap.size W w') := fun W => by
    have := valid_any s0 s1 s2 s3 s4 s5 s6 W; rw [(okA_iff _).2 hok] at this; exact this
  have LE : Hid (∀ W, Calls Try.prog 18 #[av s0 s1 s2 s3 s4 s5 s6, av t0 t1 t2 t3 t4 t5 t6] W fun en w' => en = .returned ((.bool e3)) ∧ Below W.heap.size W w') := fun W => by
    have := equalA_any s0 s1 s2 s3 s4 s5 s6 t0 t1 t2 t3 t4 t5 t6 W; rw [he3] at this; exact this
  have LF : Hid (∀ W, Calls Try.prog 19 #[av s0 s1 s2 s3 s4 s5 s6, av t0 t1 t2 t3 t4 t5 t6] W fun en w' => en = .returned ((.bool e3)) ∧ Below W.heap.size W w') := fun W => by
    have := refEqual_any s0 s1 s2 s3 s4 s5 s6 t0 t1 t2 t3 t4 t5 t6 W; rw [he3] at this; exact this
  have LG : Hid (∀ W, Calls Try.prog 18 #[av s0 s1 s2 s3 s4 s5 s6, av z0 z1 z2 z3 z4 z5 z6] W fun en w' => en = .returned ((.bool true)) ∧ Below W.heap.size W w') := fun W => by
    have := equalA_any s0 s1 s2 s3 s4 s5 s6 z0 z1 z2 z3 z4 z5 z6 W; rw [heq] at this; exact this
  have LZ : Hid (∀ W, Calls Try.prog 20 #[av z0 z1 z2 z3 z4 z5 z6] W fun en w' => en = .returned (av m0 m1 m2 m3 m4 m5 m6) ∧ Below W.heap.size W w') := fun W => by
    have := reduce_any z0 z1 z2 z3 z4 z5 z6 W; rw [show red ⟨z0, z1, z2, z3, z4, z5, z6⟩ = ⟨m0, m1, m2, m3, m4, m5, m6⟩ from by unfold red; rw [if_pos ((okA_iff _).2 hoz), hlow]] at this; exact this
  have LY : Hid (∀ W, Calls Try.prog 21 #[av z0 z1 z2 z3 z4 z5 z6] W fun en w' => en = .returned (av m0 m1 m2 m3 m4 m5 m6) ∧ Below W.heap.size W w') := fun W => by
    have := refReduce_any z0 z1 z2 z3 z4 z5 z6 W; rw [show red ⟨z0, z1, z2, z3, z4, z5, z6⟩ = ⟨m0, m1, m2, m3, m4, m5, m6⟩ from by unfold red; rw [if_pos ((okA_iff _).2 hoz), hlow]] at this; exact this
  have LX : Hid (∀ W, Calls Try.prog 20 #[av s0 s1 s2 s3 s4 s5 s6] W fun en w' => en = .returned (av m0 m1 m2 m3 m4 m5 m6) ∧ Below W.heap.size W w') := fun W => by
    have := reduce_any s0 s1 s2 s3 s4 s5 s6 W; rw [show red ⟨s0, s1, s2, s3, s4, s5, s6⟩ = ⟨m0, m1, m2, m3, m4, m5, m6⟩ from by unfold red; rw [if_pos ((okA_iff _).2 hok), hlw]] at this; exact this
  clear hsl hsk hok bm hm bk hz hl mb hn1 hoz heq hlow hlw hrd he1 he2 he3 hz0 hz1 hz2 hz3 hz4 hz5 hz6 y0 y1 y2 y3 y4 y5 y6
  go_enter Try.func3, Try.ntmps3
  go_upto_region 1 with fail
  have h0 := (((St.start w).alloc ((.cells #[.int .i64 p0, .int .i64 p1, .int .i64 p2, .int .i64 p3, .int .i64 p4, .int .i64 p5, .int .i64 p6, .int .i64 p7, .int .i64 p8, .int .i64 p9, .int .i64 p10, .int .i64 p11, .int .i64 p12, .int .i64 p13] 25 : Obj))).alloc ((.cells #[.int .i64 q0, .int .i64 q1, .int .i64 q2, .int .i64 q3, .int .i64 q4, .int .i64 q5, .int .i64 q6, .int .i64 q7, .int .i64 q8, .int .i64 q9, .int .i64 q10, .int .i64 q11, .int .i64 q12, .int .i64 q13] 27 : Obj)))
  try simp only [World.size_alloc] at h0
  generalize hb0 : w.heap.size = b0 at h0 ⊢
  generalize (w.alloc ((.cells #[.int .i64 p0, .int .i64 p1, .int .i64 p2, .int .i64 p3, .int .i64 p4, .int .i64 p5, .int .i64 p6, .int .i64 p7, .int .i64 p8, .int .i64 p9, .int .i64 p10, .int .i64 p11, .int .i64 p12, .int .i64 p13] 25 : Obj))).alloc ((.cells #[.int .i64 q0, .int .i64 q1, .int .i64 q2, .int .i64 q3, .int .i64 q4, .int .i64 q5, .int .i64 q6, .int .i64 q7, .int .i64 q8, .int .i64 q9, .int .i64 q10, .int .i64 q11, .int .i64 q12, .int .i64 q13] 27 : Obj)) = w0 at h0 ⊢
  go_upto_region 2 with (first | (go_at_call 13; (with_reducible refine (St.call h0 (sane_any _)).mono ?_); rintro en w1 ⟨rfl, h1⟩))
  have zh10 := St.cell h1 (b := b0) (cs := #[.int .i64 p0, .int .i64 p1, .int .i64 p2, .int .i64 p3, .int .i64 p4, .int .i64 p5, .int .i64 p6, .int .i64 p7, .int .i64 p8, .int .i64 p9, .int .i64 p10, .int .i64 p11, .int .i64 p12, .int .i64 p13]) (t := 25) (by simp) 0; have zh11 := St.cell h1 (b := b0) (cs := #[.int .i64 p0, .int .i64 p1, .int .i64 p2, .int .i64 p3, .int .i64 p4, .int .i64 p5, .int .i64 p6, .int .i64 p7, .int .i64 p8, .int .i64 p9, .int .i64 p10, .int .i64 p11, .int .i64 p12, .int .i64 p13]) (t := 25) (by simp) 1; have zh12 := St.cell h1 (b := b0) (cs := #[.int .i64 p0, .int .i64 p1, .int .i64 p2, .int .i64 p3, .int .i64 p4, .int .i64 p5, .int .i64 p6, .int .i64 p7, .int .i64 p8, .int .i64 p9, .int .i64 p10, .int .i64 p11, .int .i64 p12, .int .i64 p13]) (t := 25) (by simp) 2; have zh13 := St.cell h1 (b := b0) (cs := #[.int .i64 p0, .int .i64 p1, .int .i64 p2, .int .i64 p3, .int .i64 p4, .int .i64 p5, .int .i64 p6, .int .i64 p7, .int .i64 p8, .int .i64 p9, .int .i64 p10, .int .i64 p11, .int .i64 p12, .int .i64 p13]) (t := 25) (by simp) 3; have zh14 := St.cell h1 (b := b0) (cs := #[.int .i64 p0, .int .i64 p1, .int .i64 p2, .int .i64 p3, .int .i64 p4, .int .i64 p5, .int .i64 p6, .int .i64 p7, .int .i64 p8, .int .i64 p9, .int .i64 p10, .int .i64 p11, .int .i64 p12, .int .i64 p13]) (t := 25) (by simp) 4; have zh15 := St.cell h1 (b := b0) (cs := #[.int .i64 p0, .int .i64 p1, .int .i64 p2, .int .i64 p3, .int .i64 p4, .int .i64 p5, .int .i64 p6, .int .i64 p7, .int .i64 p8, .int .i64 p9, .int .i64 p10, .int .i64 p11, .int .i64 p12, .int .i64 p13]) (t := 25) (by simp) 5; have zh16 := St.cell h1 (b := b0) (cs := #[.int .i64 p0, .int .i64 p1, .int .i64 p2, .int .i64 p3, .int .i64 p4, .int .i64 p5, .int .i64 p6, .int .i64 p7, .int .i64 p8, .int .i64 p9, .int .i64 p10, .int .i64 p11, .int .i64 p12, .int .i64 p13]) (t := 25) (by simp) 6; have zh17 := St.cell h1 (b := b0) (cs := #[.int .i64 p0, .int .i64 p1, .int .i64 p2, .int .i64 p3, .int .i64 p4, .int .i64 p5, .int .i64 p6, .int .i64 p7, .int .i64 p8, .int .i64 p9, .int .i64 p10, .int .i64 p11, .int .i64 p12, .int .i64 p13]) (t := 25) (by simp) 7; have zh18 := St.cell h1 (b := b0) (cs := #[.int .i64 p0, .int .i64 p1, .int .i64 p2, .int .i64 p3, .int .i64 p4, .int .i64 p5, .int .i64 p6, .int .i64 p7, .int .i64 p8, .int .i64 p9, .int .i64 p10, .int .i64 p11, .int .i64 p12, .int .i64 p13]) (t := 25) (by simp) 8; have zh19 := St.cell h1 (b := b0) (cs := #[.int .i64 p0, .int .i64 p1, .int .i64 p2, .int .i64 p3, .int .i64 p4, .int .i64 p5, .int .i64 p6, .int .i64 p7, .int .i64 p8, .int .i64 p9, .int .i64 p10, .int .i64 p11, .int .i64 p12, .int .i64 p13]) (t := 25) (by simp) 9; have zh110 := St.cell h1 (b := b0) (cs := #[.int .i64 p0, .int .i64 p1, .int .i64 p2, .int .i64 p3, .int .i64 p4, .int .i64 p5, .int .i64 p6, .int .i64 p7, .int .i64 p8, .int .i64 p9, .int .i64 p10, .int .i64 p11, .int .i64 p12, .int .i64 p13]) (t := 25) (by simp) 10; have zh111 := St.cell h1 (b := b0) (cs := #[.int .i64 p0, .int .i64 p1, .int .i64 p2, .int .i64 p3, .int .i64 p4, .int .i64 p5, .int .i64 p6, .int .i64 p7, .int .i64 p8, .int .i64 p9, .int .i64 p10, .int .i64 p11, .int .i64 p12, .int .i64 p13]) (t := 25) (by simp) 11; have zh112 := St.cell h1 (b := b0) (cs := #[.int .i64 p0, .int .i64 p1, .int .i64 p2, .int .i64 p3, .int .i64 p4, .int .i64 p5, .int .i64 p6, .int .i64 p7, .int .i64 p8, .int .i64 p9, .int .i64 p10, .int .i64 p11, .int .i64 p12, .int .i64 p13]) (t := 25) (by simp) 12; have zh113 := St.cell h1 (b := b0) (cs := #[.int .i64 p0, .int .i64 p1, .int .i64 p2, .int .i64 p3, .int .i64 p4, .int .i64 p5, .int .i64 p6, .int .i64 p7, .int .i64 p8, .int .i64 p9, .int .i64 p10, .int .i64 p11, .int .i64 p12, .int .i64 p13]) (t := 25) (by simp) 13; simp only [List.getElem?_toArray, List.getElem?_cons_zero, List.getElem?_cons_succ] at zh10 zh11 zh12 zh13 zh14 zh15 zh16 zh17 zh18 zh19 zh110 zh111 zh112 zh113
  go_upto_region 3 with fail
  have h2 := h1.alloc (ao p0 p1 p2 p3 p4 p5 p6)
  generalize w1.heap.size = c1 at h2 ⊢
  generalize w1.alloc (ao p0 p1 p2 p3 p4 p5 p6) = w2 at h2 ⊢
  have zh20 := St.cell h2 (b := b0) (cs := #[.int .i64 p0, .int .i64 p1, .int .i64 p2, .int .i64 p3, .int .i64 p4, .int .i64 p5, .int .i64 p6, .int .i64 p7, .int .i64 p8, .int .i64 p9, .int .i64 p10, .int .i64 p11, .int .i64 p12, .int .i64 p13]) (t := 25) (by simp) 0; have zh21 := St.cell h2 (b := b0) (cs := #[.int .i64 p0, .int .i64 p1, .int .i64 p2, .int .i64 p3, .int .i64 p4, .int .i64 p5, .int .i64 p6, .int .i64 p7, .int .i64 p8, .int .i64 p9, .int .i64 p10, .int .i64 p11, .int .i64 p12, .int .i64 p13]) (t := 25) (by simp) 1; have zh22 := St.cell h2 (b := b0) (cs := #[.int .i64 p0, .int .i64 p1, .int .i64 p2, .int .i64 p3, .int .i64 p4, .int .i64 p5, .int .i64 p6, .int .i64 p7, .int .i64 p8, .int .i64 p9, .int .i64 p10, .int .i64 p11, .int .i64 p12, .int .i64 p13]) (t := 25) (by simp) 2; have zh23 := St.cell h2 (b := b0) (cs := #[.int .i64 p0, .int .i64 p1, .int .i64 p2, .int .i64 p3, .int .i64 p4, .int .i64 p5, .int .i64 p6, .int .i64 p7, .int .i64 p8, .int .i64 p9, .int .i64 p10, .int .i64 p11, .int .i64 p12, .int .i64 p13]) (t := 25) (by simp) 3; have zh24 := St.cell h2 (b := b0) (cs := #[.int .i64 p0, .int .i64 p1, .int .i64 p2, .int .i64 p3, .int .i64 p4, .int .i64 p5, .int .i64 p6, .int .i64 p7, .int .i64 p8, .int .i64 p9, .int .i64 p10, .int .i64 p11, .int .i64 p12, .int .i64 p13]) (t := 25) (by simp) 4; have zh25 := St.cell h2 (b := b0) (cs := #[.int .i64 p0, .int .i64 p1, .int .i64 p2, .int .i64 p3, .int .i64 p4, .int .i64 p5, .int .i64 p6, .int .i64 p7, .int .i64 p8, .int .i64 p9, .int .i64 p10, .int .i64 p11, .int .i64 p12, .int .i64 p13]) (t := 25) (by simp) 5; have zh26 := St.cell h2 (b := b0) (cs := #[.int .i64 p0, .int .i64 p1, .int .i64 p2, .int .i64 p3, .int .i64 p4, .int .i64 p5, .int .i64 p6, .int .i64 p7, .int .i64 p8, .int .i64 p9, .int .i64 p10, .int .i64 p11, .int .i64 p12, .int .i64 p13]) (t := 25) (by simp) 6; have zh27 := St.cell h2 (b := b0) (cs := #[.int .i64 p0, .int .i64 p1, .int .i64 p2, .int .i64 p3, .int .i64 p4, .int .i64 p5, .int .i64 p6, .int .i64 p7, .int .i64 p8, .int .i64 p9, .int .i64 p10, .int .i64 p11, .int .i64 p12, .int .i64 p13]) (t := 25) (by simp) 7; have zh28 := St.cell h2 (b := b0) (cs := #[.int .i64 p0, .int .i64 p1, .int .i64 p2, .int .i64 p3, .int .i64 p4, .int .i64 p5, .int .i64 p6, .int .i64 p7, .int .i64 p8, .int .i64 p9, .int .i64 p10, .int .i64 p11, .int .i64 p12, .int .i64 p13]) (t := 25) (by simp) 8; have zh29 := St.cell h2 (b := b0) (cs := #[.int .i64 p0, .int .i64 p1, .int .i64 p2, .int .i64 p3, .int .i64 p4, .int .i64 p5, .int .i64 p6, .int .i64 p7, .int .i64 p8, .int .i64 p9, .int .i64 p10, .int .i64 p11, .int .i64 p12, .int .i64 p13]) (t := 25) (by simp) 9; have zh210 := St.cell h2 (b := b0) (cs := #[.int .i64 p0, .int .i64 p1, .int .i64 p2, .int .i64 p3, .int .i64 p4, .int .i64 p5, .int .i64 p6, .int .i64 p7, .int .i64 p8, .int .i64 p9, .int .i64 p10, .int .i64 p11, .int .i64 p12, .int .i64 p13]) (t := 25) (by simp) 10; have zh211 := St.cell h2 (b := b0) (cs := #[.int .i64 p0, .int .i64 p1, .int .i64 p2, .int .i64 p3, .int .i64 p4, .int .i64 p5, .int .i64 p6, .int .i64 p7, .int .i64 p8, .int .i64 p9, .int .i64 p10, .int .i64 p11, .int .i64 p12, .int .i64 p13]) (t := 25) (by simp) 11; have zh212 := St.cell h2 (b := b0) (cs := #[.int .i64 p0, .int .i64 p1, .int .i64 p2, .int .i64 p3, .int .i64 p4, .int .i64 p5, .int .i64 p6, .int .i64 p7, .int .i64 p8, .int .i64 p9, .int .i64 p10, .int .i64 p11, .int .i64 p12, .int .i64 p13]) (t := 25) (by simp) 12; have zh213 := St.cell h2 (b := b0) (cs := #[.int .i64 p0, .int .i64 p1, .int .i64 p2, .int .i64 p3, .int .i64 p4, .int .i64 p5, .int .i64 p6, .int .i64 p7, .int .i64 p8, .int .i64 p9, .int .i64 p10, .int .i64 p11, .int .i64 p12, .int .i64 p13]) (t := 25) (by simp) 13; simp only [List.getElem?_toArray, List.getElem?_cons_zero, List.getElem?_cons_succ] at zh20 zh21 zh22 zh23 zh24 zh25 zh26 zh27 zh28 zh29 zh210 zh211 zh212 zh213
  go_upto_region 4 with fail
  have h3 := h2.alloc (ao p7 p8 p9 p10 p11 p12 p13)
  generalize w2.heap.size = c2 at h3 ⊢
  generalize w2.alloc (ao p7 p8 p9 p10 p11 p12 p13) = w3 at h3 ⊢
  have zh30 := St.cell h3 (b := b0 + 1) (cs := #[.int .i64 q0, .int .i64 q1, .int .i64 q2, .int .i64 q3, .int .i64 q4, .int .i64 q5, .int .i64 q6, .int .i64 q7, .int .i64 q8, .int .i64 q9, .int .i64 q10, .int .i64 q11, .int .i64 q12, .int .i64 q13]) (t := 27) (by simp) 0; have zh31 := St.cell h3 (b := b0 + 1) (cs := #[.int .i64 q0, .int .i64 q1, .int .i64 q2, .int .i64 q3, .int .i64 q4, .int .i64 q5, .int .i64 q6, .int .i64 q7, .int .i64 q8, .int .i64 q9, .int .i64 q10, .int .i64 q11, .int .i64 q12, .int .i64 q13]) (t := 27) (by simp) 1; have zh32 := St.cell h3 (b := b0 + 1) (cs := #[.int .i64 q0, .int .i64 q1, .int .i64 q2, .int .i64 q3, .int .i64 q4, .int .i64 q5, .int .i64 q6, .int .i64 q7, .int .i64 q8, .int .i64 q9, .int .i64 q10, .int .i64 q11, .int .i64 q12, .int .i64 q13]) (t := 27) (by simp) 2; have zh33 := St.cell h3 (b := b0 + 1) (cs := #[.int .i64 q0, .int .i64 q1, .int .i64 q2, .int .i64 q3, .int .i64 q4, .int .i64 q5, .int .i64 q6, .int .i64 q7, .int .i64 q8, .int .i64 q9, .int .i64 q10, .int .i64 q11, .int .i64 q12, .int .i64 q13]) (t := 27) (by simp) 3; have zh34 := St.cell h3 (b := b0 + 1) (cs := #[.int .i64 q0, .int .i64 q1, .int .i64 q2, .int .i64 q3, .int .i64 q4, .int .i64 q5, .int .i64 q6, .int .i64 q7, .int .i64 q8, .int .i64 q9, .int .i64 q10, .int .i64 q11, .int .i64 q12, .int .i64 q13]) (t := 27) (by simp) 4; have zh35 := St.cell h3 (b := b0 + 1) (cs := #[.int .i64 q0, .int .i64 q1, .int .i64 q2, .int .i64 q3, .int .i64 q4, .int .i64 q5, .int .i64 q6, .int .i64 q7, .int .i64 q8, .int .i64 q9, .int .i64 q10, .int .i64 q11, .int .i64 q12, .int .i64 q13]) (t := 27) (by simp) 5; have zh36 := St.cell h3 (b := b0 + 1) (cs := #[.int .i64 q0, .int .i64 q1, .int .i64 q2, .int .i64 q3, .int .i64 q4, .int .i64 q5, .int .i64 q6, .int .i64 q7, .int .i64 q8, .int .i64 q9, .int .i64 q10, .int .i64 q11, .int .i64 q12, .int .i64 q13]) (t := 27) (by simp) 6; have zh37 := St.cell h3 (b := b0 + 1) (cs := #[.int .i64 q0, .int .i64 q1, .int .i64 q2, .int .i64 q3, .int .i64 q4, .int .i64 q5, .int .i64 q6, .int .i64 q7, .int .i64 q8, .int .i64 q9, .int .i64 q10, .int .i64 q11, .int .i64 q12, .int .i64 q13]) (t := 27) (by simp) 7; have zh38 := St.cell h3 (b := b0 + 1) (cs := #[.int .i64 q0, .int .i64 q1, .int .i64 q2, .int .i64 q3, .int .i64 q4, .int .i64 q5, .int .i64 q6, .int .i64 q7, .int .i64 q8, .int .i64 q9, .int .i64 q10, .int .i64 q11, .int .i64 q12, .int .i64 q13]) (t := 27) (by simp) 8; have zh39 := St.cell h3 (b := b0 + 1) (cs := #[.int .i64 q0, .int .i64 q1, .int .i64 q2, .int .i64 q3, .int .i64 q4, .int .i64 q5, .int .i64 q6, .int .i64 q7, .int .i64 q8, .int .i64 q9, .int .i64 q10, .int .i64 q11, .int .i64 q12, .int .i64 q13]) (t := 27) (by simp) 9; have zh310 := St.cell h3 (b := b0 + 1) (cs := #[.int .i64 q0, .int .i64 q1, .int .i64 q2, .int .i64 q3, .int .i64 q4, .int .i64 q5, .int .i64 q6, .int .i64 q7, .int .i64 q8, .int .i64 q9, .int .i64 q10, .int .i64 q11, .int .i64 q12, .int .i64 q13]) (t := 27) (by simp) 10; have zh311 := St.cell h3 (b := b0 + 1) (cs := #[.int .i64 q0, .int .i64 q1, .int .i64 q2, .int .i64 q3, .int .i64 q4, .int .i64 q5, .int .i64 q6, .int .i64 q7, .int .i64 q8, .int .i64 q9, .int .i64 q10, .int .i64 q11, .int .i64 q12, .int .i64 q13]) (t := 27) (by simp) 11; have zh312 := St.cell h3 (b := b0 + 1) (cs := #[.int .i64 q0, .int .i64 q1, .int .i64 q2, .int .i64 q3, .int .i64 q4, .int .i64 q5, .int .i64 q6, .int .i64 q7, .int .i64 q8, .int .i64 q9, .int .i64 q10, .int .i64 q11, .int .i64 q12, .int .i64 q13]) (t := 27) (by simp) 12; have zh313 := St.cell h3 (b := b0 + 1) (cs := #[.int .i64 q0, .int .i64 q1, .int .i64 q2, .int .i64 q3, .int .i64 q4, .int .i64 q5, .int .i64 q6, .int .i64 q7, .int .i64 q8, .int .i64 q9, .int .i64 q10, .int .i64 q11, .int .i64 q12, .int .i64 q13]) (t := 27) (by simp) 13; simp only [List.getElem?_toArray, List.getElem?_cons_zero, List.getElem?_cons_succ] at zh30 zh31 zh32 zh33 zh34 zh35 zh36 zh37 zh38 zh39 zh310 zh311 zh312 zh313
  go_upto_region 5 with (first | (go_at_call 14; (with_reducible refine (St.call h3 (HSM.out _)).mono ?_); rintro en w4 ⟨rfl, h4⟩))
  have h5 := h4.alloc (ao s0 s1 s2 s3 s4 s5 s6)
  generalize w4.heap.size = c3 at h5 ⊢
  generalize w4.alloc (ao s0 s1 s2 s3 s4 s5 s6) = w5 at h5 ⊢
  have zh50 := St.cell h5 (b := b0 + 1) (cs := #[.int .i64 q0, .int .i64 q1, .int .i64 q2, .int .i64 q3, .int .i64 q4, .int .i64 q5, .int .i64 q6, .int .i64 q7, .int .i64 q8, .int .i64 q9, .int .i64 q10, .int .i64 q11, .int .i64 q12, .int .i64 q13]) (t := 27) (by simp) 0; have zh51 := St.cell h5 (b := b0 + 1) (cs := #[.int .i64 q0, .int .i64 q1, .int .i64 q2, .int .i64 q3, .int .i64 q4, .int .i64 q5, .int .i64 q6, .int .i64 q7, .int .i64 q8, .int .i64 q9, .int .i64 q10, .int .i64 q11, .int .i64 q12, .int .i64 q13]) (t := 27) (by simp) 1; have zh52 := St.cell h5 (b := b0 + 1) (cs := #[.int .i64 q0, .int .i64 q1, .int .i64 q2, .int .i64 q3, .int .i64 q4, .int .i64 q5, .int .i64 q6, .int .i64 q7, .int .i64 q8, .int .i64 q9, .int .i64 q10, .int .i64 q11, .int .i64 q12, .int .i64 q13]) (t := 27) (by simp) 2; have zh53 := St.cell h5 (b := b0 + 1) (cs := #[.int .i64 q0, .int .i64 q1, .int .i64 q2, .int .i64 q3, .int .i64 q4, .int .i64 q5, .int .i64 q6, .int .i64 q7, .int .i64 q8, .int .i64 q9, .int .i64 q10, .int .i64 q11, .int .i64 q12, .int .i64 q13]) (t := 27) (by simp) 3; have zh54 := St.cell h5 (b := b0 + 1) (cs := #[.int .i64 q0, .int .i64 q1, .int .i64 q2, .int .i64 q3, .int .i64 q4, .int .i64 q5, .int .i64 q6, .int .i64 q7, .int .i64 q8, .int .i64 q9, .int .i64 q10, .int .i64 q11, .int .i64 q12, .int .i64 q13]) (t := 27) (by simp) 4; have zh55 := St.cell h5 (b := b0 + 1) (cs := #[.int .i64 q0, .int .i64 q1, .int .i64 q2, .int .i64 q3, .int .i64 q4, .int .i64 q5, .int .i64 q6, .int .i64 q7, .int .i64 q8, .int .i64 q9, .int .i64 q10, .int .i64 q11, .int .i64 q12, .int .i64 q13]) (t := 27) (by simp) 5; have zh56 := St.cell h5 (b := b0 + 1) (cs := #[.int .i64 q0, .int .i64 q1, .int .i64 q2, .int .i64 q3, .int .i64 q4, .int .i64 q5, .int .i64 q6, .int .i64 q7, .int .i64 q8, .int .i64 q9, .int .i64 q10, .int .i64 q11, .int .i64 q12, .int .i64 q13]) (t := 27) (by simp) 6; have zh57 := St.cell h5 (b := b0 + 1) (cs := #[.int .i64 q0, .int .i64 q1, .int .i64 q2, .int .i64 q3, .int .i64 q4, .int .i64 q5, .int .i64 q6, .int .i64 q7, .int .i64 q8, .int .i64 q9, .int .i64 q10, .int .i64 q11, .int .i64 q12, .int .i64 q13]) (t := 27) (by simp) 7; have zh58 := St.cell h5 (b := b0 + 1) (cs := #[.int .i64 q0, .int .i64 q1, .int .i64 q2, .int .i64 q3, .int .i64 q4, .int .i64 q5, .int .i64 q6, .int .i64 q7, .int .i64 q8, .int .i64 q9, .int .i64 q10, .int .i64 q11, .int .i64 q12, .int .i64 q13]) (t := 27) (by simp) 8; have zh59 := St.cell h5 (b := b0 + 1) (cs := #[.int .i64 q0, .int .i64 q1, .int .i64 q2, .int .i64 q3, .int .i64 q4, .int .i64 q5, .int .i64 q6, .int .i64 q7, .int .i64 q8, .int .i64 q9, .int .i64 q10, .int .i64 q11, .int .i64 q12, .int .i64 q13]) (t := 27) (by simp) 9; have zh510 := St.cell h5 (b := b0 + 1) (cs := #[.int .i64 q0, .int .i64 q1, .int .i64 q2, .int .i64 q3, .int .i64 q4, .int .i64 q5, .int .i64 q6, .int .i64 q7, .int .i64 q8, .int .i64 q9, .int .i64 q10, .int .i64 q11, .int .i64 q12, .int .i64 q13]) (t := 27) (by simp) 10; have zh511 := St.cell h5 (b := b0 + 1) (cs := #[.int .i64 q0, .int .i64 q1, .int .i64 q2, .int .i64 q3, .int .i64 q4, .int .i64 q5, .int .i64 q6, .int .i64 q7, .int .i64 q8, .int .i64 q9, .int .i64 q10, .int .i64 q11, .int .i64 q12, .int .i64 q13]) (t := 27) (by simp) 11; have zh512 := St.cell h5 (b := b0 + 1) (cs := #[.int .i64 q0, .int .i64 q1, .int .i64 q2, .int .i64 q3, .int .i64 q4, .int .i64 q5, .int .i64 q6, .int .i64 q7, .int .i64 q8, .int .i64 q9, .int .i64 q10, .int .i64 q11, .int .i64 q12, .int .i64 q13]) (t := 27) (by simp) 12; have zh513 := St.cell h5 (b := b0 + 1) (cs := #[.int .i64 q0, .int .i64 q1, .int .i64 q2, .int .i64 q3, .int .i64 q4, .int .i64 q5, .int .i64 q6, .int .i64 q7, .int .i64 q8, .int .i64 q9, .int .i64 q10, .int .i64 q11, .int .i64 q12, .int .i64 q13]) (t := 27) (by simp) 13; simp only [List.getElem?_toArray, List.getElem?_cons_zero, List.getElem?_cons_succ] at zh50 zh51 zh52 zh53 zh54 zh55 zh56 zh57 zh58 zh59 zh510 zh511 zh512 zh513
  go_upto_region 6 with (first | (go_at_call 14; (with_reducible refine (St.call h5 (HSN.out _)).mono ?_); rintro en w6 ⟨rfl, h6⟩))
  have h7 := h6.alloc (ao t0 t1 t2 t3 t4 t5 t6)
  generalize w6.heap.size = c4 at h7 ⊢
  generalize w6.alloc (ao t0 t1 t2 t3 t4 t5 t6) = w7 at h7 ⊢
  go_upto_region 7 with (first | (go_at_call 15; (with_reducible refine (St.call h7 (HM.out _)).mono ?_); rintro en w8 ⟨rfl, h8⟩; obtain ⟨_, _, _, _, _, _, _⟩ := St.aff h8 (b := c3) (a := s0) (b' := s1) (c := s2) (d := s3) (e := s4) (f := s5) (n := s6) (by simp)))
  go_upto_region 8 with fail
  have h9 := h8.alloc (ao z0 z1 z2 z3 z4 z5 z6)
  generalize w8.heap.size = c5 at h9 ⊢
  generalize w8.alloc (ao z0 z1 z2 z3 z4 z5 z6) = w9 at h9 ⊢
  have HP : Hid (∀ V9, St w [(c5, ao z0 z1 z2 z3 z4 z5 z6), (c4, ao t0 t1 t2 t3 t4 t5 t6), (c3, ao s0 s1 s2 s3 s4 s5 s6), (c2, ao p7 p8 p9 p10 p11 p12 p13), (c1, ao p0 p1 p2 p3 p4 p5 p6), (b0 + 1, (.cells #[.int .i64 q0, .int .i64 q1, .int .i64 q2, .int .i64 q3, .int .i64 q4, .int .i64 q5, .int .i64 q6, .int .i64 q7, .int .i64 q8, .int .i64 q9, .int .i64 q10, .int .i64 q11, .int .i64 q12, .int .i64 q13] 27 : Obj)), (b0, (.cells #[.int .i64 p0, .int .i64 p1, .int .i64 p2, .int .i64 p3, .int .i64 p4, .int .i64 p5, .int .i64 p6, .int .i64 p7, .int .i64 p8, .int .i64 p9, .int .i64 p10, .int .i64 p11, .int .i64 p12, .int .i64 p13] 25 : Obj))] V9 → St w [(c5, ao z0 z1 z2 z3 z4 z5 z6), (c4, ao t0 t1 t2 t3 t4 t5 t6), (c3, ao s0 s1 s2 s3 s4 s5 s6), (c2, ao p7 p8 p9 p10 p11 p12 p13), (c1, ao p0 p1 p2 p3 p4 p5 p6), (b0 + 1, (.cells #[.int .i64 q0, .int .i64 q1, .int .i64 q2, .int .i64 q3, .int .i64 q4, .int .i64 q5, .int .i64 q6, .int .i64 q7, .int .i64 q8, .int .i64 q9, .int .i64 q10, .int .i64 q11, .int .i64 q12, .int .i64 q13] 27 : Obj)), (b0, (.cells #[.int .i64 p0, .int .i64 p1, .int .i64 p2, .int .i64 p3, .int .i64 p4, .int .i64 p5, .int .i64 p6, .int .i64 p7, .int .i64 p8, .int .i64 p9, .int .i64 p10, .int .i64 p11, .int .i64 p12, .int .i64 p13] 25 : Obj))] V9 ∧ AB V9 c1 p0 p1 p2 p3 p4 p5 p6 ∧ AB V9 c2 p7 p8 p9 p10 p11 p12 p13 ∧ AB V9 c3 s0 s1 s2 s3 s4 s5 s6 ∧ AB V9 c4 t0 t1 t2 t3 t4 t5 t6 ∧ AB V9 c5 z0 z1 z2 z3 z4 z5 z6) := fun V hV => ⟨hV, St.aff hV (by simp), St.aff hV (by simp), St.aff hV (by simp), St.aff hV (by simp), St.aff hV (by simp)⟩
  refine wp_region_held_drew (S := fun V9 => St w [(c5, ao z0 z1 z2 z3 z4 z5 z6), (c4, ao t0 t1 t2 t3 t4 t5 t6), (c3, ao s0 s1 s2 s3 s4 s5 s6), (c2, ao p7 p8 p9 p10 p11 p12 p13), (c1, ao p0 p1 p2 p3 p4 p5 p6), (b0 + 1, (.cells #[.int .i64 q0, .int .i64 q1, .int .i64 q2, .int .i64 q3, .int .i64 q4, .int .i64 q5, .int .i64 q6, .int .i64 q7, .int .i64 q8, .int .i64 q9, .int .i64 q10, .int .i64 q11, .int .i64 q12, .int .i64 q13] 27 : Obj)), (b0, (.cells #[.int .i64 p0, .int .i64 p1, .int .i64 p2, .int .i64 p3, .int .i64 p4, .int .i64 p5, .int .i64 p6, .int .i64 p7, .int .i64 p8, .int .i64 p9, .int .i64 p10, .int .i64 p11, .int .i64 p12, .int .i64 p13] 25 : Obj))] V9 ∧ AB V9 c1 p0 p1 p2 p3 p4 p5 p6 ∧ AB V9 c2 p7 p8 p9 p10 p11 p12 p13 ∧ AB V9 c3 s0 s1 s2 s3 s4 s5 s6 ∧ AB V9 c4 t0 t1 t2 t3 t4 t5 t6 ∧ AB V9 c5 z0 z1 z2 z3 z4 z5 z6) (by kernel_rfl) ?_ (fun hHeld => ?_)
  · exact HP.out _ (h9.drew)
  have h90 := h9.drew
  refine wpAnyH_take (i := 0) (oi := { dst := some 59, op := Op.load 23 (Operand.tmp 8), type := 23, pos := "law.go:38", after := #[], guard := none }) (v := ?_) rfl (by kernel_rfl) (by kernel_rfl) (by kernel_rfl) (fun _ _ _ h => h) (Or.inl ⟨by kernel_rfl, ?_⟩) (by assumption) ?_
  rotate_left 1
  focus (intro w hSw; (try dsimp only at hSw); go_simp; (try with_reducible rfl))
  try simp only [Act.put, List.setIfInBounds_toArray, List.set_cons_zero, List.set_cons_succ]
  refine wpAnyH_take (i := 2) (oi := { dst := some 61, op := Op.load 23 (Operand.tmp 8), type := 23, pos := "law.go:38", after := #[], guard := none }) (v := ?_) rfl (by kernel_rfl) (by kernel_rfl) (by kernel_rfl) (fun _ _ _ h => h) (Or.inl ⟨by kernel_rfl, ?_⟩) (by assumption) ?_
  rotate_left 1
  focus (intro w hSw; (try dsimp only at hSw); go_simp; (try with_reducible rfl))
  try simp only [Act.put, List.setIfInBounds_toArray, List.set_cons_zero, List.set_cons_succ]
  refine wpAnyH_ready (rs := [1]) (by kernel_rfl) (by simp) (AllReadyH.cons (o := { dst := some 60, op := Op.call { callee := Callee.value (Operand.func 16), args := #[Operand.tmp 59], argTypes := #[23] }, type := 4, pos := "law.go:38", after := #[{ on := 0, ground := Ground.data }], guard := none }) rfl (fun K hK => ?_) AllReadyH.nil)
  (go_simp; (go_at_call 16; (refine (St.call h90 (KV.out _)).mono ?_); rintro e V1r8 ⟨rfl, h91r8⟩))
  refine hK.out _ _ ?_ (fun hHeld => ?_)
  · exact HP.out _ (h91r8)
  clear hK K
  try simp only [Act.put, List.setIfInBounds_toArray, List.set_cons_zero, List.set_cons_succ]
  refine wpAnyH_ready (rs := [3]) (by kernel_rfl) (by simp) (AllReadyH.cons (o := { dst := some 62, op := Op.call { callee := Callee.value (Operand.func 17), args := #[Operand.tmp 61], argTypes := #[23] }, type := 4, pos := "law.go:38", after := #[{ on := 2, ground := Ground.data }, { on := 1, ground := Ground.chain }], guard := none }) rfl (fun K hK => ?_) AllReadyH.nil)
  (go_simp; (go_at_call 17; (refine (St.call h91r8 (KW.out _)).mono ?_); rintro e V2r8 ⟨rfl, h92r8⟩))
  refine hK.out _ _ ?_ (fun hHeld => ?_)
  · exact HP.out _ (h92r8)
  clear hK K
  try simp only [Act.put, List.setIfInBounds_toArray, List.set_cons_zero, List.set_cons_succ]
  refine wpAnyH_take (i := 4) (oi := { dst := some 63, op := Op.binOp BinOp.eql 4 (Operand.tmp 60) (Operand.tmp 62) 4, type := 4, pos := "law.go:38", after := #[{ on := 1, ground := Ground.data }, { on := 3, ground := Ground.data }], guard := none }) (v := ?_) rfl (by kernel_rfl) (by kernel_rfl) (by kernel_rfl) (fun _ _ _ h => h) (Or.inl ⟨by kernel_rfl, ?_⟩) (by assumption) ?_
  rotate_left 1
  focus (intro w hSw; (try dsimp only at hSw); go_simp; (try with_reducible rfl))
  try simp only [Act.put, List.setIfInBounds_toArray, List.set_cons_zero, List.set_cons_succ]
  refine wpAnyH_take (i := 5) (oi := { dst := some 64, op := Op.move (Operand.tmp 63), type := 4, pos := "law.go:38", after := #[{ on := 4, ground := Ground.data }, { on := 3, ground := Ground.chain }], guard := none }) (v := ?_) rfl (by kernel_rfl) (by kernel_rfl) (by kernel_rfl) (fun _ _ _ h => h) (Or.inl ⟨by kernel_rfl, ?_⟩) (by assumption) ?_
  rotate_left 1
  focus (intro w hSw; (try dsimp only at hSw); go_simp; (try with_reducible rfl))
  try simp only [Act.put, List.setIfInBounds_toArray, List.set_cons_zero, List.set_cons_succ]
  refine wpAnyH_take (i := 6) (oi := { dst := some 65, op := Op.load 23 (Operand.tmp 8), type := 23, pos := "law.go:38", after := #[{ on := 5, ground := Ground.guard }], guard := some (5, true) }) (v := ?_) rfl (by kernel_rfl) (by kernel_rfl) (by kernel_rfl) (fun _ _ _ h => h) (Or.inl ⟨by kernel_rfl, ?_⟩) (by assumption) ?_
  rotate_left 1
  focus (intro w hSw; (try dsimp only at hSw); go_simp; (try with_reducible rfl))
  try simp only [Act.put, List.setIfInBounds_toArray, List.set_cons_zero, List.set_cons_succ]
  refine wpAnyH_take (i := 7) (oi := { dst := some 66, op := Op.load 23 (Operand.tmp 9), type := 23, pos := "law.go:38", after := #[{ on := 5, ground := Ground.guard }], guard := some (5, true) }) (v := ?_) rfl (by kernel_rfl) (by kernel_rfl) (by kernel_rfl) (fun _ _ _ h => h) (Or.inl ⟨by kernel_rfl, ?_⟩) (by assumption) ?_
  rotate_left 1
  focus (intro w hSw; (try dsimp only at hSw); go_simp; (try with_reducible rfl))
  try simp only [Act.put, List.setIfInBounds_toArray, List.set_cons_zero, List.set_cons_succ]
  refine wpAnyH_take (i := 9) (oi := { dst := some 68, op := Op.load 23 (Operand.tmp 8), type := 23, pos := "law.go:38", after := #[{ on := 5, ground := Ground.guard }], guard := some (5, true) }) (v := ?_) rfl (by kernel_rfl) (by kernel_rfl) (by kernel_rfl) (fun _ _ _ h => h) (Or.inl ⟨by kernel_rfl, ?_⟩) (by assumption) ?_
  rotate_left 1
  focus (intro w hSw; (try dsimp only at hSw); go_simp; (try with_reducible rfl))
  try simp only [Act.put, List.setIfInBounds_toArray, List.set_cons_zero, List.set_cons_succ]
  refine wpAnyH_take (i := 10) (oi := { dst := some 69, op := Op.load 23 (Operand.tmp 9), type := 23, pos := "law.go:38", after := #[{ on := 5, ground := Ground.guard }], guard := some (5, true) }) (v := ?_) rfl (by kernel_rfl) (by kernel_rfl) (by kernel_rfl) (fun _ _ _ h => h) (Or.inl ⟨by kernel_rfl, ?_⟩) (by assumption) ?_
  rotate_left 1
  focus (intro w hSw; (try dsimp only at hSw); go_simp; (try with_reducible rfl))
  try simp only [Act.put, List.setIfInBounds_toArray, List.set_cons_zero, List.set_cons_succ]
  refine wpAnyH_ready (rs := [8]) (by kernel_rfl) (by simp) (AllReadyH.cons (o := { dst := some 67, op := Op.call { callee := Callee.value (Operand.func 18), args := #[Operand.tmp 65, Operand.tmp 66], argTypes := #[23, 23] }, type := 4, pos := "law.go:38", after := #[{ on := 6, ground := Ground.data }, { on := 7, ground := Ground.data }, { on := 5, ground := Ground.chain }, { on := 5, ground := Ground.guard }], guard := some (5, true) }) rfl (fun K hK => ?_) AllReadyH.nil)
  (go_simp; (go_at_call 18; (refine (St.call h92r8 (KE.out _)).mono ?_); rintro e V3r8 ⟨rfl, h93r8⟩))
  refine hK.out _ _ ?_ (fun hHeld => ?_)
  · exact HP.out _ (h93r8)
  clear hK K
  try simp only [Act.put, List.setIfInBounds_toArray, List.set_cons_zero, List.set_cons_succ]
  refine wpAnyH_ready (rs := [11]) (by kernel_rfl) (by simp) (AllReadyH.cons (o := { dst := some 70, op := Op.call { callee := Callee.value (Operand.func 19), args := #[Operand.tmp 68, Operand.tmp 69], argTypes := #[23, 23] }, type := 4, pos := "law.go:38", after := #[{ on := 9, ground := Ground.data }, { on := 10, ground := Ground.data }, { on := 8, ground := Ground.chain }, { on := 5, ground := Ground.guard }], guard := some (5, true) }) rfl (fun K hK => ?_) AllReadyH.nil)
  (go_simp; (go_at_call 19; (refine (St.call h93r8 (KF.out _)).mono ?_); rintro e V4r8 ⟨rfl, h94r8⟩))
  refine hK.out _ _ ?_ (fun hHeld => ?_)
  · exact HP.out _ (h94r8)
  clear hK K
  try simp only [Act.put, List.setIfInBounds_toArray, List.set_cons_zero, List.set_cons_succ]
  refine wpAnyH_take (i := 12) (oi := { dst := some 71, op := Op.binOp BinOp.eql 4 (Operand.tmp 67) (Operand.tmp 70) 4, type := 4, pos := "law.go:38", after := #[{ on := 8, ground := Ground.data }, { on := 11, ground := Ground.data }, { on := 5, ground := Ground.guard }], guard := some (5, true) }) (v := ?_) rfl (by kernel_rfl) (by kernel_rfl) (by kernel_rfl) (fun _ _ _ h => h) (Or.inl ⟨by kernel_rfl, ?_⟩) (by assumption) ?_
  rotate_left 1
  focus (intro w hSw; (try dsimp only at hSw); go_simp; (try with_reducible rfl))
  try simp only [Act.put, List.setIfInBounds_toArray, List.set_cons_zero, List.set_cons_succ]
  refine wpAnyH_take (i := 13) (oi := { dst := some 72, op := Op.pick (Operand.tmp 64) (Operand.tmp 71) (Operand.const (Value.bool false)), type := 4, pos := "law.go:38", after := #[{ on := 5, ground := Ground.data }, { on := 12, ground := Ground.data }], guard := none }) (v := ?_) rfl (by kernel_rfl) (by kernel_rfl) (by kernel_rfl) (fun _ _ _ h => h) (Or.inl ⟨by kernel_rfl, ?_⟩) (by assumption) ?_
  rotate_left 1
  focus (intro w hSw; (try dsimp only at hSw); go_simp; (try with_reducible rfl))
  try simp only [Act.put, List.setIfInBounds_toArray, List.set_cons_zero, List.set_cons_succ]
  refine wpAnyH_take (i := 14) (oi := { dst := some 73, op := Op.move (Operand.tmp 72), type := 4, pos := "law.go:38", after := #[{ on := 13, ground := Ground.data }, { on := 11, ground := Ground.chain }], guard := none }) (v := ?_) rfl (by kernel_rfl) (by kernel_rfl) (by kernel_rfl) (fun _ _ _ h => h) (Or.inl ⟨by kernel_rfl, ?_⟩) (by assumption) ?_
  rotate_left 1
  focus (intro w hSw; (try dsimp only at hSw); go_simp; (try with_reducible rfl))
  try simp only [Act.put, List.setIfInBounds_toArray, List.set_cons_zero, List.set_cons_succ]
  refine wpAnyH_take (i := 15) (oi := { dst := some 74, op := Op.load 23 (Operand.tmp 8), type := 23, pos := "law.go:38", after := #[{ on := 14, ground := Ground.guard }], guard := some (14, true) }) (v := ?_) rfl (by kernel_rfl) (by kernel_rfl) (by kernel_rfl) (fun _ _ _ h => h) (Or.inl ⟨by kernel_rfl, ?_⟩) (by assumption) ?_
  rotate_left 1
  focus (intro w hSw; (try dsimp only at hSw); go_simp; (try with_reducible rfl))
  try simp only [Act.put, List.setIfInBounds_toArray, List.set_cons_zero, List.set_cons_succ]
  refine wpAnyH_take (i := 17) (oi := { dst := some 76, op := Op.load 23 (Operand.tmp 8), type := 23, pos := "law.go:38", after := #[{ on := 14, ground := Ground.guard }], guard := some (14, true) }) (v := ?_) rfl (by kernel_rfl) (by kernel_rfl) (by kernel_rfl) (fun _ _ _ h => h) (Or.inl ⟨by kernel_rfl, ?_⟩) (by assumption) ?_
  rotate_left 1
  focus (intro w hSw; (try dsimp only at hSw); go_simp; (try with_reducible rfl))
  try simp only [Act.put, List.setIfInBounds_toArray, List.set_cons_zero, List.set_cons_succ]
  refine wpAnyH_ready (rs := [16]) (by kernel_rfl) (by simp) (AllReadyH.cons (o := { dst := some 75, op := Op.call { callee := Callee.value (Operand.func 20), args := #[Operand.tmp 74], argTypes := #[23] }, type := 23, pos := "law.go:38", after := #[{ on := 15, ground := Ground.data }, { on := 14, ground := Ground.chain }, { on := 14, ground := Ground.guard }], guard := some (14, true) }) rfl (fun K hK => ?_) AllReadyH.nil)
  (go_simp; (go_at_call 20; (refine (St.call h94r8 (KR.out _)).mono ?_); rintro e V5r8 ⟨rfl, h95r8⟩))
  refine hK.out _ _ ?_ (fun hHeld => ?_)
  · exact HP.out _ (h95r8)
  clear hK K
  try simp only [Act.put, List.setIfInBounds_toArray, List.set_cons_zero, List.set_cons_succ]
  refine wpAnyH_ready (rs := [18]) (by kernel_rfl) (by simp) (AllReadyH.cons (o := { dst := some 77, op := Op.call { callee := Callee.value (Operand.func 21), args := #[Operand.tmp 76], argTypes := #[23] }, type := 23, pos := "law.go:38", after := #[{ on := 17, ground := Ground.data }, { on := 16, ground := Ground.chain }, { on := 14, ground := Ground.guard }], guard := some (14, true) }) rfl (fun K hK => ?_) AllReadyH.nil)
  (go_simp; (go_at_call 21; (refine (St.call h95r8 (KS.out _)).mono ?_); rintro e V6r8 ⟨rfl, h96r8⟩))
  refine hK.out _ _ ?_ (fun hHeld => ?_)
  · exact HP.out _ (h96r8)
  clear hK K
  try simp only [Act.put, List.setIfInBounds_toArray, List.set_cons_zero, List.set_cons_succ]
  refine wpAnyH_take (i := 19) (oi := { dst := some 78, op := Op.binOp BinOp.eql 23 (Operand.tmp 75) (Operand.tmp 77) 23, type := 4, pos := "law.go:38", after := #[{ on := 16, ground := Ground.data }, { on := 18, ground := Ground.data }, { on := 14, ground := Ground.guard }], guard := some (14, true) }) (v := ?_) rfl (by kernel_rfl) (by kernel_rfl) (by kernel_rfl) (fun _ _ _ h => h) (Or.inl ⟨by kernel_rfl, ?_⟩) (by assumption) ?_
  rotate_left 1
  focus (intro w hSw; (try dsimp only at hSw); go_simp; (try with_reducible rfl))
  try simp only [Act.put, List.setIfInBounds_toArray, List.set_cons_zero, List.set_cons_succ]
  refine wpAnyH_take (i := 20) (oi := { dst := some 79, op := Op.pick (Operand.tmp 73) (Operand.tmp 78) (Operand.const (Value.bool false)), type := 4, pos := "law.go:38", after := #[{ on := 14, ground := Ground.data }, { on := 19, ground := Ground.data }], guard := none }) (v := ?_) rfl (by kernel_rfl) (by kernel_rfl) (by kernel_rfl) (fun _ _ _ h => h) (Or.inl ⟨by kernel_rfl, ?_⟩) (by assumption) ?_
  rotate_left 1
  focus (intro w hSw; (try dsimp only at hSw); go_simp; (try with_reducible rfl))
  try simp only [Act.put, List.setIfInBounds_toArray, List.set_cons_zero, List.set_cons_succ]
  refine wpAnyH_take (i := 21) (oi := { dst := some 80, op := Op.move (Operand.tmp 79), type := 4, pos := "law.go:38", after := #[{ on := 20, ground := Ground.data }, { on := 18, ground := Ground.chain }], guard := none }) (v := ?_) rfl (by kernel_rfl) (by kernel_rfl) (by kernel_rfl) (fun _ _ _ h => h) (Or.inl ⟨by kernel_rfl, ?_⟩) (by assumption) ?_
  rotate_left 1
  focus (intro w hSw; (try dsimp only at hSw); go_simp; (try with_reducible rfl))
  try simp only [Act.put, List.setIfInBounds_toArray, List.set_cons_zero, List.set_cons_succ]
  refine wpAnyH_take (i := 22) (oi := { dst := some 81, op := Op.fieldAddr 23 (Operand.tmp 8) 2, type := 0, pos := "law.go:38", after := #[{ on := 21, ground := Ground.guard }], guard := some (21, true) }) (v := ?_) rfl (by kernel_rfl) (by kernel_rfl) (by kernel_rfl) (fun _ _ _ h => h) (Or.inl ⟨by kernel_rfl, ?_⟩) (by assumption) ?_
  rotate_left 1
  focus (intro w hSw; (try dsimp only at hSw); go_simp; (try with_reducible rfl))
  try simp only [Act.put, List.setIfInBounds_toArray, List.set_cons_zero, List.set_cons_succ]
  refine wpAnyH_take (i := 23) (oi := { dst := some 82, op := Op.load 3 (Operand.tmp 81), type := 3, pos := "law.go:38", after := #[{ on := 22, ground := Ground.data }, { on := 21, ground := Ground.guard }], guard := some (21, true) }) (v := ?_) rfl (by kernel_rfl) (by kernel_rfl) (by kernel_rfl) (fun _ _ _ h => h) (Or.inl ⟨by kernel_rfl, ?_⟩) (by assumption) ?_
  rotate_left 1
  focus (intro w hSw; (try dsimp only at hSw); go_simp; (try with_reducible rfl))
  try simp only [Act.put, List.setIfInBounds_toArray, List.set_cons_zero, List.set_cons_succ]
  refine wpAnyH_take (i := 24) (oi := { dst := some 83, op := Op.fieldAddr 23 (Operand.tmp 8) 5, type := 0, pos := "law.go:38", after := #[{ on := 21, ground := Ground.guard }], guard := some (21, true) }) (v := ?_) rfl (by kernel_rfl) (by kernel_rfl) (by kernel_rfl) (fun _ _ _ h => h) (Or.inl ⟨by kernel_rfl, ?_⟩) (by assumption) ?_
  rotate_left 1
  focus (intro w hSw; (try dsimp only at hSw); go_simp; (try with_reducible rfl))
  try simp only [Act.put, List.setIfInBounds_toArray, List.set_cons_zero, List.set_cons_succ]
  refine wpAnyH_take (i := 25) (oi := { dst := some 84, op := Op.load 3 (Operand.tmp 83), type := 3, pos := "law.go:38", after := #[{ on := 24, ground := Ground.data }, { on := 21, ground := Ground.guard }], guard := some (21, true) }) (v := ?_) rfl (by kernel_rfl) (by kernel_rfl) (by kernel_rfl) (fun _ _ _ h => h) (Or.inl ⟨by kernel_rfl, ?_⟩) (by assumption) ?_
  rotate_left 1
  focus (intro w hSw; (try dsimp only at hSw); go_simp; (try with_reducible rfl))
  try simp only [Act.put, List.setIfInBounds_toArray, List.set_cons_zero, List.set_cons_succ]
  refine wpAnyH_take (i := 27) (oi := { dst := some 86, op := Op.fieldAddr 23 (Operand.tmp 8) 2, type := 0, pos := "law.go:38", after := #[{ on := 21, ground := Ground.guard }], guard := some (21, true) }) (v := ?_) rfl (by kernel_rfl) (by kernel_rfl) (by kernel_rfl) (fun _ _ _ h => h) (Or.inl ⟨by kernel_rfl, ?_⟩) (by assumption) ?_
  rotate_left 1
  focus (intro w hSw; (try dsimp only at hSw); go_simp; (try with_reducible rfl))
  try simp only [Act.put, List.setIfInBounds_toArray, List.set_cons_zero, List.set_cons_succ]
  refine wpAnyH_take (i := 28) (oi := { dst := some 87, op := Op.load 3 (Operand.tmp 86), type := 3, pos := "law.go:38", after := #[{ on := 27, ground := Ground.data }, { on := 21, ground := Ground.guard }], guard := some (21, true) }) (v := ?_) rfl (by kernel_rfl) (by kernel_rfl) (by kernel_rfl) (fun _ _ _ h => h) (Or.inl ⟨by kernel_rfl, ?_⟩) (by assumption) ?_
  rotate_left 1
  focus (intro w hSw; (try dsimp only at hSw); go_simp; (try with_reducible rfl))
  try simp only [Act.put, List.setIfInBounds_toArray, List.set_cons_zero, List.set_cons_succ]
  refine wpAnyH_take (i := 29) (oi := { dst := some 88, op := Op.fieldAddr 23 (Operand.tmp 8) 5, type := 0, pos := "law.go:38", after := #[{ on := 21, ground := Ground.guard }], guard := some (21, true) }) (v := ?_) rfl (by kernel_rfl) (by kernel_rfl) (by kernel_rfl) (fun _ _ _ h => h) (Or.inl ⟨by kernel_rfl, ?_⟩) (by assumption) ?_
  rotate_left 1
  focus (intro w hSw; (try dsimp only at hSw); go_simp; (try with_reducible rfl))
  try simp only [Act.put, List.setIfInBounds_toArray, List.set_cons_zero, List.set_cons_succ]
  refine wpAnyH_take (i := 30) (oi := { dst := some 89, op := Op.load 3 (Operand.tmp 88), type := 3, pos := "law.go:38", after := #[{ on := 29, ground := Ground.data }, { on := 21, ground := Ground.guard }], guard := some (21, true) }) (v := ?_) rfl (by kernel_rfl) (by kernel_rfl) (by kernel_rfl) (fun _ _ _ h => h) (Or.inl ⟨by kernel_rfl, ?_⟩) (by assumption) ?_
  rotate_left 1
  focus (intro w hSw; (try dsimp only at hSw); go_simp; (try with_reducible rfl))
  try simp only [Act.put, List.setIfInBounds_toArray, List.set_cons_zero, List.set_cons_succ]
  refine wpAnyH_ready (rs := [26]) (by kernel_rfl) (by simp) (AllReadyH.cons (o := { dst := some 85, op := Op.call { callee := Callee.value (Operand.func 22), args := #[Operand.tmp 82, Operand.tmp 84], argTypes := #[3, 3] }, type := 23, pos := "law.go:38", after := #[{ on := 23, ground := Ground.data }, { on := 25, ground := Ground.data }, { on := 21, ground := Ground.chain }, { on := 21, ground := Ground.guard }], guard := some (21, true) }) rfl (fun K hK => ?_) AllReadyH.nil)
  (go_simp; (go_at_call 22; (refine (St.call h96r8 (shift_any p2 p5 _)).mono ?_); rintro e V7r8 ⟨rfl, h97r8⟩))
  refine hK.out _ _ ?_ (fun hHeld => ?_)
  · exact HP.out _ (h97r8)
  clear hK K
  try simp only [Act.put, List.setIfInBounds_toArray, List.set_cons_zero, List.set_cons_succ]
  refine wpAnyH_ready (rs := [31]) (by kernel_rfl) (by simp) (AllReadyH.cons (o := { dst := some 90, op := Op.call { callee := Callee.value (Operand.func 23), args := #[Operand.tmp 87, Operand.tmp 89], argTypes := #[3, 3] }, type := 23, pos := "law.go:38", after := #[{ on := 28, ground := Ground.data }, { on := 30, ground := Ground.data }, { on := 26, ground := Ground.chain }, { on := 21, ground := Ground.guard }], guard := some (21, true) }) rfl (fun K hK => ?_) AllReadyH.nil)
  (go_simp; (go_at_call 23; (refine (St.call h97r8 (refShift_any p2 p5 _)).mono ?_); rintro e V8r8 ⟨rfl, h98r8⟩))
  refine hK.out _ _ ?_ (fun hHeld => ?_)
  · exact HP.out _ (h98r8)
  clear hK K
  try simp only [Act.put, List.setIfInBounds_toArray, List.set_cons_zero, List.set_cons_succ]
  refine wpAnyH_take (i := 32) (oi := { dst := some 91, op := Op.binOp BinOp.eql 23 (Operand.tmp 85) (Operand.tmp 90) 23, type := 4, pos := "law.go:38", after := #[{ on := 26, ground := Ground.data }, { on := 31, ground := Ground.data }, { on := 21, ground := Ground.guard }], guard := some (21, true) }) (v := ?_) rfl (by kernel_rfl) (by kernel_rfl) (by kernel_rfl) (fun _ _ _ h => h) (Or.inl ⟨by kernel_rfl, ?_⟩) (by assumption) ?_
  rotate_left 1
  focus (intro w hSw; (try dsimp only at hSw); go_simp; (try with_reducible rfl))
  try simp only [Act.put, List.setIfInBounds_toArray, List.set_cons_zero, List.set_cons_succ]
  refine wpAnyH_take (i := 33) (oi := { dst := some 92, op := Op.pick (Operand.tmp 80) (Operand.tmp 91) (Operand.const (Value.bool false)), type := 4, pos := "law.go:38", after := #[{ on := 21, ground := Ground.data }, { on := 32, ground := Ground.data }], guard := none }) (v := ?_) rfl (by kernel_rfl) (by kernel_rfl) (by kernel_rfl) (fun _ _ _ h => h) (Or.inl ⟨by kernel_rfl, ?_⟩) (by assumption) ?_
  rotate_left 1
  focus (intro w hSw; (try dsimp only at hSw); go_simp; (try with_reducible rfl))
  try simp only [Act.put, List.setIfInBounds_toArray, List.set_cons_zero, List.set_cons_succ]
  refine wpAnyH_take (i := 34) (oi := { dst := some 14, op := Op.assign (Operand.tmp 92), type := 4, pos := "law.go:38", after := #[{ on := 33, ground := Ground.data }, { on := 31, ground := Ground.chain }, { on := 0, ground := Ground.phase }, { on := 1, ground := Ground.phase }, { on := 2, ground := Ground.phase }, { on := 3, ground := Ground.phase }, { on := 4, ground := Ground.phase }, { on := 5, ground := Ground.phase }, { on := 6, ground := Ground.phase }, { on := 7, ground := Ground.phase }, { on := 8, ground := Ground.phase }, { on := 9, ground := Ground.phase }, { on := 10, ground := Ground.phase }, { on := 11, ground := Ground.phase }, { on := 12, ground := Ground.phase }, { on := 13, ground := Ground.phase }, { on := 14, ground := Ground.phase }, { on := 15, ground := Ground.phase }, { on := 16, ground := Ground.phase }, { on := 17, ground := Ground.phase }, { on := 18, ground := Ground.phase }, { on := 19, ground := Ground.phase }, { on := 20, ground := Ground.phase }, { on := 21, ground := Ground.phase }, { on := 22, ground := Ground.phase }, { on := 23, ground := Ground.phase }, { on := 24, ground := Ground.phase }, { on := 25, ground := Ground.phase }, { on := 26, ground := Ground.phase }, { on := 27, ground := Ground.phase }, { on := 28, ground := Ground.phase }, { on := 29, ground := Ground.phase }, { on := 30, ground := Ground.phase }, { on := 31, ground := Ground.phase }, { on := 32, ground := Ground.phase }, { on := 33, ground := Ground.phase }], guard := none }) (v := ?_) rfl (by kernel_rfl) (by kernel_rfl) (by kernel_rfl) (fun _ _ _ h => h) (Or.inl ⟨by kernel_rfl, ?_⟩) (by assumption) ?_
  rotate_left 1
  focus (intro w hSw; (try dsimp only at hSw); go_simp; (try with_reducible rfl))
  try simp only [Act.put, List.setIfInBounds_toArray, List.set_cons_zero, List.set_cons_succ]
  refine wpAnyH_done (by kernel_rfl) ?_ _
  go_upto_region 9 with fail
  refine wp_region_held_drew (S := fun V9 => St w [(c5, ao z0 z1 z2 z3 z4 z5 z6), (c4, ao t0 t1 t2 t3 t4 t5 t6), (c3, ao s0 s1 s2 s3 s4 s5 s6), (c2, ao p7 p8 p9 p10 p11 p12 p13), (c1, ao p0 p1 p2 p3 p4 p5 p6), (b0 + 1, (.cells #[.int .i64 q0, .int .i64 q1, .int .i64 q2, .int .i64 q3, .int .i64 q4, .int .i64 q5, .int .i64 q6, .int .i64 q7, .int .i64 q8, .int .i64 q9, .int .i64 q10, .int .i64 q11, .int .i64 q12, .int .i64 q13] 27 : Obj)), (b0, (.cells #[.int .i64 p0, .int .i64 p1, .int .i64 p2, .int .i64 p3, .int .i64 p4, .int .i64 p5, .int .i64 p6, .int .i64 p7, .int .i64 p8, .int .i64 p9, .int .i64 p10, .int .i64 p11, .int .i64 p12, .int .i64 p13] 25 : Obj))] V9 ∧ AB V9 c1 p0 p1 p2 p3 p4 p5 p6 ∧ AB V9 c2 p7 p8 p9 p10 p11 p12 p13 ∧ AB V9 c3 s0 s1 s2 s3 s4 s5 s6 ∧ AB V9 c4 t0 t1 t2 t3 t4 t5 t6 ∧ AB V9 c5 z0 z1 z2 z3 z4 z5 z6) (by kernel_rfl) ?_ (fun hHeld => ?_)
  · exact HP.out _ (h98r8.drew)
  have h98r80 := h98r8.drew
  refine wpAnyH_take (i := 0) (oi := { dst := some 93, op := Op.load 23 (Operand.tmp 10), type := 23, pos := "law.go:39", after := #[], guard := none }) (v := ?_) rfl (by kernel_rfl) (by kernel_rfl) (by kernel_rfl) (fun _ _ _ h => h) (Or.inl ⟨by kernel_rfl, ?_⟩) (by assumption) ?_
  rotate_left 1
  focus (intro w hSw; (try dsimp only at hSw); go_simp; (try with_reducible rfl))
  try simp only [Act.put, List.setIfInBounds_toArray, List.set_cons_zero, List.set_cons_succ]
  refine wpAnyH_ready (rs := [1]) (by kernel_rfl) (by simp) (AllReadyH.cons (o := { dst := some 94, op := Op.call { callee := Callee.value (Operand.func 16), args := #[Operand.tmp 93], argTypes := #[23] }, type := 4, pos := "law.go:39", after := #[{ on := 0, ground := Ground.data }], guard := none }) rfl (fun K hK => ?_) AllReadyH.nil)
  (go_simp; (go_at_call 16; (refine (St.call h98r80 (LV.out _)).mono ?_); rintro e V1r9 ⟨rfl, h98r81r9⟩))
  refine hK.out _ _ ?_ (fun hHeld => ?_)
  · exact HP.out _ (h98r81r9)
  clear hK K
  try simp only [Act.put, List.setIfInBounds_toArray, List.set_cons_zero, List.set_cons_succ]
  refine wpAnyH_take (i := 2) (oi := { dst := some 95, op := Op.move (Operand.tmp 94), type := 4, pos := "law.go:39", after := #[{ on := 1, ground := Ground.data }, { on := 1, ground := Ground.chain }], guard := none }) (v := ?_) rfl (by kernel_rfl) (by kernel_rfl) (by kernel_rfl) (fun _ _ _ h => h) (Or.inl ⟨by kernel_rfl, ?_⟩) (by assumption) ?_
  rotate_left 1
  focus (intro w hSw; (try dsimp only at hSw); go_simp; (try with_reducible rfl))
  try simp only [Act.put, List.setIfInBounds_toArray, List.set_cons_zero, List.set_cons_succ]
  refine wpAnyH_take (i := 3) (oi := { dst := some 96, op := Op.load 23 (Operand.tmp 10), type := 23, pos := "law.go:39", after := #[{ on := 2, ground := Ground.guard }], guard := some (2, true) }) (v := ?_) rfl (by kernel_rfl) (by kernel_rfl) (by kernel_rfl) (fun _ _ _ h => h) (Or.inl ⟨by kernel_rfl, ?_⟩) (by assumption) ?_
  rotate_left 1
  focus (intro w hSw; (try dsimp only at hSw); go_simp; (try with_reducible rfl))
  try simp only [Act.put, List.setIfInBounds_toArray, List.set_cons_zero, List.set_cons_succ]
  refine wpAnyH_take (i := 4) (oi := { dst := some 97, op := Op.load 23 (Operand.tmp 11), type := 23, pos := "law.go:39", after := #[{ on := 2, ground := Ground.guard }], guard := some (2, true) }) (v := ?_) rfl (by kernel_rfl) (by kernel_rfl) (by kernel_rfl) (fun _ _ _ h => h) (Or.inl ⟨by kernel_rfl, ?_⟩) (by assumption) ?_
  rotate_left 1
  focus (intro w hSw; (try dsimp only at hSw); go_simp; (try with_reducible rfl))
  try simp only [Act.put, List.setIfInBounds_toArray, List.set_cons_zero, List.set_cons_succ]
  refine wpAnyH_take (i := 6) (oi := { dst := some 99, op := Op.load 23 (Operand.tmp 10), type := 23, pos := "law.go:39", after := #[{ on := 2, ground := Ground.guard }], guard := some (2, true) }) (v := ?_) rfl (by kernel_rfl) (by kernel_rfl) (by kernel_rfl) (fun _ _ _ h => h) (Or.inl ⟨by kernel_rfl, ?_⟩) (by assumption) ?_
  rotate_left 1
  focus (intro w hSw; (try dsimp only at hSw); go_simp; (try with_reducible rfl))
  try simp only [Act.put, List.setIfInBounds_toArray, List.set_cons_zero, List.set_cons_succ]
  refine wpAnyH_take (i := 7) (oi := { dst := some 100, op := Op.load 23 (Operand.tmp 11), type := 23, pos := "law.go:39", after := #[{ on := 2, ground := Ground.guard }], guard := some (2, true) }) (v := ?_) rfl (by kernel_rfl) (by kernel_rfl) (by kernel_rfl) (fun _ _ _ h => h) (Or.inl ⟨by kernel_rfl, ?_⟩) (by assumption) ?_
  rotate_left 1
  focus (intro w hSw; (try dsimp only at hSw); go_simp; (try with_reducible rfl))
  try simp only [Act.put, List.setIfInBounds_toArray, List.set_cons_zero, List.set_cons_succ]
  refine wpAnyH_ready (rs := [5]) (by kernel_rfl) (by simp) (AllReadyH.cons (o := { dst := some 98, op := Op.call { callee := Callee.value (Operand.func 18), args := #[Operand.tmp 96, Operand.tmp 97], argTypes := #[23, 23] }, type := 4, pos := "law.go:39", after := #[{ on := 3, ground := Ground.data }, { on := 4, ground := Ground.data }, { on := 2, ground := Ground.chain }, { on := 2, ground := Ground.guard }], guard := some (2, true) }) rfl (fun K hK => ?_) AllReadyH.nil)
  (go_simp; (go_at_call 18; (refine (St.call h98r81r9 (LE.out _)).mono ?_); rintro e V2r9 ⟨rfl, h98r82r9⟩))
  refine hK.out _ _ ?_ (fun hHeld => ?_)
  · exact HP.out _ (h98r82r9)
  clear hK K
  try simp only [Act.put, List.setIfInBounds_toArray, List.set_cons_zero, List.set_cons_succ]
  refine wpAnyH_ready (rs := [8]) (by kernel_rfl) (by simp) (AllReadyH.cons (o := { dst := some 101, op := Op.call { callee := Callee.value (Operand.func 19), args := #[Operand.tmp 99, Operand.tmp 100], argTypes := #[23, 23] }, type := 4, pos := "law.go:39", after := #[{ on := 6, ground := Ground.data }, { on := 7, ground := Ground.data }, { on := 5, ground := Ground.chain }, { on := 2, ground := Ground.guard }], guard := some (2, true) }) rfl (fun K hK => ?_) AllReadyH.nil)
  (go_simp; (go_at_call 19; (refine (St.call h98r82r9 (LF.out _)).mono ?_); rintro e V3r9 ⟨rfl, h98r83r9⟩))
  refine hK.out _ _ ?_ (fun hHeld => ?_)
  · exact HP.out _ (h98r83r9)
  clear hK K
  try simp only [Act.put, List.setIfInBounds_toArray, List.set_cons_zero, List.set_cons_succ]
  refine wpAnyH_take (i := 9) (oi := { dst := some 102, op := Op.binOp BinOp.eql 4 (Operand.tmp 98) (Operand.tmp 101) 4, type := 4, pos := "law.go:39", after := #[{ on := 5, ground := Ground.data }, { on := 8, ground := Ground.data }, { on := 2, ground := Ground.guard }], guard := some (2, true) }) (v := ?_) rfl (by kernel_rfl) (by kernel_rfl) (by kernel_rfl) (fun _ _ _ h => h) (Or.inl ⟨by kernel_rfl, ?_⟩) (by assumption) ?_
  rotate_left 1
  focus (intro w hSw; (try dsimp only at hSw); go_simp; (try with_reducible rfl))
  try simp only [Act.put, List.setIfInBounds_toArray, List.set_cons_zero, List.set_cons_succ]
  refine wpAnyH_take (i := 10) (oi := { dst := some 103, op := Op.pick (Operand.tmp 95) (Operand.tmp 102) (Operand.const (Value.bool false)), type := 4, pos := "law.go:39", after := #[{ on := 2, ground := Ground.data }, { on := 9, ground := Ground.data }], guard := none }) (v := ?_) rfl (by kernel_rfl) (by kernel_rfl) (by kernel_rfl) (fun _ _ _ h => h) (Or.inl ⟨by kernel_rfl, ?_⟩) (by assumption) ?_
  rotate_left 1
  focus (intro w hSw; (try dsimp only at hSw); go_simp; (try with_reducible rfl))
  try simp only [Act.put, List.setIfInBounds_toArray, List.set_cons_zero, List.set_cons_succ]
  refine wpAnyH_take (i := 11) (oi := { dst := some 104, op := Op.move (Operand.tmp 103), type := 4, pos := "law.go:39", after := #[{ on := 10, ground := Ground.data }, { on := 8, ground := Ground.chain }], guard := none }) (v := ?_) rfl (by kernel_rfl) (by kernel_rfl) (by kernel_rfl) (fun _ _ _ h => h) (Or.inl ⟨by kernel_rfl, ?_⟩) (by assumption) ?_
  rotate_left 1
  focus (intro w hSw; (try dsimp only at hSw); go_simp; (try with_reducible rfl))
  try simp only [Act.put, List.setIfInBounds_toArray, List.set_cons_zero, List.set_cons_succ]
  refine wpAnyH_take (i := 12) (oi := { dst := some 105, op := Op.load 23 (Operand.tmp 10), type := 23, pos := "law.go:39", after := #[{ on := 11, ground := Ground.guard }], guard := some (11, true) }) (v := ?_) rfl (by kernel_rfl) (by kernel_rfl) (by kernel_rfl) (fun _ _ _ h => h) (Or.inl ⟨by kernel_rfl, ?_⟩) (by assumption) ?_
  rotate_left 1
  focus (intro w hSw; (try dsimp only at hSw); go_simp; (try with_reducible rfl))
  try simp only [Act.put, List.setIfInBounds_toArray, List.set_cons_zero, List.set_cons_succ]
  refine wpAnyH_take (i := 13) (oi := { dst := some 106, op := Op.load 23 (Operand.tmp 13), type := 23, pos := "law.go:39", after := #[{ on := 11, ground := Ground.guard }], guard := some (11, true) }) (v := ?_) rfl (by kernel_rfl) (by kernel_rfl) (by kernel_rfl) (fun _ _ _ h => h) (Or.inl ⟨by kernel_rfl, ?_⟩) (by assumption) ?_
  rotate_left 1
  focus (intro w hSw; (try dsimp only at hSw); go_simp; (try with_reducible rfl))
  try simp only [Act.put, List.setIfInBounds_toArray, List.set_cons_zero, List.set_cons_succ]
  refine wpAnyH_ready (rs := [14]) (by kernel_rfl) (by simp) (AllReadyH.cons (o := { dst := some 107, op := Op.call { callee := Callee.value (Operand.func 18), args := #[Operand.tmp 105, Operand.tmp 106], argTypes := #[23, 23] }, type := 4, pos := "law.go:39", after := #[{ on := 12, ground := Ground.data }, { on := 13, ground := Ground.data }, { on := 11, ground := Ground.chain }, { on := 11, ground := Ground.guard }], guard := some (11, true) }) rfl (fun K hK => ?_) AllReadyH.nil)
  (go_simp; (go_at_call 18; (refine (St.call h98r83r9 (LG.out _)).mono ?_); rintro e V4r9 ⟨rfl, h98r84r9⟩))
  refine hK.out _ _ ?_ (fun hHeld => ?_)
  · exact HP.out _ (h98r84r9)
  clear hK K
  try simp only [Act.put, List.setIfInBounds_toArray, List.set_cons_zero, List.set_cons_succ]
  refine wpAnyH_take (i := 15) (oi := { dst := some 108, op := Op.pick (Operand.tmp 104) (Operand.tmp 107) (Operand.const (Value.bool false)), type := 4, pos := "law.go:39", after := #[{ on := 11, ground := Ground.data }, { on := 14, ground := Ground.data }], guard := none }) (v := ?_) rfl (by kernel_rfl) (by kernel_rfl) (by kernel_rfl) (fun _ _ _ h => h) (Or.inl ⟨by kernel_rfl, ?_⟩) (by assumption) ?_
  rotate_left 1
  focus (intro w hSw; (try dsimp only at hSw); go_simp; (try with_reducible rfl))
  try simp only [Act.put, List.setIfInBounds_toArray, List.set_cons_zero, List.set_cons_succ]
  refine wpAnyH_take (i := 16) (oi := { dst := some 109, op := Op.move (Operand.tmp 108), type := 4, pos := "law.go:39", after := #[{ on := 15, ground := Ground.data }, { on := 14, ground := Ground.chain }], guard := none }) (v := ?_) rfl (by kernel_rfl) (by kernel_rfl) (by kernel_rfl) (fun _ _ _ h => h) (Or.inl ⟨by kernel_rfl, ?_⟩) (by assumption) ?_
  rotate_left 1
  focus (intro w hSw; (try dsimp only at hSw); go_simp; (try with_reducible rfl))
  try simp only [Act.put, List.setIfInBounds_toArray, List.set_cons_zero, List.set_cons_succ]
  refine wpAnyH_take (i := 17) (oi := { dst := some 110, op := Op.load 23 (Operand.tmp 13), type := 23, pos := "law.go:39", after := #[{ on := 16, ground := Ground.guard }], guard := some (16, true) }) (v := ?_) rfl (by kernel_rfl) (by kernel_rfl) (by kernel_rfl) (fun _ _ _ h => h) (Or.inl ⟨by kernel_rfl, ?_⟩) (by assumption) ?_
  rotate_left 1
  focus (intro w hSw; (try dsimp only at hSw); go_simp; (try with_reducible rfl))
  try simp only [Act.put, List.setIfInBounds_toArray, List.set_cons_zero, List.set_cons_succ]
  refine wpAnyH_take (i := 19) (oi := { dst := some 112, op := Op.load 23 (Operand.tmp 10), type := 23, pos := "law.go:39", after := #[{ on := 16, ground := Ground.guard }], guard := some (16, true) }) (v := ?_) rfl (by kernel_rfl) (by kernel_rfl) (by kernel_rfl) (fun _ _ _ h => h) (Or.inl ⟨by kernel_rfl, ?_⟩) (by assumption) ?_
  rotate_left 1
  focus (intro w hSw; (try dsimp only at hSw); go_simp; (try with_reducible rfl))
  try simp only [Act.put, List.setIfInBounds_toArray, List.set_cons_zero, List.set_cons_succ]
  refine wpAnyH_ready (rs := [18]) (by kernel_rfl) (by simp) (AllReadyH.cons (o := { dst := some 111, op := Op.call { callee := Callee.value (Operand.func 20), args := #[Operand.tmp 110], argTypes := #[23] }, type := 23, pos := "law.go:39", after := #[{ on := 17, ground := Ground.data }, { on := 16, ground := Ground.chain }, { on := 16, ground := Ground.guard }], guard := some (16, true) }) rfl (fun K hK => ?_) AllReadyH.nil)
  (go_simp; (go_at_call 20; (refine (St.call h98r84r9 (LZ.out _)).mono ?_); rintro e V5r9 ⟨rfl, h98r85r9⟩))
  refine hK.out _ _ ?_ (fun hHeld => ?_)
  · exact HP.out _ (h98r85r9)
  clear hK K
  try simp only [Act.put, List.setIfInBounds_toArray, List.set_cons_zero, List.set_cons_succ]
  refine wpAnyH_ready (rs := [20]) (by kernel_rfl) (by simp) (AllReadyH.cons (o := { dst := some 113, op := Op.call { callee := Callee.value (Operand.func 20), args := #[Operand.tmp 112], argTypes := #[23] }, type := 23, pos := "law.go:39", after := #[{ on := 19, ground := Ground.data }, { on := 18, ground := Ground.chain }, { on := 16, ground := Ground.guard }], guard := some (16, true) }) rfl (fun K hK => ?_) AllReadyH.nil)
  (go_simp; (go_at_call 20; (refine (St.call h98r85r9 (LX.out _)).mono ?_); rintro e V6r9 ⟨rfl, h98r86r9⟩))
  refine hK.out _ _ ?_ (fun hHeld => ?_)
  · exact HP.out _ (h98r86r9)
  clear hK K
  try simp only [Act.put, List.setIfInBounds_toArray, List.set_cons_zero, List.set_cons_succ]
  refine wpAnyH_take (i := 21) (oi := { dst := some 114, op := Op.binOp BinOp.eql 23 (Operand.tmp 111) (Operand.tmp 113) 23, type := 4, pos := "law.go:39", after := #[{ on := 18, ground := Ground.data }, { on := 20, ground := Ground.data }, { on := 16, ground := Ground.guard }], guard := some (16, true) }) (v := ?_) rfl (by kernel_rfl) (by kernel_rfl) (by kernel_rfl) (fun _ _ _ h => h) (Or.inl ⟨by kernel_rfl, ?_⟩) (by assumption) ?_
  rotate_left 1
  focus (intro w hSw; (try dsimp only at hSw); go_simp; (try with_reducible rfl))
  try simp only [Act.put, List.setIfInBounds_toArray, List.set_cons_zero, List.set_cons_succ]
  refine wpAnyH_take (i := 22) (oi := { dst := some 115, op := Op.pick (Operand.tmp 109) (Operand.tmp 114) (Operand.const (Value.bool false)), type := 4, pos := "law.go:39", after := #[{ on := 16, ground := Ground.data }, { on := 21, ground := Ground.data }], guard := none }) (v := ?_) rfl (by kernel_rfl) (by kernel_rfl) (by kernel_rfl) (fun _ _ _ h => h) (Or.inl ⟨by kernel_rfl, ?_⟩) (by assumption) ?_
  rotate_left 1
  focus (intro w hSw; (try dsimp only at hSw); go_simp; (try with_reducible rfl))
  try simp only [Act.put, List.setIfInBounds_toArray, List.set_cons_zero, List.set_cons_succ]
  refine wpAnyH_take (i := 23) (oi := { dst := some 116, op := Op.move (Operand.tmp 115), type := 4, pos := "law.go:39", after := #[{ on := 22, ground := Ground.data }, { on := 20, ground := Ground.chain }], guard := none }) (v := ?_) rfl (by kernel_rfl) (by kernel_rfl) (by kernel_rfl) (fun _ _ _ h => h) (Or.inl ⟨by kernel_rfl, ?_⟩) (by assumption) ?_
  rotate_left 1
  focus (intro w hSw; (try dsimp only at hSw); go_simp; (try with_reducible rfl))
  try simp only [Act.put, List.setIfInBounds_toArray, List.set_cons_zero, List.set_cons_succ]
  refine wpAnyH_take (i := 24) (oi := { dst := some 117, op := Op.load 23 (Operand.tmp 13), type := 23, pos := "law.go:39", after := #[{ on := 23, ground := Ground.guard }], guard := some (23, true) }) (v := ?_) rfl (by kernel_rfl) (by kernel_rfl) (by kernel_rfl) (fun _ _ _ h => h) (Or.inl ⟨by kernel_rfl, ?_⟩) (by assumption) ?_
  rotate_left 1
  focus (intro w hSw; (try dsimp only at hSw); go_simp; (try with_reducible rfl))
  try simp only [Act.put, List.setIfInBounds_toArray, List.set_cons_zero, List.set_cons_succ]
  refine wpAnyH_take (i := 26) (oi := { dst := some 119, op := Op.load 23 (Operand.tmp 13), type := 23, pos := "law.go:39", after := #[{ on := 23, ground := Ground.guard }], guard := some (23, true) }) (v := ?_) rfl (by kernel_rfl) (by kernel_rfl) (by kernel_rfl) (fun _ _ _ h => h) (Or.inl ⟨by kernel_rfl, ?_⟩) (by assumption) ?_
  rotate_left 1
  focus (intro w hSw; (try dsimp only at hSw); go_simp; (try with_reducible rfl))
  try simp only [Act.put, List.setIfInBounds_toArray, List.set_cons_zero, List.set_cons_succ]
  refine wpAnyH_ready (rs := [25]) (by kernel_rfl) (by simp) (AllReadyH.cons (o := { dst := some 118, op := Op.call { callee := Callee.value (Operand.func 20), args := #[Operand.tmp 117], argTypes := #[23] }, type := 23, pos := "law.go:39", after := #[{ on := 24, ground := Ground.data }, { on := 23, ground := Ground.chain }, { on := 23, ground := Ground.guard }], guard := some (23, true) }) rfl (fun K hK => ?_) AllReadyH.nil)
  (go_simp; (go_at_call 20; (refine (St.call h98r86r9 (LZ.out _)).mono ?_); rintro e V7r9 ⟨rfl, h98r87r9⟩))
  refine hK.out _ _ ?_ (fun hHeld => ?_)
  · exact HP.out _ (h98r87r9)
  clear hK K
  try simp only [Act.put, List.setIfInBounds_toArray, List.set_cons_zero, List.set_cons_succ]
  refine wpAnyH_ready (rs := [27]) (by kernel_rfl) (by simp) (AllReadyH.cons (o := { dst := some 120, op := Op.call { callee := Callee.value (Operand.func 21), args := #[Operand.tmp 119], argTypes := #[23] }, type := 23, pos := "law.go:39", after := #[{ on := 26, ground := Ground.data }, { on := 25, ground := Ground.chain }, { on := 23, ground := Ground.guard }], guard := some (23, true) }) rfl (fun K hK => ?_) AllReadyH.nil)
  (go_simp; (go_at_call 21; (refine (St.call h98r87r9 (LY.out _)).mono ?_); rintro e V8r9 ⟨rfl, h98r88r9⟩))
  refine hK.out _ _ ?_ (fun hHeld => ?_)
  · exact HP.out _ (h98r88r9)
  clear hK K
  try simp only [Act.put, List.setIfInBounds_toArray, List.set_cons_zero, List.set_cons_succ]
  refine wpAnyH_take (i := 28) (oi := { dst := some 121, op := Op.binOp BinOp.eql 23 (Operand.tmp 118) (Operand.tmp 120) 23, type := 4, pos := "law.go:39", after := #[{ on := 25, ground := Ground.data }, { on := 27, ground := Ground.data }, { on := 23, ground := Ground.guard }], guard := some (23, true) }) (v := ?_) rfl (by kernel_rfl) (by kernel_rfl) (by kernel_rfl) (fun _ _ _ h => h) (Or.inl ⟨by kernel_rfl, ?_⟩) (by assumption) ?_
  rotate_left 1
  focus (intro w hSw; (try dsimp only at hSw); go_simp; (try with_reducible rfl))
  try simp only [Act.put, List.setIfInBounds_toArray, List.set_cons_zero, List.set_cons_succ]
  refine wpAnyH_take (i := 29) (oi := { dst := some 122, op := Op.pick (Operand.tmp 116) (Operand.tmp 121) (Operand.const (Value.bool false)), type := 4, pos := "law.go:39", after := #[{ on := 23, ground := Ground.data }, { on := 28, ground := Ground.data }], guard := none }) (v := ?_) rfl (by kernel_rfl) (by kernel_rfl) (by kernel_rfl) (fun _ _ _ h => h) (Or.inl ⟨by kernel_rfl, ?_⟩) (by assumption) ?_
  rotate_left 1
  focus (intro w hSw; (try dsimp only at hSw); go_simp; (try with_reducible rfl))
  try simp only [Act.put, List.setIfInBounds_toArray, List.set_cons_zero, List.set_cons_succ]
  refine wpAnyH_take (i := 30) (oi := { dst := some 15, op := Op.assign (Operand.tmp 122), type := 4, pos := "law.go:39", after := #[{ on := 29, ground := Ground.data }, { on := 27, ground := Ground.chain }, { on := 0, ground := Ground.phase }, { on := 1, ground := Ground.phase }, { on := 2, ground := Ground.phase }, { on := 3, ground := Ground.phase }, { on := 4, ground := Ground.phase }, { on := 5, ground := Ground.phase }, { on := 6, ground := Ground.phase }, { on := 7, ground := Ground.phase }, { on := 8, ground := Ground.phase }, { on := 9, ground := Ground.phase }, { on := 10, ground := Ground.phase }, { on := 11, ground := Ground.phase }, { on := 12, ground := Ground.phase }, { on := 13, ground := Ground.phase }, { on := 14, ground := Ground.phase }, { on := 15, ground := Ground.phase }, { on := 16, ground := Ground.phase }, { on := 17, ground := Ground.phase }, { on := 18, ground := Ground.phase }, { on := 19, ground := Ground.phase }, { on := 20, ground := Ground.phase }, { on := 21, ground := Ground.phase }, { on := 22, ground := Ground.phase }, { on := 23, ground := Ground.phase }, { on := 24, ground := Ground.phase }, { on := 25, ground := Ground.phase }, { on := 26, ground := Ground.phase }, { on := 27, ground := Ground.phase }, { on := 28, ground := Ground.phase }, { on := 29, ground := Ground.phase }], guard := none }) (v := ?_) rfl (by kernel_rfl) (by kernel_rfl) (by kernel_rfl) (fun _ _ _ h => h) (Or.inl ⟨by kernel_rfl, ?_⟩) (by assumption) ?_
  rotate_left 1
  focus (intro w hSw; (try dsimp only at hSw); go_simp; (try with_reducible rfl))
  try simp only [Act.put, List.setIfInBounds_toArray, List.set_cons_zero, List.set_cons_succ]
  refine wpAnyH_done (by kernel_rfl) ?_ _
  have h80 := h98r88r9
  go_wp2_with (first | (go_at_call 24; (with_reducible refine (St.call h80 (ident_any _)).mono ?_); rintro en w81 ⟨rfl, h81⟩) | (go_at_call 22; (with_reducible refine (St.call h81 (shift_any 0 0 _)).mono ?_); rintro en w82 ⟨rfl, h82⟩))
  go_ret
  subst hb0
  exact ⟨rfl, h82.below⟩

set_option maxRecDepth 100000 in
theorem lifted (os : Os) (started : os.Started) (H : Type) (enc : TypeId × Value → H) :
    ReturnsInHanded {} Try.checked os 3 .any (Rows.affineBuildsSpec.pre6 enc Try.prog Try.f3 Rows.affineBuildsRow.domain false) (Rows.affineBuildsSpec.post enc Try.prog Try.f3 false true false false) := by
  refine returnsInHanded_of_change_sized (C := Try.checked) own started (by kernel_rfl) Try.func3
    (ChangeSpec.witness6 (enc := enc) (C := Try.checked) false ⟨#[], #[.agg #[.int .i64 0, .int .i64 0, .int .i64 0, .int .i64 0, .int .i64 0, .int .i64 0, .int .i64 0, .int .i64 0, .int .i64 0, .int .i64 0, .int .i64 0, .int .i64 0, .int .i64 0, .int .i64 0], .agg #[.int .i64 0, .int .i64 0, .int .i64 0, .int .i64 0, .int .i64 0, .int .i64 0, .int .i64 0, .int .i64 0, .int .i64 0, .int .i64 0, .int .i64 0, .int .i64 0, .int .i64 0, .int .i64 0], .int .i64 0], []⟩ 8 (by kernel_rfl) (by kernel_rfl) (by kernel_rfl) (by kernel_rfl)) ?_
  intro W base args ds gs before hval0 hW _ _ _
  have hval : ∀ (j : Nat) t v, Try.f3.params[j]? = some t → args[j]? = some v → Value.okWide Try.prog W .any base t v := hval0
  have hW' := hW
  obtain ⟨p, q, hA0, hV, rfl, hfz, hnd⟩ := hW
  have hA : DataW.TrodAll enc Try.prog W 0 (fun _ => true) true Try.f3.params.toList args.toList ds p := hA0
  rw [Try.params3] at hA hval
  obtain ⟨v0, v1, v2, d0, d1, d2, p0, p1, p2, rfl, rfl, rfl, h0, h1, h2⟩ := trodAll_three hA
  obtain ⟨rfl, rfl⟩ := trodVars_none hV
  obtain ⟨p0, p1, p2, p3, p4, p5, p6, p7, p8, p9, p10, p11, p12, p13, rfl⟩ := op_gouachelaw09_Pair (hval 0 25 v0 rfl rfl)
  obtain ⟨q0, q1, q2, q3, q4, q5, q6, q7, q8, q9, q10, q11, q12, q13, rfl⟩ := op__2__7_int (hval 1 27 v1 rfl rfl)
  obtain ⟨k, rfl, rfl, rfl, _⟩ := open_int Try.underlying3 (hval 2 3 v2 rfl rfl) h2
  refine (walk p0 p1 p2 p3 p4 p5 p6 p7 p8 p9 p10 p11 p12 p13 q0 q1 q2 q3 q4 q5 q6 q7 q8 q9 q10 q11 q12 q13 k W).mono fun en W' ⟨he, hb⟩ => ?_
  subst he
  exact ⟨_, rfl, law_post hW' rfl (by kernel_rfl) rfl (by intro t ht; rw [Try.params3] at ht; simp at ht; rcases ht with rfl | rfl | rfl <;> exact ⟨by kernel_rfl, of_decide_eq_true (by kernel_rfl)⟩) hb⟩

theorem holds : Rows.AffineBuildsSaid :=
  OpenClaim.holds_of_wide 3 Try.f3 rfl rfl rfl rfl rfl rfl rfl ⟨rfl, rfl, rfl, rfl, rfl⟩ rfl rfl rfl rfl rfl (by kernel_rfl) Try.func3 (by kernel_rfl)
    (of_decide_eq_true (by kernel_rfl)) (by unfold Func.isWrapper; first | (rw [if_pos (by decide +kernel)]; kernel_rfl) | (rw [if_neg (by decide +kernel)]; exact ⟨rfl, rfl⟩))
    (fun os started H enc _ => lifted os started H enc)
end Go.Proofs.Ytfjbcjhbaenjcaa.F.ALBuilds
