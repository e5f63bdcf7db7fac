/-
  AffineBounds: for all small placements and rectangles, every pixel whose source lies in the rectangle lies in Bounds. No conditions.
-/
import Derived.Test.YtfjbcjhbaenjcaaAOpen
import Derived.Test.YtfjbcjhbaenjcaaAGeo
namespace Go.Proofs.Ytfjbcjhbaenjcaa.F.ALBounds
open Go.ChangeShapes Go.WideShapes Go.ChangeAt Go.RowKit
set_option maxRecDepth 100000

theorem zero_pt (w : World) : (zeroValue 49).run Try.prog w = .ok (tv 0 0) w := by kernel_rfl
theorem sml_lim (a b c d : Int) : (-20 ≤ (sml a b c d).x0 ∧ (sml a b c d).x0 ≤ 20) ∧ (-20 ≤ (sml a b c d).y0 ∧ (sml a b c d).y0 ≤ 20) ∧ ((sml a b c d).x0 ≤ (sml a b c d).x1 ∧ (sml a b c d).x1 ≤ (sml a b c d).x0 + 39) ∧ ((sml a b c d).y0 ≤ (sml a b c d).y1 ∧ (sml a b c d).y1 ≤ (sml a b c d).y0 + 39) := by
  unfold sml; simp only; omega
theorem chk_small {a : Af} {r0 r1 r2 r3 : Int} (h : Ok a) (hl : (-20 ≤ r0 ∧ r0 ≤ 20) ∧ (-20 ≤ r1 ∧ r1 ≤ 20) ∧ (r0 ≤ r2 ∧ r2 ≤ r0 + 39) ∧ (r1 ≤ r3 ∧ r3 ≤ r1 + 39)) : chkE a r0 r1 r2 r3 = 0 := by
  unfold chkE
  rw [if_pos]
  rw [(okA_iff _).2 h, Bool.true_and]
  cases he : emp r0 r1 r2 r3
  · rw [Bool.false_or]; unfold vld; rw [he, Bool.not_false, Bool.true_and, ins_iff]; omega
  · rfl
theorem bounds_facts {a : Af} {r0 r1 r2 r3 : Int} (h : Ok a) (hl : (-20 ≤ r0 ∧ r0 ≤ 20) ∧ (-20 ≤ r1 ∧ r1 ≤ 20) ∧ (r0 ≤ r2 ∧ r2 ≤ r0 + 39) ∧ (r1 ≤ r3 ∧ r3 ≤ r1 + 39)) :
    ∃ g0 g1 g2 g3, boundsT a r0 r1 r2 r3 = ⟨g0, g1, g2, g3, 0⟩ ∧ (-65536 ≤ g0 ∧ g0 ≤ 65536) ∧ (-65536 ≤ g1 ∧ g1 ≤ 65536) ∧ (-65536 ≤ g2 ∧ g2 ≤ 65536) ∧ (-65536 ≤ g3 ∧ g3 ≤ 65536) ∧
      ∀ px py, (srcT a px py).e = 0 → has r0 r1 r2 r3 (srcT a px py).x (srcT a px py).y = true → has g0 g1 g2 g3 px py = true := by
  unfold boundsT
  rw [if_pos (chk_small h hl)]
  by_cases he : emp r0 r1 r2 r3 = true
  · rw [if_pos he]
    refine ⟨_, _, _, _, rfl, by omega, by omega, by omega, by omega, fun px py _ hh => ?_⟩
    have h1 := (emp_iff _ _ _ _).1 he
    have h2 := (has_iff _ _ _ _ _ _).1 hh
    omega
  · rw [if_neg he]
    have hb : ∀ c, (c = (bndR a r0 r1 r2 r3).x0 ∨ c = (bndR a r0 r1 r2 r3).y0 ∨ c = (bndR a r0 r1 r2 r3).x1 ∨ c = (bndR a r0 r1 r2 r3).y1) → -65536 ≤ c ∧ c ≤ 65536 := by
      unfold bndR
      generalize fCe (bl0 a r0 r1 r2 r3) a.n = f0
      generalize fCe (bl1 a r0 r1 r2 r3) a.n = f1
      generalize lCe (bl2 a r0 r1 r2 r3) a.n + 1 = f2
      generalize lCe (bl3 a r0 r1 r2 r3) a.n + 1 = f3
      intro c hc
      by_cases hz : mx f0 (-65536) < mn f2 65536 ∧ mx f1 (-65536) < mn f3 65536
      · rw [nrm_pos hz] at hc
        simp only [mx_eq, mn_eq] at hc hz
        omega
      · rw [nrm_zero (by omega)] at hc
        simp only at hc
        omega
    refine ⟨_, _, _, _, rfl, hb _ (.inl rfl), hb _ (.inr (.inl rfl)), hb _ (.inr (.inr (.inl rfl))), hb _ (.inr (.inr (.inr rfl))), fun px py h0 hh => ?_⟩
    unfold srcT at h0 hh
    by_cases hc : (okA a && inC px py) = true
    · rw [if_pos hc] at hh
      rw [Bool.and_eq_true] at hc
      exact bounds_has h hc.2 hh
    · rw [if_neg hc] at h0; cases h0

set_option maxHeartbeats 8000000 in
set_option maxRecDepth 100000 in
theorem walk (q0 q1 q2 q3 q4 q5 q6 n0 n1 n2 n3 m0 m1 : Int) (w : World) : Calls Try.prog 10 #[.agg #[.int .i64 q0, .int .i64 q1, .int .i64 q2, .int .i64 q3, .int .i64 q4, .int .i64 q5, .int .i64 q6], .agg #[.int .i64 n0, .int .i64 n1, .int .i64 n2, .int .i64 n3], .agg #[.int .i64 m0, .int .i64 m1]] w fun en w' => en = .returned (.bool true) ∧ Below w.heap.size w w' := by
  obtain ⟨s0, s1, s2, s3, s4, s5, s6, hsm⟩ : ∃ s0 s1 s2 s3 s4 s5 s6, sm7 q0 q1 q2 q3 q4 q5 q6 = ⟨s0, s1, s2, s3, s4, s5, s6⟩ := ⟨_, _, _, _, _, _, _, rfl⟩
  have hsl := sm7_sl q0 q1 q2 q3 q4 q5 q6
  rw [hsm] at hsl
  have HSM : Hid (∀ W, Calls Try.prog 14 #[.agg #[.int .i64 q0, .int .i64 q1, .int .i64 q2, .int .i64 q3, .int .i64 q4, .int .i64 q5, .int .i64 q6]] W fun en w' => en = .returned (av s0 s1 s2 s3 s4 s5 s6) ∧ Below W.heap.size W w') := fun W => by
    have := sm7_any q0 q1 q2 q3 q4 q5 q6 W; rw [hsm] at this; exact this
  clear hsm
  have hok : Ok ⟨s0, s1, s2, s3, s4, s5, s6⟩ := ⟨sl_bd hsl.1, hsl.2⟩
  obtain ⟨r0, r1, r2, r3, hrr⟩ : ∃ r0 r1 r2 r3, sml n0 n1 n2 n3 = ⟨r0, r1, r2, r3⟩ := ⟨_, _, _, _, rfl⟩
  have hrl := sml_lim n0 n1 n2 n3
  rw [hrr] at hrl
  simp only at hrl
  have HRS : Hid (∀ W, Calls Try.prog 29 #[.agg #[.int .i64 n0, .int .i64 n1, .int .i64 n2, .int .i64 n3]] W fun en w' => en = .returned (rv r0 r1 r2 r3) ∧ Below W.heap.size W w') := fun W => by
    have := small_any n0 n1 n2 n3 W; rw [hrr] at this; exact this
  obtain ⟨g0, g1, g2, g3, hg, i0, i1, i2, i3, hall⟩ := bounds_facts hok hrl
  have HB : Hid (∀ W, Calls Try.prog 32 #[av s0 s1 s2 s3 s4 s5 s6, rv r0 r1 r2 r3] W fun en w' => en = .returned (.tuple #[rv g0 g1 g2 g3, .int .i64 0]) ∧ Below W.heap.size W w') := fun W => by
    have := boundsT_any s0 s1 s2 s3 s4 s5 s6 r0 r1 r2 r3 W; rw [hg] at this; exact this
  have ub0 : 1 ≤ mx 1 (g2 - g0 + 6) ∧ mx 1 (g2 - g0 + 6) ≤ 200000 := by simp only [mx_eq]; omega
  have HM0 : Hid (∀ W, Calls Try.prog 15 #[.int .i64 m0, .int .i64 (mx 1 (g2 - g0 + 6))] W fun en w' => en = .returned (.int .i64 (m0 % mx 1 (g2 - g0 + 6))) ∧ Below W.heap.size W w') := fun W => lrest_any _ _ W ub0.1 (by omega)
  have eb0 : 0 ≤ m0 % mx 1 (g2 - g0 + 6) ∧ m0 % mx 1 (g2 - g0 + 6) < 200000 := ⟨Int.emod_nonneg _ (by omega), by have := Int.emod_lt_of_pos m0 (show 0 < mx 1 (g2 - g0 + 6) by omega); omega⟩
  generalize m0 % mx 1 (g2 - g0 + 6) = e0 at HM0 eb0
  obtain ⟨px, hpx⟩ : ∃ z, g0 - 3 + e0 = z := ⟨_, rfl⟩
  have u01 : IntKind.i64.wrap (g0 - 3) = g0 - 3 := wI64 ⟨by omega, by omega⟩
  have u02 : IntKind.i64.wrap (g2 - g0) = g2 - g0 := wI64 ⟨by omega, by omega⟩
  have u03 : IntKind.i64.wrap (g2 - g0 + 6) = g2 - g0 + 6 := wI64 ⟨by omega, by omega⟩
  have u04 : IntKind.i64.wrap (g0 - 3 + e0) = px := by rw [hpx]; exact wI64 ⟨by omega, by omega⟩
  have ub1 : 1 ≤ mx 1 (g3 - g1 + 6) ∧ mx 1 (g3 - g1 + 6) ≤ 200000 := by simp only [mx_eq]; omega
  have HM1 : Hid (∀ W, Calls Try.prog 15 #[.int .i64 m1, .int .i64 (mx 1 (g3 - g1 + 6))] W fun en w' => en = .returned (.int .i64 (m1 % mx 1 (g3 - g1 + 6))) ∧ Below W.heap.size W w') := fun W => lrest_any _ _ W ub1.1 (by omega)
  have eb1 : 0 ≤ m1 % mx 1 (g3 - g1 + 6) ∧ m1 % mx 1 (g3 - g1 + 6) < 200000 := ⟨Int.emod_nonneg _ (by omega), by have := Int.emod_lt_of_pos m1 (show 0 < mx 1 (g3 - g1 + 6) by omega); omega⟩
  generalize m1 % mx 1 (g3 - g1 + 6) = e1 at HM1 eb1
  obtain ⟨py, hpy⟩ : ∃ z, g1 - 3 + e1 = z := ⟨_, rfl⟩
  have u11 : IntKind.i64.wrap (g1 - 3) = g1 - 3 := wI64 ⟨by omega, by omega⟩
  have u12 : IntKind.i64.wrap (g3 - g1) = g3 - g1 := wI64 ⟨by omega, by omega⟩
  have u13 : IntKind.i64.wrap (g3 - g1 + 6) = g3 - g1 + 6 := wI64 ⟨by omega, by omega⟩
  have u14 : IntKind.i64.wrap (g1 - 3 + e1) = py := by rw [hpy]; exact wI64 ⟨by omega, by omega⟩
  obtain ⟨X, Y, E, hsr⟩ : ∃ X Y E, srcT ⟨s0, s1, s2, s3, s4, s5, s6⟩ px py = ⟨X, Y, E⟩ := ⟨_, _, _, rfl⟩
  have hall := hall px py
  rw [hsr] at hall
  simp only at hall
  have HS : Hid (∀ W, Calls Try.prog 30 #[av s0 s1 s2 s3 s4 s5 s6, tv px py] W fun en w' => en = .returned (.tuple #[tv X Y, .int .i64 E]) ∧ Below W.heap.size W w') := fun W => by
    have := sourceT_any s0 s1 s2 s3 s4 s5 s6 px py W; rw [hsr] at this; exact this
  have HH1 : Hid (∀ W, Calls Try.prog 37 #[rv r0 r1 r2 r3, tv X Y] W fun en w' => en = .returned (.bool (has r0 r1 r2 r3 X Y)) ∧ Below W.heap.size W w') := fun W => has_any r0 r1 r2 r3 X Y W
  have HH2 : Hid (∀ W, Calls Try.prog 37 #[rv g0 g1 g2 g3, tv px py] W fun en w' => en = .returned (.bool (has g0 g1 g2 g3 px py)) ∧ Below W.heap.size W w') := fun W => has_any g0 g1 g2 g3 px py W
  generalize has r0 r1 r2 r3 X Y = k1 at HH1 hall
  generalize has g0 g1 g2 g3 px py = k2 at HH2 hall
  have HK := Lib.hid hall
  clear hall hsr hg hrl hrr hok hsl i0 i1 i2 i3 ub0 ub1 eb0 eb1 hpx hpy
  have hmx := run_mx
  go_enter Try.func10, Try.ntmps10
  go_upto_region 1 with fail
  have h0 := ((((St.start w).alloc ((.cells #[.int .i64 q0, .int .i64 q1, .int .i64 q2, .int .i64 q3, .int .i64 q4, .int .i64 q5, .int .i64 q6] 26 : Obj))).alloc ((.cells #[.int .i64 n0, .int .i64 n1, .int .i64 n2, .int .i64 n3] 55 : Obj))).alloc ((.cells #[.int .i64 m0, .int .i64 m1] 72 : Obj)))
  try simp only [World.size_alloc] at h0
  generalize hb0 : w.heap.size = b0 at h0 ⊢
  generalize ((w.alloc ((.cells #[.int .i64 q0, .int .i64 q1, .int .i64 q2, .int .i64 q3, .int .i64 q4, .int .i64 q5, .int .i64 q6] 26 : Obj))).alloc ((.cells #[.int .i64 n0, .int .i64 n1, .int .i64 n2, .int .i64 n3] 55 : Obj))).alloc ((.cells #[.int .i64 m0, .int .i64 m1] 72 : Obj)) = w0 at h0 ⊢
  go_upto_region 2 with (first | (go_at_call 13; (with_reducible refine (St.call h0 (sane_any _)).mono ?_); rintro en w1 ⟨rfl, h1⟩))
  have zh10 := St.cell h1 (b := b0) (cs := #[.int .i64 q0, .int .i64 q1, .int .i64 q2, .int .i64 q3, .int .i64 q4, .int .i64 q5, .int .i64 q6]) (t := 26) (by simp) 0; have zh11 := St.cell h1 (b := b0) (cs := #[.int .i64 q0, .int .i64 q1, .int .i64 q2, .int .i64 q3, .int .i64 q4, .int .i64 q5, .int .i64 q6]) (t := 26) (by simp) 1; have zh12 := St.cell h1 (b := b0) (cs := #[.int .i64 q0, .int .i64 q1, .int .i64 q2, .int .i64 q3, .int .i64 q4, .int .i64 q5, .int .i64 q6]) (t := 26) (by simp) 2; have zh13 := St.cell h1 (b := b0) (cs := #[.int .i64 q0, .int .i64 q1, .int .i64 q2, .int .i64 q3, .int .i64 q4, .int .i64 q5, .int .i64 q6]) (t := 26) (by simp) 3; have zh14 := St.cell h1 (b := b0) (cs := #[.int .i64 q0, .int .i64 q1, .int .i64 q2, .int .i64 q3, .int .i64 q4, .int .i64 q5, .int .i64 q6]) (t := 26) (by simp) 4; have zh15 := St.cell h1 (b := b0) (cs := #[.int .i64 q0, .int .i64 q1, .int .i64 q2, .int .i64 q3, .int .i64 q4, .int .i64 q5, .int .i64 q6]) (t := 26) (by simp) 5; have zh16 := St.cell h1 (b := b0) (cs := #[.int .i64 q0, .int .i64 q1, .int .i64 q2, .int .i64 q3, .int .i64 q4, .int .i64 q5, .int .i64 q6]) (t := 26) (by simp) 6; simp only [List.getElem?_toArray, List.getElem?_cons_zero, List.getElem?_cons_succ] at zh10 zh11 zh12 zh13 zh14 zh15 zh16
  go_upto_region 3 with (first | (go_at_call 14; (with_reducible refine (St.call h1 (HSM.out _)).mono ?_); rintro en w2 ⟨rfl, h2⟩))
  have h3 := h2.alloc (ao s0 s1 s2 s3 s4 s5 s6)
  generalize w2.heap.size = c1 at h3 ⊢
  generalize w2.alloc (ao s0 s1 s2 s3 s4 s5 s6) = w3 at h3 ⊢
  have zh30 := St.cell h3 (b := b0 + 1) (cs := #[.int .i64 n0, .int .i64 n1, .int .i64 n2, .int .i64 n3]) (t := 55) (by simp) 0; have zh31 := St.cell h3 (b := b0 + 1) (cs := #[.int .i64 n0, .int .i64 n1, .int .i64 n2, .int .i64 n3]) (t := 55) (by simp) 1; have zh32 := St.cell h3 (b := b0 + 1) (cs := #[.int .i64 n0, .int .i64 n1, .int .i64 n2, .int .i64 n3]) (t := 55) (by simp) 2; have zh33 := St.cell h3 (b := b0 + 1) (cs := #[.int .i64 n0, .int .i64 n1, .int .i64 n2, .int .i64 n3]) (t := 55) (by simp) 3; simp only [List.getElem?_toArray, List.getElem?_cons_zero, List.getElem?_cons_succ] at zh30 zh31 zh32 zh33
  go_upto_region 4 with (first | (go_at_call 29; (with_reducible refine (St.call h3 (HRS.out _)).mono ?_); rintro en w4 ⟨rfl, h4⟩))
  have h5 := h4.alloc (ro r0 r1 r2 r3)
  generalize w4.heap.size = c2 at h5 ⊢
  generalize w4.alloc (ro r0 r1 r2 r3) = w5 at h5 ⊢
  obtain ⟨_, _, _, _, _, _, _⟩ := St.aff h5 (b := c1) (a := s0) (b' := s1) (c := s2) (d := s3) (e := s4) (f := s5) (n := s6) (by simp)
  obtain ⟨_, _, _, _⟩ := St.rect h5 (b := c2) (x0 := r0) (x1 := r1) (x2 := r2) (x3 := r3) (by simp)
  go_upto_region 5 with (first | (go_at_call 32; (with_reducible refine (St.call h5 (HB.out _)).mono ?_); rintro en w6 ⟨rfl, h6⟩))
  have h7 := h6.alloc (ro g0 g1 g2 g3)
  generalize w6.heap.size = c3 at h7 ⊢
  generalize w6.alloc (ro g0 g1 g2 g3) = w7 at h7 ⊢
  have HP : Hid (∀ V9, St w [(c3, ro g0 g1 g2 g3), (c2, ro r0 r1 r2 r3), (c1, ao s0 s1 s2 s3 s4 s5 s6), (b0 + 1 + 1, (.cells #[.int .i64 m0, .int .i64 m1] 72 : Obj)), (b0 + 1, (.cells #[.int .i64 n0, .int .i64 n1, .int .i64 n2, .int .i64 n3] 55 : Obj)), (b0, (.cells #[.int .i64 q0, .int .i64 q1, .int .i64 q2, .int .i64 q3, .int .i64 q4, .int .i64 q5, .int .i64 q6] 26 : Obj))] V9 → St w [(c3, ro g0 g1 g2 g3), (c2, ro r0 r1 r2 r3), (c1, ao s0 s1 s2 s3 s4 s5 s6), (b0 + 1 + 1, (.cells #[.int .i64 m0, .int .i64 m1] 72 : Obj)), (b0 + 1, (.cells #[.int .i64 n0, .int .i64 n1, .int .i64 n2, .int .i64 n3] 55 : Obj)), (b0, (.cells #[.int .i64 q0, .int .i64 q1, .int .i64 q2, .int .i64 q3, .int .i64 q4, .int .i64 q5, .int .i64 q6] 26 : Obj))] V9 ∧ RB V9 c3 g0 g1 g2 g3 ∧ V9.cell? ⟨b0 + 1 + 1, 0, none⟩ = some (.int .i64 m0) ∧ V9.cell? ⟨b0 + 1 + 1, 1, none⟩ = some (.int .i64 m1)) := fun V hV => ⟨hV, St.rect hV (by simp), hV.cell (b := b0 + 1 + 1) (cs := #[.int .i64 m0, .int .i64 m1]) (t := 72) (by simp) 0, hV.cell (b := b0 + 1 + 1) (cs := #[.int .i64 m0, .int .i64 m1]) (t := 72) (by simp) 1⟩
  go_cut [12] (fun v9 wx => ∃ b9, v9 = .pointer (some ⟨b9, 0, none⟩) ∧ Hid (St w ((b9, pob px py) :: [(c3, ro g0 g1 g2 g3), (c2, ro r0 r1 r2 r3), (c1, ao s0 s1 s2 s3 s4 s5 s6), (b0 + 1 + 1, (.cells #[.int .i64 m0, .int .i64 m1] 72 : Obj)), (b0 + 1, (.cells #[.int .i64 n0, .int .i64 n1, .int .i64 n2, .int .i64 n3] 55 : Obj)), (b0, (.cells #[.int .i64 q0, .int .i64 q1, .int .i64 q2, .int .i64 q3, .int .i64 q4, .int .i64 q5, .int .i64 q6] 26 : Obj))]) wx))
  case first =>
    refine wp_region_held_drew (S := fun V9 => St w [(c3, ro g0 g1 g2 g3), (c2, ro r0 r1 r2 r3), (c1, ao s0 s1 s2 s3 s4 s5 s6), (b0 + 1 + 1, (.cells #[.int .i64 m0, .int .i64 m1] 72 : Obj)), (b0 + 1, (.cells #[.int .i64 n0, .int .i64 n1, .int .i64 n2, .int .i64 n3] 55 : Obj)), (b0, (.cells #[.int .i64 q0, .int .i64 q1, .int .i64 q2, .int .i64 q3, .int .i64 q4, .int .i64 q5, .int .i64 q6] 26 : Obj))] V9 ∧ RB V9 c3 g0 g1 g2 g3 ∧ V9.cell? ⟨b0 + 1 + 1, 0, none⟩ = some (.int .i64 m0) ∧ V9.cell? ⟨b0 + 1 + 1, 1, none⟩ = some (.int .i64 m1)) (by kernel_rfl) ?_ (fun hHeld => ?_)
    · exact HP.out _ (h7.drew)
    have h70 := h7.drew
    refine wpAnyH_take (i := 0) (oi := { dst := some 26, op := Op.fieldAddr 51 (Operand.tmp 10) 0, type := 0, pos := "law.go:172", after := #[], guard := none }) (v := ?_) rfl (by kernel_rfl) (by kernel_rfl) (by kernel_rfl) (fun _ _ _ h => h) (Or.inl ⟨by kernel_rfl, ?_⟩) (by assumption) ?_
    rotate_left 1
    focus (intro w hSw; (try dsimp only at hSw); go_simp; (try with_reducible rfl))
    try simp only [Act.put, List.setIfInBounds_toArray, List.set_cons_zero, List.set_cons_succ]
    refine wpAnyH_take (i := 1) (oi := { dst := some 27, op := Op.load 3 (Operand.tmp 26), type := 3, pos := "law.go:172", after := #[{ on := 0, ground := Ground.data }], guard := none }) (v := ?_) rfl (by kernel_rfl) (by kernel_rfl) (by kernel_rfl) (fun _ _ _ h => h) (Or.inl ⟨by kernel_rfl, ?_⟩) (by assumption) ?_
    rotate_left 1
    focus (intro w hSw; (try dsimp only at hSw); go_simp; (try with_reducible rfl))
    try simp only [Act.put, List.setIfInBounds_toArray, List.set_cons_zero, List.set_cons_succ]
    refine wpAnyH_take (i := 2) (oi := { dst := some 28, op := Op.binOp BinOp.sub 3 (Operand.tmp 27) (Operand.const (Value.int IntKind.i64 3)) 3, type := 3, pos := "law.go:172", after := #[{ on := 1, ground := Ground.data }], guard := none }) (v := ?_) rfl (by kernel_rfl) (by kernel_rfl) (by kernel_rfl) (fun _ _ _ h => h) (Or.inl ⟨by kernel_rfl, ?_⟩) (by assumption) ?_
    rotate_left 1
    focus (intro w hSw; (try dsimp only at hSw); go_simp; (try with_reducible rfl))
    try simp only [Act.put, List.setIfInBounds_toArray, List.set_cons_zero, List.set_cons_succ]
    refine wpAnyH_take (i := 3) (oi := { dst := some 29, op := Op.indexAddr 72 (Operand.tmp 5) (Operand.const (Value.int IntKind.i64 0)), type := 0, pos := "law.go:172", after := #[], guard := none }) (v := ?_) rfl (by kernel_rfl) (by kernel_rfl) (by kernel_rfl) (fun _ _ _ h => h) (Or.inl ⟨by kernel_rfl, ?_⟩) (by assumption) ?_
    rotate_left 1
    focus (intro w hSw; (try dsimp only at hSw); go_simp; (try with_reducible rfl))
    try simp only [Act.put, List.setIfInBounds_toArray, List.set_cons_zero, List.set_cons_succ]
    refine wpAnyH_take (i := 4) (oi := { dst := some 30, op := Op.load 3 (Operand.tmp 29), type := 3, pos := "law.go:172", after := #[{ on := 3, ground := Ground.data }], guard := none }) (v := ?_) rfl (by kernel_rfl) (by kernel_rfl) (by kernel_rfl) (fun _ _ _ h => h) (Or.inl ⟨by kernel_rfl, ?_⟩) (by assumption) ?_
    rotate_left 1
    focus (intro w hSw; (try dsimp only at hSw); go_simp; (try with_reducible rfl))
    try simp only [Act.put, List.setIfInBounds_toArray, List.set_cons_zero, List.set_cons_succ]
    refine wpAnyH_take (i := 5) (oi := { dst := some 31, op := Op.fieldAddr 51 (Operand.tmp 10) 2, type := 0, pos := "law.go:172", after := #[], guard := none }) (v := ?_) rfl (by kernel_rfl) (by kernel_rfl) (by kernel_rfl) (fun _ _ _ h => h) (Or.inl ⟨by kernel_rfl, ?_⟩) (by assumption) ?_
    rotate_left 1
    focus (intro w hSw; (try dsimp only at hSw); go_simp; (try with_reducible rfl))
    try simp only [Act.put, List.setIfInBounds_toArray, List.set_cons_zero, List.set_cons_succ]
    refine wpAnyH_take (i := 6) (oi := { dst := some 32, op := Op.load 3 (Operand.tmp 31), type := 3, pos := "law.go:172", after := #[{ on := 5, ground := Ground.data }], guard := none }) (v := ?_) rfl (by kernel_rfl) (by kernel_rfl) (by kernel_rfl) (fun _ _ _ h => h) (Or.inl ⟨by kernel_rfl, ?_⟩) (by assumption) ?_
    rotate_left 1
    focus (intro w hSw; (try dsimp only at hSw); go_simp; (try with_reducible rfl))
    try simp only [Act.put, List.setIfInBounds_toArray, List.set_cons_zero, List.set_cons_succ]
    refine wpAnyH_take (i := 7) (oi := { dst := some 33, op := Op.fieldAddr 51 (Operand.tmp 10) 0, type := 0, pos := "law.go:172", after := #[], guard := none }) (v := ?_) rfl (by kernel_rfl) (by kernel_rfl) (by kernel_rfl) (fun _ _ _ h => h) (Or.inl ⟨by kernel_rfl, ?_⟩) (by assumption) ?_
    rotate_left 1
    focus (intro w hSw; (try dsimp only at hSw); go_simp; (try with_reducible rfl))
    try simp only [Act.put, List.setIfInBounds_toArray, List.set_cons_zero, List.set_cons_succ]
    refine wpAnyH_take (i := 8) (oi := { dst := some 34, op := Op.load 3 (Operand.tmp 33), type := 3, pos := "law.go:172", after := #[{ on := 7, ground := Ground.data }], guard := none }) (v := ?_) rfl (by kernel_rfl) (by kernel_rfl) (by kernel_rfl) (fun _ _ _ h => h) (Or.inl ⟨by kernel_rfl, ?_⟩) (by assumption) ?_
    rotate_left 1
    focus (intro w hSw; (try dsimp only at hSw); go_simp; (try with_reducible rfl))
    try simp only [Act.put, List.setIfInBounds_toArray, List.set_cons_zero, List.set_cons_succ]
    refine wpAnyH_take (i := 9) (oi := { dst := some 35, op := Op.binOp BinOp.sub 3 (Operand.tmp 32) (Operand.tmp 34) 3, type := 3, pos := "law.go:172", after := #[{ on := 6, ground := Ground.data }, { on := 8, ground := Ground.data }], guard := none }) (v := ?_) rfl (by kernel_rfl) (by kernel_rfl) (by kernel_rfl) (fun _ _ _ h => h) (Or.inl ⟨by kernel_rfl, ?_⟩) (by assumption) ?_
    rotate_left 1
    focus (intro w hSw; (try dsimp only at hSw); go_simp; (try with_reducible rfl))
    try simp only [Act.put, List.setIfInBounds_toArray, List.set_cons_zero, List.set_cons_succ]
    refine wpAnyH_take (i := 10) (oi := { dst := some 36, op := Op.binOp BinOp.add 3 (Operand.tmp 35) (Operand.const (Value.int IntKind.i64 6)) 3, type := 3, pos := "law.go:172", after := #[{ on := 9, ground := Ground.data }], guard := none }) (v := ?_) rfl (by kernel_rfl) (by kernel_rfl) (by kernel_rfl) (fun _ _ _ h => h) (Or.inl ⟨by kernel_rfl, ?_⟩) (by assumption) ?_
    rotate_left 1
    focus (intro w hSw; (try dsimp only at hSw); go_simp; (try with_reducible rfl))
    try simp only [Act.put, List.setIfInBounds_toArray, List.set_cons_zero, List.set_cons_succ]
    refine wpAnyH_take (i := 11) (oi := { dst := some 37, op := Op.call { callee := Callee.builtin Builtin.max, args := #[Operand.const (Value.int IntKind.i64 1), Operand.tmp 36], argTypes := #[3, 3] }, type := 3, pos := "law.go:172", after := #[{ on := 10, ground := Ground.data }], guard := none }) (v := ?_) rfl (by kernel_rfl) (by kernel_rfl) (by kernel_rfl) (fun _ _ _ h => h) (Or.inl ⟨by kernel_rfl, ?_⟩) (by assumption) ?_
    rotate_left 1
    focus (intro w hSw; (try dsimp only at hSw); go_simp; (try with_reducible rfl))
    try simp only [Act.put, List.setIfInBounds_toArray, List.set_cons_zero, List.set_cons_succ]
    refine wpAnyH_take (i := 14) (oi := { dst := some 40, op := Op.fieldAddr 51 (Operand.tmp 10) 1, type := 0, pos := "law.go:172", after := #[], guard := none }) (v := ?_) rfl (by kernel_rfl) (by kernel_rfl) (by kernel_rfl) (fun _ _ _ h => h) (Or.inl ⟨by kernel_rfl, ?_⟩) (by assumption) ?_
    rotate_left 1
    focus (intro w hSw; (try dsimp only at hSw); go_simp; (try with_reducible rfl))
    try simp only [Act.put, List.setIfInBounds_toArray, List.set_cons_zero, List.set_cons_succ]
    refine wpAnyH_take (i := 15) (oi := { dst := some 41, op := Op.load 3 (Operand.tmp 40), type := 3, pos := "law.go:172", after := #[{ on := 14, ground := Ground.data }], guard := none }) (v := ?_) rfl (by kernel_rfl) (by kernel_rfl) (by kernel_rfl) (fun _ _ _ h => h) (Or.inl ⟨by kernel_rfl, ?_⟩) (by assumption) ?_
    rotate_left 1
    focus (intro w hSw; (try dsimp only at hSw); go_simp; (try with_reducible rfl))
    try simp only [Act.put, List.setIfInBounds_toArray, List.set_cons_zero, List.set_cons_succ]
    refine wpAnyH_take (i := 16) (oi := { dst := some 42, op := Op.binOp BinOp.sub 3 (Operand.tmp 41) (Operand.const (Value.int IntKind.i64 3)) 3, type := 3, pos := "law.go:172", after := #[{ on := 15, ground := Ground.data }], guard := none }) (v := ?_) rfl (by kernel_rfl) (by kernel_rfl) (by kernel_rfl) (fun _ _ _ h => h) (Or.inl ⟨by kernel_rfl, ?_⟩) (by assumption) ?_
    rotate_left 1
    focus (intro w hSw; (try dsimp only at hSw); go_simp; (try with_reducible rfl))
    try simp only [Act.put, List.setIfInBounds_toArray, List.set_cons_zero, List.set_cons_succ]
    refine wpAnyH_take (i := 17) (oi := { dst := some 43, op := Op.indexAddr 72 (Operand.tmp 5) (Operand.const (Value.int IntKind.i64 1)), type := 0, pos := "law.go:172", after := #[], guard := none }) (v := ?_) rfl (by kernel_rfl) (by kernel_rfl) (by kernel_rfl) (fun _ _ _ h => h) (Or.inl ⟨by kernel_rfl, ?_⟩) (by assumption) ?_
    rotate_left 1
    focus (intro w hSw; (try dsimp only at hSw); go_simp; (try with_reducible rfl))
    try simp only [Act.put, List.setIfInBounds_toArray, List.set_cons_zero, List.set_cons_succ]
    refine wpAnyH_take (i := 18) (oi := { dst := some 44, op := Op.load 3 (Operand.tmp 43), type := 3, pos := "law.go:172", after := #[{ on := 17, ground := Ground.data }], guard := none }) (v := ?_) rfl (by kernel_rfl) (by kernel_rfl) (by kernel_rfl) (fun _ _ _ h => h) (Or.inl ⟨by kernel_rfl, ?_⟩) (by assumption) ?_
    rotate_left 1
    focus (intro w hSw; (try dsimp only at hSw); go_simp; (try with_reducible rfl))
    try simp only [Act.put, List.setIfInBounds_toArray, List.set_cons_zero, List.set_cons_succ]
    refine wpAnyH_take (i := 19) (oi := { dst := some 45, op := Op.fieldAddr 51 (Operand.tmp 10) 3, type := 0, pos := "law.go:172", after := #[], guard := none }) (v := ?_) rfl (by kernel_rfl) (by kernel_rfl) (by kernel_rfl) (fun _ _ _ h => h) (Or.inl ⟨by kernel_rfl, ?_⟩) (by assumption) ?_
    rotate_left 1
    focus (intro w hSw; (try dsimp only at hSw); go_simp; (try with_reducible rfl))
    try simp only [Act.put, List.setIfInBounds_toArray, List.set_cons_zero, List.set_cons_succ]
    refine wpAnyH_take (i := 20) (oi := { dst := some 46, op := Op.load 3 (Operand.tmp 45), type := 3, pos := "law.go:172", after := #[{ on := 19, ground := Ground.data }], guard := none }) (v := ?_) rfl (by kernel_rfl) (by kernel_rfl) (by kernel_rfl) (fun _ _ _ h => h) (Or.inl ⟨by kernel_rfl, ?_⟩) (by assumption) ?_
    rotate_left 1
    focus (intro w hSw; (try dsimp only at hSw); go_simp; (try with_reducible rfl))
    try simp only [Act.put, List.setIfInBounds_toArray, List.set_cons_zero, List.set_cons_succ]
    refine wpAnyH_take (i := 21) (oi := { dst := some 47, op := Op.fieldAddr 51 (Operand.tmp 10) 1, type := 0, pos := "law.go:172", after := #[], guard := none }) (v := ?_) rfl (by kernel_rfl) (by kernel_rfl) (by kernel_rfl) (fun _ _ _ h => h) (Or.inl ⟨by kernel_rfl, ?_⟩) (by assumption) ?_
    rotate_left 1
    focus (intro w hSw; (try dsimp only at hSw); go_simp; (try with_reducible rfl))
    try simp only [Act.put, List.setIfInBounds_toArray, List.set_cons_zero, List.set_cons_succ]
    refine wpAnyH_take (i := 22) (oi := { dst := some 48, op := Op.load 3 (Operand.tmp 47), type := 3, pos := "law.go:172", after := #[{ on := 21, ground := Ground.data }], guard := none }) (v := ?_) rfl (by kernel_rfl) (by kernel_rfl) (by kernel_rfl) (fun _ _ _ h => h) (Or.inl ⟨by kernel_rfl, ?_⟩) (by assumption) ?_
    rotate_left 1
    focus (intro w hSw; (try dsimp only at hSw); go_simp; (try with_reducible rfl))
    try simp only [Act.put, List.setIfInBounds_toArray, List.set_cons_zero, List.set_cons_succ]
    refine wpAnyH_take (i := 23) (oi := { dst := some 49, op := Op.binOp BinOp.sub 3 (Operand.tmp 46) (Operand.tmp 48) 3, type := 3, pos := "law.go:172", after := #[{ on := 20, ground := Ground.data }, { on := 22, ground := Ground.data }], guard := none }) (v := ?_) rfl (by kernel_rfl) (by kernel_rfl) (by kernel_rfl) (fun _ _ _ h => h) (Or.inl ⟨by kernel_rfl, ?_⟩) (by assumption) ?_
    rotate_left 1
    focus (intro w hSw; (try dsimp only at hSw); go_simp; (try with_reducible rfl))
    try simp only [Act.put, List.setIfInBounds_toArray, List.set_cons_zero, List.set_cons_succ]
    refine wpAnyH_take (i := 24) (oi := { dst := some 50, op := Op.binOp BinOp.add 3 (Operand.tmp 49) (Operand.const (Value.int IntKind.i64 6)) 3, type := 3, pos := "law.go:172", after := #[{ on := 23, ground := Ground.data }], guard := none }) (v := ?_) rfl (by kernel_rfl) (by kernel_rfl) (by kernel_rfl) (fun _ _ _ h => h) (Or.inl ⟨by kernel_rfl, ?_⟩) (by assumption) ?_
    rotate_left 1
    focus (intro w hSw; (try dsimp only at hSw); go_simp; (try with_reducible rfl))
    try simp only [Act.put, List.setIfInBounds_toArray, List.set_cons_zero, List.set_cons_succ]
    refine wpAnyH_take (i := 25) (oi := { dst := some 51, op := Op.call { callee := Callee.builtin Builtin.max, args := #[Operand.const (Value.int IntKind.i64 1), Operand.tmp 50], argTypes := #[3, 3] }, type := 3, pos := "law.go:172", after := #[{ on := 24, ground := Ground.data }], guard := none }) (v := ?_) rfl (by kernel_rfl) (by kernel_rfl) (by kernel_rfl) (fun _ _ _ h => h) (Or.inl ⟨by kernel_rfl, ?_⟩) (by assumption) ?_
    rotate_left 1
    focus (intro w hSw; (try dsimp only at hSw); go_simp; (try with_reducible rfl))
    try simp only [Act.put, List.setIfInBounds_toArray, List.set_cons_zero, List.set_cons_succ]
    refine wpAnyH_ready (rs := [12, 29]) (by kernel_rfl) (by simp) (AllReadyH.cons (o := { dst := some 38, op := Op.call { callee := Callee.value (Operand.func 15), args := #[Operand.tmp 30, Operand.tmp 37], argTypes := #[3, 3] }, type := 3, pos := "law.go:172", after := #[{ on := 4, ground := Ground.data }, { on := 11, ground := Ground.data }], guard := none }) rfl (fun K hK => ?_) (AllReadyH.cons (o := { dst := some 12, op := Op.alloc 49, type := 0, pos := "law.go:172", after := #[], guard := none }) rfl (fun K hK => ?_) AllReadyH.nil))
    · (go_simp; (go_at_call 15; (refine (St.call h70 (HM0.out _)).mono ?_); rintro e V1r5 ⟨rfl, h71r5⟩))
      refine hK.out _ _ ?_ (fun hHeld => ?_)
      · exact HP.out _ (h71r5)
      clear hK K
      try simp only [Act.put, List.setIfInBounds_toArray, List.set_cons_zero, List.set_cons_succ]
      refine wpAnyH_take (i := 13) (oi := { dst := some 39, op := Op.binOp BinOp.add 3 (Operand.tmp 28) (Operand.tmp 38) 3, type := 3, pos := "law.go:172", after := #[{ on := 2, ground := Ground.data }, { on := 12, ground := Ground.data }], guard := none }) (v := ?_) rfl (by kernel_rfl) (by kernel_rfl) (by kernel_rfl) (fun _ _ _ h => h) (Or.inl ⟨by kernel_rfl, ?_⟩) (by assumption) ?_
      rotate_left 1
      focus (intro w hSw; (try dsimp only at hSw); go_simp; (try with_reducible rfl))
      try simp only [Act.put, List.setIfInBounds_toArray, List.set_cons_zero, List.set_cons_succ]
      refine wpAnyH_ready (rs := [26, 29]) (by kernel_rfl) (by simp) (AllReadyH.cons (o := { dst := some 52, op := Op.call { callee := Callee.value (Operand.func 15), args := #[Operand.tmp 44, Operand.tmp 51], argTypes := #[3, 3] }, type := 3, pos := "law.go:172", after := #[{ on := 18, ground := Ground.data }, { on := 25, ground := Ground.data }, { on := 12, ground := Ground.chain }], guard := none }) rfl (fun K hK => ?_) (AllReadyH.cons (o := { dst := some 12, op := Op.alloc 49, type := 0, pos := "law.go:172", after := #[], guard := none }) rfl (fun K hK => ?_) AllReadyH.nil))
      · (go_simp; (go_at_call 15; (refine (St.call h71r5 (HM1.out _)).mono ?_); rintro e V2r5 ⟨rfl, h72r5⟩))
        refine hK.out _ _ ?_ (fun hHeld => ?_)
        · exact HP.out _ (h72r5)
        clear hK K
        try simp only [Act.put, List.setIfInBounds_toArray, List.set_cons_zero, List.set_cons_succ]
        refine wpAnyH_take (i := 27) (oi := { dst := some 53, op := Op.binOp BinOp.add 3 (Operand.tmp 42) (Operand.tmp 52) 3, type := 3, pos := "law.go:172", after := #[{ on := 16, ground := Ground.data }, { on := 26, ground := Ground.data }], guard := none }) (v := ?_) rfl (by kernel_rfl) (by kernel_rfl) (by kernel_rfl) (fun _ _ _ h => h) (Or.inl ⟨by kernel_rfl, ?_⟩) (by assumption) ?_
        rotate_left 1
        focus (intro w hSw; (try dsimp only at hSw); go_simp; (try with_reducible rfl))
        try simp only [Act.put, List.setIfInBounds_toArray, List.set_cons_zero, List.set_cons_succ]
        refine wpAnyH_take (i := 28) (oi := { dst := some 54, op := Op.build 49 #[(0, Operand.tmp 39), (1, Operand.tmp 53)], type := 49, pos := "law.go:172", after := #[{ on := 13, ground := Ground.data }, { on := 27, ground := Ground.data }], guard := none }) (v := ?_) rfl (by kernel_rfl) (by kernel_rfl) (by kernel_rfl) (fun _ _ _ h => h) (Or.inl ⟨by kernel_rfl, ?_⟩) (by assumption) ?_
        rotate_left 1
        focus (intro w hSw; (try dsimp only at hSw); go_simp; (try with_reducible rfl))
        try simp only [Act.put, List.setIfInBounds_toArray, List.set_cons_zero, List.set_cons_succ]
        refine wpAnyH_ready (rs := [29]) (by kernel_rfl) (by simp) (AllReadyH.cons (o := { dst := some 12, op := Op.alloc 49, type := 0, pos := "law.go:172", after := #[], guard := none }) rfl (fun K hK => ?_) AllReadyH.nil)
        have hne29r5 := h72r5.ne
        have hle29r5 := h72r5.below.size
        have hlt29r5 := fun (b : Nat) (o : Obj) (hm : (b, o) ∈ _) => h72r5.lt hm
        have h73r5 := h72r5.alloc (.cells #[.int .i64 0, .int .i64 0] 49)
        refine wp_alloc_of 49 rfl _ (zero_pt _) ?_
        refine hK.out _ _ ?_ (fun hHeld => ?_)
        · exact HP.out _ (h73r5.tl)
        clear hK K
        try simp only [Act.put, List.setIfInBounds_toArray, List.set_cons_zero, List.set_cons_succ]
        refine wpAnyH_ready (rs := [30]) (by kernel_rfl) (by simp) (AllReadyH.cons (o := { dst := none, op := Op.store 49 (Operand.tmp 12) (Operand.tmp 54), type := 0, pos := "law.go:172", after := #[{ on := 29, ground := Ground.data }, { on := 28, ground := Ground.data }, { on := 26, ground := Ground.chain }, { on := 0, ground := Ground.phase }, { on := 1, ground := Ground.phase }, { on := 2, ground := Ground.phase }, { on := 3, ground := Ground.phase }, { on := 4, ground := Ground.phase }, { on := 5, ground := Ground.phase }, { on := 6, ground := Ground.phase }, { on := 7, ground := Ground.phase }, { on := 8, ground := Ground.phase }, { on := 9, ground := Ground.phase }, { on := 10, ground := Ground.phase }, { on := 11, ground := Ground.phase }, { on := 12, ground := Ground.phase }, { on := 13, ground := Ground.phase }, { on := 14, ground := Ground.phase }, { on := 15, ground := Ground.phase }, { on := 16, ground := Ground.phase }, { on := 17, ground := Ground.phase }, { on := 18, ground := Ground.phase }, { on := 19, ground := Ground.phase }, { on := 20, ground := Ground.phase }, { on := 21, ground := Ground.phase }, { on := 22, ground := Ground.phase }, { on := 23, ground := Ground.phase }, { on := 24, ground := Ground.phase }, { on := 25, ground := Ground.phase }, { on := 26, ground := Ground.phase }, { on := 27, ground := Ground.phase }, { on := 28, ground := Ground.phase }, { on := 29, ground := Ground.phase }], guard := none }) rfl (fun K hK => ?_) AllReadyH.nil)
        have h74r5 := h73r5.rowset (ds := #[.int .i64 px, .int .i64 py]) hle29r5 hne29r5
        refine wp_store_of 49 _ _ rfl (store_row 49 (cs := #[.int .i64 0, .int .i64 0]) (ds := #[.int .i64 px, .int .i64 py]) (by kernel_rfl) rfl (by simp [Value.oneCell']) h73r5.hd) ?_
        refine hK.out _ _ ?_ (fun hHeld => ?_)
        · exact HP.out _ (h74r5.tl)
        clear hK K
        try simp only [Act.put]
        refine wpAnyH_done (by kernel_rfl) ?_ _
        have h9 := h74r5
        go_wp2_with fail
        go_meet
        case rel => exact ⟨_, rfl, h9⟩
      · have hne29r5 := h71r5.ne
        have hle29r5 := h71r5.below.size
        have hlt29r5 := fun (b : Nat) (o : Obj) (hm : (b, o) ∈ _) => h71r5.lt hm
        have h75r5 := h71r5.alloc (.cells #[.int .i64 0, .int .i64 0] 49)
        refine wp_alloc_of 49 rfl _ (zero_pt _) ?_
        refine hK.out _ _ ?_ (fun hHeld => ?_)
        · exact HP.out _ (h75r5.tl)
        clear hK K
        try simp only [Act.put, List.setIfInBounds_toArray, List.set_cons_zero, List.set_cons_succ]
        refine wpAnyH_ready (rs := [26]) (by kernel_rfl) (by simp) (AllReadyH.cons (o := { dst := some 52, op := Op.call { callee := Callee.value (Operand.func 15), args := #[Operand.tmp 44, Operand.tmp 51], argTypes := #[3, 3] }, type := 3, pos := "law.go:172", after := #[{ on := 18, ground := Ground.data }, { on := 25, ground := Ground.data }, { on := 12, ground := Ground.chain }], guard := none }) rfl (fun K hK => ?_) AllReadyH.nil)
        (go_simp; (go_at_call 15; (refine (St.call h75r5 (HM1.out _)).mono ?_); rintro e V6r5 ⟨rfl, h76r5⟩))
        refine hK.out _ _ ?_ (fun hHeld => ?_)
        · exact HP.out _ (h76r5.tl)
        clear hK K
        try simp only [Act.put, List.setIfInBounds_toArray, List.set_cons_zero, List.set_cons_succ]
        refine wpAnyH_take (i := 27) (oi := { dst := some 53, op := Op.binOp BinOp.add 3 (Operand.tmp 42) (Operand.tmp 52) 3, type := 3, pos := "law.go:172", after := #[{ on := 16, ground := Ground.data }, { on := 26, ground := Ground.data }], guard := none }) (v := ?_) rfl (by kernel_rfl) (by kernel_rfl) (by kernel_rfl) (fun _ _ _ h => h) (Or.inl ⟨by kernel_rfl, ?_⟩) (by assumption) ?_
        rotate_left 1
        focus (intro w hSw; (try dsimp only at hSw); go_simp; (try with_reducible rfl))
        try simp only [Act.put, List.setIfInBounds_toArray, List.set_cons_zero, List.set_cons_succ]
        refine wpAnyH_take (i := 28) (oi := { dst := some 54, op := Op.build 49 #[(0, Operand.tmp 39), (1, Operand.tmp 53)], type := 49, pos := "law.go:172", after := #[{ on := 13, ground := Ground.data }, { on := 27, ground := Ground.data }], guard := none }) (v := ?_) rfl (by kernel_rfl) (by kernel_rfl) (by kernel_rfl) (fun _ _ _ h => h) (Or.inl ⟨by kernel_rfl, ?_⟩) (by assumption) ?_
        rotate_left 1
        focus (intro w hSw; (try dsimp only at hSw); go_simp; (try with_reducible rfl))
        try simp only [Act.put, List.setIfInBounds_toArray, List.set_cons_zero, List.set_cons_succ]
        refine wpAnyH_ready (rs := [30]) (by kernel_rfl) (by simp) (AllReadyH.cons (o := { dst := none, op := Op.store 49 (Operand.tmp 12) (Operand.tmp 54), type := 0, pos := "law.go:172", after := #[{ on := 29, ground := Ground.data }, { on := 28, ground := Ground.data }, { on := 26, ground := Ground.chain }, { on := 0, ground := Ground.phase }, { on := 1, ground := Ground.phase }, { on := 2, ground := Ground.phase }, { on := 3, ground := Ground.phase }, { on := 4, ground := Ground.phase }, { on := 5, ground := Ground.phase }, { on := 6, ground := Ground.phase }, { on := 7, ground := Ground.phase }, { on := 8, ground := Ground.phase }, { on := 9, ground := Ground.phase }, { on := 10, ground := Ground.phase }, { on := 11, ground := Ground.phase }, { on := 12, ground := Ground.phase }, { on := 13, ground := Ground.phase }, { on := 14, ground := Ground.phase }, { on := 15, ground := Ground.phase }, { on := 16, ground := Ground.phase }, { on := 17, ground := Ground.phase }, { on := 18, ground := Ground.phase }, { on := 19, ground := Ground.phase }, { on := 20, ground := Ground.phase }, { on := 21, ground := Ground.phase }, { on := 22, ground := Ground.phase }, { on := 23, ground := Ground.phase }, { on := 24, ground := Ground.phase }, { on := 25, ground := Ground.phase }, { on := 26, ground := Ground.phase }, { on := 27, ground := Ground.phase }, { on := 28, ground := Ground.phase }, { on := 29, ground := Ground.phase }], guard := none }) rfl (fun K hK => ?_) AllReadyH.nil)
        have h77r5 := h76r5.rowset (ds := #[.int .i64 px, .int .i64 py]) hle29r5 hne29r5
        refine wp_store_of 49 _ _ rfl (store_row 49 (cs := #[.int .i64 0, .int .i64 0]) (ds := #[.int .i64 px, .int .i64 py]) (by kernel_rfl) rfl (by simp [Value.oneCell']) h76r5.hd) ?_
        refine hK.out _ _ ?_ (fun hHeld => ?_)
        · exact HP.out _ (h77r5.tl)
        clear hK K
        try simp only [Act.put]
        refine wpAnyH_done (by kernel_rfl) ?_ _
        have h9 := h77r5
        go_wp2_with fail
        go_meet
        case rel => exact ⟨_, rfl, h9⟩
    · have hne29r5 := h70.ne
      have hle29r5 := h70.below.size
      have hlt29r5 := fun (b : Nat) (o : Obj) (hm : (b, o) ∈ _) => h70.lt hm
      have h78r5 := h70.alloc (.cells #[.int .i64 0, .int .i64 0] 49)
      refine wp_alloc_of 49 rfl _ (zero_pt _) ?_
      refine hK.out _ _ ?_ (fun hHeld => ?_)
      · exact HP.out _ (h78r5.tl)
      clear hK K
      try simp only [Act.put, List.setIfInBounds_toArray, List.set_cons_zero, List.set_cons_succ]
      refine wpAnyH_ready (rs := [12]) (by kernel_rfl) (by simp) (AllReadyH.cons (o := { dst := some 38, op := Op.call { callee := Callee.value (Operand.func 15), args := #[Operand.tmp 30, Operand.tmp 37], argTypes := #[3, 3] }, type := 3, pos := "law.go:172", after := #[{ on := 4, ground := Ground.data }, { on := 11, ground := Ground.data }], guard := none }) rfl (fun K hK => ?_) AllReadyH.nil)
      (go_simp; (go_at_call 15; (refine (St.call h78r5 (HM0.out _)).mono ?_); rintro e V9r5 ⟨rfl, h79r5⟩))
      refine hK.out _ _ ?_ (fun hHeld => ?_)
      · exact HP.out _ (h79r5.tl)
      clear hK K
      try simp only [Act.put, List.setIfInBounds_toArray, List.set_cons_zero, List.set_cons_succ]
      refine wpAnyH_take (i := 13) (oi := { dst := some 39, op := Op.binOp BinOp.add 3 (Operand.tmp 28) (Operand.tmp 38) 3, type := 3, pos := "law.go:172", after := #[{ on := 2, ground := Ground.data }, { on := 12, ground := Ground.data }], guard := none }) (v := ?_) rfl (by kernel_rfl) (by kernel_rfl) (by kernel_rfl) (fun _ _ _ h => h) (Or.inl ⟨by kernel_rfl, ?_⟩) (by assumption) ?_
      rotate_left 1
      focus (intro w hSw; (try dsimp only at hSw); go_simp; (try with_reducible rfl))
      try simp only [Act.put, List.setIfInBounds_toArray, List.set_cons_zero, List.set_cons_succ]
      refine wpAnyH_ready (rs := [26]) (by kernel_rfl) (by simp) (AllReadyH.cons (o := { dst := some 52, op := Op.call { callee := Callee.value (Operand.func 15), args := #[Operand.tmp 44, Operand.tmp 51], argTypes := #[3, 3] }, type := 3, pos := "law.go:172", after := #[{ on := 18, ground := Ground.data }, { on := 25, ground := Ground.data }, { on := 12, ground := Ground.chain }], guard := none }) rfl (fun K hK => ?_) AllReadyH.nil)
      (go_simp; (go_at_call 15; (refine (St.call h79r5 (HM1.out _)).mono ?_); rintro e V10r5 ⟨rfl, h710r5⟩))
      refine hK.out _ _ ?_ (fun hHeld => ?_)
      · exact HP.out _ (h710r5.tl)
      clear hK K
      try simp only [Act.put, List.setIfInBounds_toArray, List.set_cons_zero, List.set_cons_succ]
      refine wpAnyH_take (i := 27) (oi := { dst := some 53, op := Op.binOp BinOp.add 3 (Operand.tmp 42) (Operand.tmp 52) 3, type := 3, pos := "law.go:172", after := #[{ on := 16, ground := Ground.data }, { on := 26, ground := Ground.data }], guard := none }) (v := ?_) rfl (by kernel_rfl) (by kernel_rfl) (by kernel_rfl) (fun _ _ _ h => h) (Or.inl ⟨by kernel_rfl, ?_⟩) (by assumption) ?_
      rotate_left 1
      focus (intro w hSw; (try dsimp only at hSw); go_simp; (try with_reducible rfl))
      try simp only [Act.put, List.setIfInBounds_toArray, List.set_cons_zero, List.set_cons_succ]
      refine wpAnyH_take (i := 28) (oi := { dst := some 54, op := Op.build 49 #[(0, Operand.tmp 39), (1, Operand.tmp 53)], type := 49, pos := "law.go:172", after := #[{ on := 13, ground := Ground.data }, { on := 27, ground := Ground.data }], guard := none }) (v := ?_) rfl (by kernel_rfl) (by kernel_rfl) (by kernel_rfl) (fun _ _ _ h => h) (Or.inl ⟨by kernel_rfl, ?_⟩) (by assumption) ?_
      rotate_left 1
      focus (intro w hSw; (try dsimp only at hSw); go_simp; (try with_reducible rfl))
      try simp only [Act.put, List.setIfInBounds_toArray, List.set_cons_zero, List.set_cons_succ]
      refine wpAnyH_ready (rs := [30]) (by kernel_rfl) (by simp) (AllReadyH.cons (o := { dst := none, op := Op.store 49 (Operand.tmp 12) (Operand.tmp 54), type := 0, pos := "law.go:172", after := #[{ on := 29, ground := Ground.data }, { on := 28, ground := Ground.data }, { on := 26, ground := Ground.chain }, { on := 0, ground := Ground.phase }, { on := 1, ground := Ground.phase }, { on := 2, ground := Ground.phase }, { on := 3, ground := Ground.phase }, { on := 4, ground := Ground.phase }, { on := 5, ground := Ground.phase }, { on := 6, ground := Ground.phase }, { on := 7, ground := Ground.phase }, { on := 8, ground := Ground.phase }, { on := 9, ground := Ground.phase }, { on := 10, ground := Ground.phase }, { on := 11, ground := Ground.phase }, { on := 12, ground := Ground.phase }, { on := 13, ground := Ground.phase }, { on := 14, ground := Ground.phase }, { on := 15, ground := Ground.phase }, { on := 16, ground := Ground.phase }, { on := 17, ground := Ground.phase }, { on := 18, ground := Ground.phase }, { on := 19, ground := Ground.phase }, { on := 20, ground := Ground.phase }, { on := 21, ground := Ground.phase }, { on := 22, ground := Ground.phase }, { on := 23, ground := Ground.phase }, { on := 24, ground := Ground.phase }, { on := 25, ground := Ground.phase }, { on := 26, ground := Ground.phase }, { on := 27, ground := Ground.phase }, { on := 28, ground := Ground.phase }, { on := 29, ground := Ground.phase }], guard := none }) rfl (fun K hK => ?_) AllReadyH.nil)
      have h711r5 := h710r5.rowset (ds := #[.int .i64 px, .int .i64 py]) hle29r5 hne29r5
      refine wp_store_of 49 _ _ rfl (store_row 49 (cs := #[.int .i64 0, .int .i64 0]) (ds := #[.int .i64 px, .int .i64 py]) (by kernel_rfl) rfl (by simp [Value.oneCell']) h710r5.hd) ?_
      refine hK.out _ _ ?_ (fun hHeld => ?_)
      · exact HP.out _ (h711r5.tl)
      clear hK K
      try simp only [Act.put]
      refine wpAnyH_done (by kernel_rfl) ?_ _
      have h9 := h711r5
      go_wp2_with fail
      go_meet
      case rel => exact ⟨_, rfl, h9⟩
  case rest =>
    obtain ⟨b9, rfl, HQ⟩ := hcut
    have h20 := HQ.out
    clear HQ HP hmx
    obtain ⟨_, _, _, _, _, _, _⟩ := St.aff h20 (b := c1) (a := s0) (b' := s1) (c := s2) (d := s3) (e := s4) (f := s5) (n := s6) (by simp)
    obtain ⟨_, _⟩ := St.pt h20 (b := b9) (x := px) (y := py) (by simp)
    go_upto_region 7 with (first | (go_at_call 30; (with_reducible refine (St.call h20 (HS.out _)).mono ?_); rintro en w21 ⟨rfl, h21⟩))
    have h22 := h21.alloc (pob X Y)
    generalize w21.heap.size = c11 at h22 ⊢
    generalize w21.alloc (pob X Y) = w22 at h22 ⊢
    obtain ⟨_, _, _, _⟩ := St.rect h22 (b := c2) (x0 := r0) (x1 := r1) (x2 := r2) (x3 := r3) (by simp)
    obtain ⟨_, _⟩ := St.pt h22 (b := c11) (x := X) (y := Y) (by simp)
    go_upto_region 9 with fail
    by_cases hE : E = 0
    · subst hE
      cases k1
      · go_wp2_with (first | (go_at_call 37; (with_reducible refine (St.call h22 (HH1.out _)).mono ?_); rintro en w51 ⟨rfl, h51⟩; obtain ⟨_, _, _, _⟩ := St.rect h51 (b := c3) (x0 := g0) (x1 := g1) (x2 := g2) (x3 := g3) (by simp); obtain ⟨_, _⟩ := St.pt h51 (b := b9) (x := px) (y := py) (by simp)))
        go_ret
        subst hb0
        exact ⟨rfl, h51.below⟩
      · obtain rfl : k2 = true := HK.out rfl rfl
        go_wp2_with (first | (go_at_call 37; (with_reducible refine (St.call h22 (HH1.out _)).mono ?_); rintro en w51 ⟨rfl, h51⟩; obtain ⟨_, _, _, _⟩ := St.rect h51 (b := c3) (x0 := g0) (x1 := g1) (x2 := g2) (x3 := g3) (by simp); obtain ⟨_, _⟩ := St.pt h51 (b := b9) (x := px) (y := py) (by simp)) | (go_at_call 37; (with_reducible refine (St.call h51 (HH2.out _)).mono ?_); rintro en w52 ⟨rfl, h52⟩))
        go_ret
        subst hb0
        exact ⟨rfl, h52.below⟩
    · have he1 : (E = 0) = False := by simpa using hE
      have he2 : (E == 0) = false := by simpa using hE
      have he3 : (E != 0) = true := by simpa using hE
      go_wp2
      go_ret
      subst hb0
      exact ⟨rfl, h22.below⟩

set_option maxRecDepth 100000 in
theorem lifted (os : Os) (started : os.Started) (H : Type) (enc : TypeId × Value → H) :
    ReturnsInHanded {} Try.checked os 10 .any (Rows.affineBoundsSpec.pre6 enc Try.prog Try.f10 Rows.affineBoundsRow.domain false) (Rows.affineBoundsSpec.post enc Try.prog Try.f10 false true false false) := by
  refine returnsInHanded_of_change_sized (C := Try.checked) own started (by kernel_rfl) Try.func10
    (ChangeSpec.witness6 (enc := enc) (C := Try.checked) false ⟨#[], #[.agg #[.int .i64 0, .int .i64 0, .int .i64 0, .int .i64 0, .int .i64 0, .int .i64 0, .int .i64 0], .agg #[.int .i64 0, .int .i64 0, .int .i64 0, .int .i64 0], .agg #[.int .i64 0, .int .i64 0]], []⟩ 8 (by kernel_rfl) (by kernel_rfl) (by kernel_rfl) (by kernel_rfl)) ?_
  intro W base args ds gs before hval0 hW _ _ _
  have hval : ∀ (j : Nat) t v, Try.f10.params[j]? = some t → args[j]? = some v → Value.okWide Try.prog W .any base t v := hval0
  have hW' := hW
  obtain ⟨p, q, hA0, hV, rfl, hfz, hnd⟩ := hW
  have hA : DataW.TrodAll enc Try.prog W 0 (fun _ => true) true Try.f10.params.toList args.toList ds p := hA0
  rw [Try.params10] at hA hval
  obtain ⟨v0, v1, v2, d0, d1, d2, p0, p1, p2, rfl, rfl, rfl, h0, h1, h2⟩ := trodAll_three hA
  obtain ⟨rfl, rfl⟩ := trodVars_none hV
  obtain ⟨q0, q1, q2, q3, q4, q5, q6, rfl⟩ := op__7_int (hval 0 26 v0 rfl rfl)
  obtain ⟨n0, n1, n2, n3, rfl⟩ := op__4_int (hval 1 55 v1 rfl rfl)
  obtain ⟨m0, m1, rfl⟩ := op__2_int (hval 2 72 v2 rfl rfl)
  refine (walk q0 q1 q2 q3 q4 q5 q6 n0 n1 n2 n3 m0 m1 W).mono fun en W' ⟨he, hb⟩ => ?_
  subst he
  exact ⟨_, rfl, law_post hW' rfl (by kernel_rfl) rfl (by intro t ht; rw [Try.params10] at ht; simp at ht; rcases ht with rfl | rfl | rfl <;> exact ⟨by kernel_rfl, of_decide_eq_true (by kernel_rfl)⟩) hb⟩

theorem holds : Rows.AffineBoundsSaid :=
  OpenClaim.holds_of_wide 10 Try.f10 rfl rfl rfl rfl rfl rfl rfl ⟨rfl, rfl, rfl, rfl, rfl⟩ rfl rfl rfl rfl rfl (by kernel_rfl) Try.func10 (by kernel_rfl)
    (of_decide_eq_true (by kernel_rfl)) (by unfold Func.isWrapper; first | (rw [if_pos (by decide +kernel)]; kernel_rfl) | (rw [if_neg (by decide +kernel)]; exact ⟨rfl, rfl⟩))
    (fun os started H enc _ => lifted os started H enc)
end Go.Proofs.Ytfjbcjhbaenjcaa.F.ALBounds
