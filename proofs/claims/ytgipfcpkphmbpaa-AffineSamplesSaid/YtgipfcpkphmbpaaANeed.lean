/-
  Need of affine.
-/
import Derived.Test.YtgipfcpkphmbpaaASmp
namespace Go.Proofs.Ytgipfcpkphmbpaa.F
open Go.RowKit
set_option maxRecDepth 100000

def nd0 (a : Af) (r0 r1 r2 r3 : Int) : Int := mn (mn (mn (sx a r0 r1) (sx a (r2 - 1) r1)) (sx a r0 (r3 - 1))) (sx a (r2 - 1) (r3 - 1))
def nd1 (a : Af) (r0 r1 r2 r3 : Int) : Int := mn (mn (mn (sy a r0 r1) (sy a (r2 - 1) r1)) (sy a r0 (r3 - 1))) (sy a (r2 - 1) (r3 - 1))
def nd2 (a : Af) (r0 r1 r2 r3 : Int) : Int := mx (mx (mx (sx a r0 r1) (sx a (r2 - 1) r1)) (sx a r0 (r3 - 1))) (sx a (r2 - 1) (r3 - 1))
def nd3 (a : Af) (r0 r1 r2 r3 : Int) : Int := mx (mx (mx (sy a r0 r1) (sy a (r2 - 1) r1)) (sy a r0 (r3 - 1))) (sy a (r2 - 1) (r3 - 1))
def needT (a : Af) (r0 r1 r2 r3 : Int) : Box := if chkE a r0 r1 r2 r3 = 0 then (if emp r0 r1 r2 r3 = true then ⟨0, 0, 0, 0, 0⟩ else ⟨nd0 a r0 r1 r2 r3, nd1 a r0 r1 r2 r3, nd2 a r0 r1 r2 r3 + 1, nd3 a r0 r1 r2 r3 + 1, 0⟩) else ⟨0, 0, 0, 0, 1⟩
theorem chkE_01 (a : Af) (r0 r1 r2 r3 : Int) : chkE a r0 r1 r2 r3 = 0 ∨ chkE a r0 r1 r2 r3 = 1 := by unfold chkE; split; exact .inl rfl; exact .inr rfl
theorem chkE_ok {a : Af} {r0 r1 r2 r3 : Int} (h : chkE a r0 r1 r2 r3 = 0) (he : emp r0 r1 r2 r3 = false) : Ok a ∧ (-65536 ≤ r0 ∧ r0 < r2 ∧ r2 ≤ 65536) ∧ (-65536 ≤ r1 ∧ r1 < r3 ∧ r3 ≤ 65536) := by
  unfold chkE at h
  split at h
  case isTrue hc =>
    rw [he, Bool.false_or, Bool.and_eq_true] at hc
    refine ⟨(okA_iff _).1 hc.1, ?_⟩
    have h1 := (emp_not _ _ _ _).1 he
    have h2 := hc.2
    unfold vld at h2
    rw [he, Bool.not_false, Bool.true_and, ins_iff] at h2
    omega
  case isFalse => omega
theorem sxy_bd {a : Af} {x y : Int} (h : Ok a) (hx : Cb x) (hy : Cb y) : (-20000000000001 ≤ sx a x y ∧ sx a x y ≤ 20000000000001) ∧ (-20000000000001 ≤ sy a x y ∧ sy a x y ≤ 20000000000001) := by
  have h1 := nxy_bd h.1 hx hy
  have key : ∀ n d : Int, d ≠ 0 → -20000000000000 ≤ n ∧ n ≤ 20000000000000 → -20000000000001 ≤ fl n d ∧ fl n d ≤ 20000000000001 := fun n d hd hn => by
    have pos : ∀ n d : Int, 0 < d → -20000000000000 ≤ n ∧ n ≤ 20000000000000 → -20000000000001 ≤ fl n d ∧ fl n d ≤ 20000000000001 := fun n d hd hn => by
      obtain ⟨q1, q2⟩ := (fl_pos hd).1 (rfl : fl n d = fl n d)
      generalize fl n d = q at *
      constructor
      · by_cases hq : -20000000000001 ≤ q
        · exact hq
        · exfalso
          have : d * q ≤ d * (-20000000000002) := Int.mul_le_mul_of_nonneg_left (by omega) (by omega)
          have : d * (-20000000000002) ≤ 1 * (-20000000000002) := Int.mul_le_mul_of_nonpos_right (by omega) (by omega)
          omega
      · by_cases hq : q ≤ 20000000000001
        · exact hq
        · exfalso
          have : d * 20000000000002 ≤ d * q := Int.mul_le_mul_of_nonneg_left (by omega) (by omega)
          have : 1 * 20000000000002 ≤ d * 20000000000002 := Int.mul_le_mul_of_nonneg_right (by omega) (by omega)
          omega
    rcases Int.lt_or_gt_of_ne hd with h | h
    · rw [← fl_neg hd]; exact pos _ _ (by omega) (by omega)
    · exact pos _ _ h hn
  have h0 : 2 * det a ≠ 0 := by have := h.2; omega
  exact ⟨key _ _ h0 h1.1, key _ _ h0 h1.2⟩
set_option maxHeartbeats 4000000 in
theorem needT_any (p0 p1 p2 p3 p4 p5 p6 r0 r1 r2 r3 : Int) (w : World) : Calls Try.prog 31 #[av p0 p1 p2 p3 p4 p5 p6, rv r0 r1 r2 r3] w fun en w' => en = .returned (needT ⟨p0, p1, p2, p3, p4, p5, p6⟩ r0 r1 r2 r3).v ∧ Below w.heap.size w w' := by
  have HC : Hid (∀ W, Calls Try.prog 53 #[av p0 p1 p2 p3 p4 p5 p6, rv r0 r1 r2 r3] W fun en w' => en = .returned ((.int .i64 (chkE ⟨p0, p1, p2, p3, p4, p5, p6⟩ r0 r1 r2 r3))) ∧ Below W.heap.size W w') := fun W => check_any p0 p1 p2 p3 p4 p5 p6 r0 r1 r2 r3 W
  have HE : Hid (∀ W, Calls Try.prog 54 #[rv r0 r1 r2 r3] W fun en w' => en = .returned ((.bool (emp r0 r1 r2 r3))) ∧ Below W.heap.size W w') := fun W => empty_any r0 r1 r2 r3 W
  have hce := chkE_01 ⟨p0, p1, p2, p3, p4, p5, p6⟩ r0 r1 r2 r3
  have HO : Hid (chkE ⟨p0, p1, p2, p3, p4, p5, p6⟩ r0 r1 r2 r3 = 0 → emp r0 r1 r2 r3 = false → Ok ⟨p0, p1, p2, p3, p4, p5, p6⟩ ∧ (-65536 ≤ r0 ∧ r0 < r2 ∧ r2 ≤ 65536) ∧ (-65536 ≤ r1 ∧ r1 < r3 ∧ r3 ≤ 65536)) := chkE_ok
  unfold needT
  generalize chkE ⟨p0, p1, p2, p3, p4, p5, p6⟩ r0 r1 r2 r3 = ce at HC HO hce ⊢
  generalize emp r0 r1 r2 r3 = s2 at HE HO ⊢
  obtain rfl | rfl := hce.symm
  · go_enter Try.func31, Try.ntmps31
    go_upto_region 1 with fail
    have hs := (((St.start w).alloc (ao p0 p1 p2 p3 p4 p5 p6)).alloc (ro r0 r1 r2 r3)).alloc (ro 0 0 0 0)
    simp only [World.size_alloc] at hs
    generalize hb0 : w.heap.size = b0 at hs ⊢
    generalize ((w.alloc (ao p0 p1 p2 p3 p4 p5 p6)).alloc (ro r0 r1 r2 r3)).alloc (ro 0 0 0 0) = w1 at hs ⊢
    obtain ⟨_, _, _, _, _, _, _⟩ := St.aff hs (b := b0) (a := p0) (b' := p1) (c := p2) (d := p3) (e := p4) (f := p5) (n := p6) (by simp)
    obtain ⟨_, _, _, _⟩ := St.rect hs (b := b0 + 1) (x0 := r0) (x1 := r1) (x2 := r2) (x3 := r3) (by simp)
    go_wp2_with (first | (go_at_call 53; (with_reducible refine (St.call hs (HC.out _)).mono ?_); rintro en w2 ⟨rfl, h2⟩; obtain ⟨_, _, _, _⟩ := St.rect h2 (b := b0 + 1 + 1) (x0 := 0) (x1 := 0) (x2 := 0) (x3 := 0) (by simp); have : ∀ j, _ = false := h2.frozen (b := b0 + 1 + 1) (cs := #[.int .i64 0, .int .i64 0, .int .i64 0, .int .i64 0]) (t := 51) (by simp)))
    subst hb0; exact bodyPost_ret (v := .tuple #[rv 0 0 0 0, .int .i64 1]) (by simp [results, Try.results31, go_sem, *]) rfl ⟨rfl, below_set4 h2.below (by omega) _ _ _ _⟩
  cases s2
  case true =>
    go_enter Try.func31, Try.ntmps31
    go_upto_region 1 with fail
    have hs := (((St.start w).alloc (ao p0 p1 p2 p3 p4 p5 p6)).alloc (ro r0 r1 r2 r3)).alloc (ro 0 0 0 0)
    simp only [World.size_alloc] at hs
    generalize hb0 : w.heap.size = b0 at hs ⊢
    generalize ((w.alloc (ao p0 p1 p2 p3 p4 p5 p6)).alloc (ro r0 r1 r2 r3)).alloc (ro 0 0 0 0) = w1 at hs ⊢
    obtain ⟨_, _, _, _, _, _, _⟩ := St.aff hs (b := b0) (a := p0) (b' := p1) (c := p2) (d := p3) (e := p4) (f := p5) (n := p6) (by simp)
    obtain ⟨_, _, _, _⟩ := St.rect hs (b := b0 + 1) (x0 := r0) (x1 := r1) (x2 := r2) (x3 := r3) (by simp)
    go_wp2_with (first | (go_at_call 53; (with_reducible refine (St.call hs (HC.out _)).mono ?_); rintro en w2 ⟨rfl, h2⟩; obtain ⟨_, _, _, _⟩ := St.rect h2 (b := b0 + 1) (x0 := r0) (x1 := r1) (x2 := r2) (x3 := r3) (by simp)) | (go_at_call 54; (with_reducible refine (St.call h2 (HE.out _)).mono ?_); rintro en w3 ⟨rfl, h3⟩; obtain ⟨_, _, _, _⟩ := St.rect h3 (b := b0 + 1 + 1) (x0 := 0) (x1 := 0) (x2 := 0) (x3 := 0) (by simp); have : ∀ j, _ = false := h3.frozen (b := b0 + 1 + 1) (cs := #[.int .i64 0, .int .i64 0, .int .i64 0, .int .i64 0]) (t := 51) (by simp)))
    subst hb0; exact bodyPost_ret (v := .tuple #[rv 0 0 0 0, .int .i64 0]) (by simp [results, Try.results31, go_sem, *]) rfl ⟨rfl, below_set4 h3.below (by omega) _ _ _ _⟩
  obtain ⟨hok, hx, hy⟩ := HO.out rfl rfl
  clear HO hce
  have k0 : Cb r0 := by unfold Cb; omega
  have k1 : Cb r1 := by unfold Cb; omega
  have k2 : Cb (r2 - 1) := by unfold Cb; omega
  have k3 : Cb (r3 - 1) := by unfold Cb; omega
  have e2 : wrap64 (r2 - 1) = r2 - 1 := w64 ⟨by omega, by omega⟩
  have e3 : wrap64 (r3 - 1) = r3 - 1 := w64 ⟨by omega, by omega⟩
  have s0 := sxy_bd hok k0 k1
  have s1 := sxy_bd hok k2 k1
  have s2 := sxy_bd hok k0 k3
  have s3 := sxy_bd hok k2 k3
  have HX : Hid (∀ (ba : Nat) (V : World), ba < V.heap.size → AB V ba p0 p1 p2 p3 p4 p5 p6 → Calls Try.prog 55 #[.agg #[.int .i64 r0, .int .i64 r1, .int .i64 (r2 - 1), .int .i64 r1, .int .i64 r0, .int .i64 (r3 - 1), .int .i64 (r2 - 1), .int .i64 (r3 - 1)], .func (.func 57) #[] #[.pointer (some ⟨ba, 0, none⟩)]] V fun en w' => en = .returned (.tuple #[tv (nd0 ⟨p0, p1, p2, p3, p4, p5, p6⟩ r0 r1 r2 r3) (nd1 ⟨p0, p1, p2, p3, p4, p5, p6⟩ r0 r1 r2 r3), tv (nd2 ⟨p0, p1, p2, p3, p4, p5, p6⟩ r0 r1 r2 r3) (nd3 ⟨p0, p1, p2, p3, p4, p5, p6⟩ r0 r1 r2 r3)]) ∧ Below V.heap.size V w') := fun ba V hlt hA => by
    have hB : ∀ W, Below V.heap.size V W → ba < W.heap.size ∧ AB W ba p0 p1 p2 p3 p4 p5 p6 := fun W hW => by
      obtain ⟨a0, a1, a2, a3, a4, a5, a6⟩ := hA
      exact ⟨Nat.lt_of_lt_of_le hlt hW.size, by rw [← a0]; exact hW.cell (p := ⟨ba, 0, none⟩) hlt, by rw [← a1]; exact hW.cell (p := ⟨ba, 1, none⟩) hlt, by rw [← a2]; exact hW.cell (p := ⟨ba, 2, none⟩) hlt, by rw [← a3]; exact hW.cell (p := ⟨ba, 3, none⟩) hlt, by rw [← a4]; exact hW.cell (p := ⟨ba, 4, none⟩) hlt, by rw [← a5]; exact hW.cell (p := ⟨ba, 5, none⟩) hlt, by rw [← a6]; exact hW.cell (p := ⟨ba, 6, none⟩) hlt⟩
    exact extNeed_any _ _ _ _ _ _ _ _ _ _ _ _ _ _ _ _ ba V (fun W hW => need1_any p0 p1 p2 p3 p4 p5 p6 _ _ ba W hok k0 k1 (hB W hW).1 (hB W hW).2) (fun W hW => need1_any p0 p1 p2 p3 p4 p5 p6 _ _ ba W hok k2 k1 (hB W hW).1 (hB W hW).2) (fun W hW => need1_any p0 p1 p2 p3 p4 p5 p6 _ _ ba W hok k0 k3 (hB W hW).1 (hB W hW).2) (fun W hW => need1_any p0 p1 p2 p3 p4 p5 p6 _ _ ba W hok k2 k3 (hB W hW).1 (hB W hW).2)
  have f2 : wrap64 (nd2 ⟨p0, p1, p2, p3, p4, p5, p6⟩ r0 r1 r2 r3 + 1) = nd2 ⟨p0, p1, p2, p3, p4, p5, p6⟩ r0 r1 r2 r3 + 1 := by
    unfold nd2; simp only [mx_eq]; exact w64 ⟨by omega, by omega⟩
  have f3 : wrap64 (nd3 ⟨p0, p1, p2, p3, p4, p5, p6⟩ r0 r1 r2 r3 + 1) = nd3 ⟨p0, p1, p2, p3, p4, p5, p6⟩ r0 r1 r2 r3 + 1 := by
    unfold nd3; simp only [mx_eq]; exact w64 ⟨by omega, by omega⟩
  clear s0 s1 s2 s3 k0 k1 k2 k3 hok hx hy
  generalize nd0 ⟨p0, p1, p2, p3, p4, p5, p6⟩ r0 r1 r2 r3 = d0 at HX ⊢
  generalize nd1 ⟨p0, p1, p2, p3, p4, p5, p6⟩ r0 r1 r2 r3 = d1 at HX ⊢
  generalize nd2 ⟨p0, p1, p2, p3, p4, p5, p6⟩ r0 r1 r2 r3 = d2 at HX f2 ⊢
  generalize nd3 ⟨p0, p1, p2, p3, p4, p5, p6⟩ r0 r1 r2 r3 = d3 at HX f3 ⊢
  go_enter Try.func31, Try.ntmps31
  go_upto_region 1 with fail
  have hs := (((St.start w).alloc (ao p0 p1 p2 p3 p4 p5 p6)).alloc (ro r0 r1 r2 r3)).alloc (ro 0 0 0 0)
  simp only [World.size_alloc] at hs
  generalize hb0 : w.heap.size = b0 at hs ⊢
  generalize ((w.alloc (ao p0 p1 p2 p3 p4 p5 p6)).alloc (ro r0 r1 r2 r3)).alloc (ro 0 0 0 0) = w1 at hs ⊢
  obtain ⟨_, _, _, _, _, _, _⟩ := St.aff hs (b := b0) (a := p0) (b' := p1) (c := p2) (d := p3) (e := p4) (f := p5) (n := p6) (by simp)
  obtain ⟨_, _, _, _⟩ := St.rect hs (b := b0 + 1) (x0 := r0) (x1 := r1) (x2 := r2) (x3 := r3) (by simp)
  go_upto_region 5 with (first | (go_at_call 53; (with_reducible refine (St.call hs (HC.out _)).mono ?_); rintro en w2 ⟨rfl, h2⟩; obtain ⟨_, _, _, _⟩ := St.rect h2 (b := b0 + 1) (x0 := r0) (x1 := r1) (x2 := r2) (x3 := r3) (by simp)) | (go_at_call 54; (with_reducible refine (St.call h2 (HE.out _)).mono ?_); rintro en w3 ⟨rfl, h3⟩; obtain ⟨_, _, _, _⟩ := St.rect h3 (b := b0 + 1) (x0 := r0) (x1 := r1) (x2 := r2) (x3 := r3) (by simp)))
  have h4 := h3.alloc (ro r0 r1 (r2 - 1) (r3 - 1))
  generalize w3.heap.size = b4 at h4 ⊢
  generalize w3.alloc (ro r0 r1 (r2 - 1) (r3 - 1)) = w4 at h4 ⊢
  obtain ⟨_, _, _, _⟩ := St.rect h4 (b := b4) (x0 := r0) (x1 := r1) (x2 := (r2 - 1)) (x3 := (r3 - 1)) (by simp)
  go_upto_region 6 with (first | (go_at_call 56; (with_reducible refine (St.call h4 (corners_any _ _ _ _ _)).mono ?_); rintro en w5 ⟨rfl, h5⟩) | (go_at_call 55; (with_reducible refine (St.call h5 (HX.out _ _ ?_ ?_)).mono ?_); (focus exact h5.lt (b := b0) (o := ao p0 p1 p2 p3 p4 p5 p6) (by simp)); (focus exact St.aff h5 (by simp)); rintro en w6 ⟨rfl, h6⟩))
  have h8 := (h6.alloc (pob d0 d1)).alloc (pob d2 d3)
  rw [World.size_alloc] at h8
  generalize w6.heap.size = b6 at h8 ⊢
  generalize (w6.alloc (pob d0 d1)).alloc (pob d2 d3) = w8 at h8 ⊢
  obtain ⟨_, _⟩ := St.pt h8 (b := b6) (x := d0) (y := d1) (by simp)
  obtain ⟨_, _⟩ := St.pt h8 (b := b6 + 1) (x := d2) (y := d3) (by simp)
  obtain ⟨_, _, _, _⟩ := St.rect h8 (b := b0 + 1 + 1) (x0 := 0) (x1 := 0) (x2 := 0) (x3 := 0) (by simp)
  have : ∀ j, _ = false := h8.frozen (b := b0 + 1 + 1) (cs := #[.int .i64 0, .int .i64 0, .int .i64 0, .int .i64 0]) (t := 51) (by simp)
  go_wp2
  subst hb0; exact bodyPost_ret (v := .tuple #[rv d0 d1 (d2 + 1) (d3 + 1), .int .i64 0]) (by simp [results, Try.results31, go_sem, *]) rfl ⟨rfl, below_set4 h8.below (by omega) _ _ _ _⟩
end Go.Proofs.Ytgipfcpkphmbpaa.F
