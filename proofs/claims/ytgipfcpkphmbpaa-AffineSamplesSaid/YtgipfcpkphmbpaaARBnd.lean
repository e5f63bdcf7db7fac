/-
  Bounds of the reference.
-/
import Derived.Test.YtgipfcpkphmbpaaARNeed
import Derived.Test.YtgipfcpkphmbpaaABnd
namespace Go.Proofs.Ytgipfcpkphmbpaa.F
open Go.RowKit
set_option maxRecDepth 100000

theorem cei_fl {n d : Int} (hd : 0 < d) (hn : -1000000000000000000 ≤ n ∧ n ≤ 1000000000000000000) : cei n d = -(fl (-n) d) := by
  have hz : (d == 0) = false := by simp; omega
  have h0 := tdiv_rem n d
  have hb := (tmod_bd n d).1 hd
  have hs := tmod_sign n d
  have hq : -1000000000000000000 ≤ n.tdiv d ∧ n.tdiv d ≤ 1000000000000000000 := by
    have := Int.natAbs_tdiv_le_natAbs n d
    omega
  have key : cei n d = if n.tmod d ≠ 0 ∧ dif n d = false then n.tdiv d + 1 else n.tdiv d := by
    unfold cei
    rw [hz]
    simp only [Bool.false_eq_true, if_false, Bool.and_eq_true, bne_iff_ne, Bool.not_eq_true']
    split
    · rw [w64 (x := n.tdiv d) ⟨by omega, by omega⟩, w64 ⟨by omega, by omega⟩]
    · rw [w64 (x := n.tdiv d) ⟨by omega, by omega⟩]
  have hres : fl (-n) d = -(if n.tmod d ≠ 0 ∧ dif n d = false then n.tdiv d + 1 else n.tdiv d) := by
    rw [fl_pos hd]
    have hdf := dif_iff n d
    split
    case isTrue hc =>
      have hn0 : ¬ n < 0 := fun h => by have := hdf.2 (.inl ⟨h, by omega⟩); rw [hc.2] at this; cases this
      rw [Int.mul_neg, Int.mul_add, Int.mul_one]; generalize d * n.tdiv d = p at *; omega
    case isFalse hc =>
      have hn0 : n.tmod d = 0 ∨ n < 0 := by
        by_cases hm : n.tmod d = 0
        · exact .inl hm
        · right
          have h1 : dif n d = true := by
            cases hx : dif n d
            · exact absurd ⟨hm, hx⟩ hc
            · rfl
          rcases hdf.1 h1 with h | h <;> omega
      rw [Int.mul_neg]; generalize d * n.tdiv d = p at *; omega
  rw [key, hres, Int.neg_neg]
theorem fCe_cei {lo n : Int} (hn : 1 ≤ n ∧ n ≤ 4096) (hl : -10000000000 ≤ lo ∧ lo ≤ 10000000000) : cei (2 * lo - n) (2 * n) = fCe lo n := by
  rw [cei_fl (by omega) ⟨by omega, by omega⟩, show -(2 * lo - n) = n - 2 * lo by omega]; rfl
theorem lCe_flo {hi n : Int} (hn : 1 ≤ n ∧ n ≤ 4096) (hl : -10000000000 ≤ hi ∧ hi ≤ 10000000000) : flo (2 * hi - n) (2 * n) = lCe hi n := (flo_fl (by omega) ⟨by omega, by omega⟩).1
set_option maxHeartbeats 8000000 in
theorem refBoundsT_any (p0 p1 p2 p3 p4 p5 p6 r0 r1 r2 r3 : Int) (w : World) : Calls Try.prog 35 #[av p0 p1 p2 p3 p4 p5 p6, rv r0 r1 r2 r3] w fun en w' => en = .returned (boundsT ⟨p0, p1, p2, p3, p4, p5, p6⟩ r0 r1 r2 r3).r ∧ Below w.heap.size w w' := by
  have HV : Hid (∀ W, Calls Try.prog 17 #[av p0 p1 p2 p3 p4 p5 p6] W fun en w' => en = .returned ((.bool (okA ⟨p0, p1, p2, p3, p4, p5, p6⟩))) ∧ Below W.heap.size W w') := fun W => refOk_any p0 p1 p2 p3 p4 p5 p6 W
  have HE : Hid (∀ W, Calls Try.prog 63 #[rv r0 r1 r2 r3] W fun en w' => en = .returned ((.bool (emp r0 r1 r2 r3))) ∧ Below W.heap.size W w') := fun W => refEmpty_any r0 r1 r2 r3 W
  have HW : Hid (∀ W, Calls Try.prog 64 #[rv r0 r1 r2 r3] W fun en w' => en = .returned ((.bool (vld r0 r1 r2 r3))) ∧ Below W.heap.size W w') := fun W => refValid_any r0 r1 r2 r3 W
  have HO : Hid (okA ⟨p0, p1, p2, p3, p4, p5, p6⟩ = true → emp r0 r1 r2 r3 = false → vld r0 r1 r2 r3 = true → Ok ⟨p0, p1, p2, p3, p4, p5, p6⟩ ∧ (-65536 ≤ r0 ∧ r0 < r2 ∧ r2 ≤ 65536) ∧ (-65536 ≤ r1 ∧ r1 < r3 ∧ r3 ≤ 65536)) := fun h1 h2 h3 => chkE_ok (by unfold chkE; rw [h1, h2, h3]; rfl) h2
  unfold boundsT chkE
  generalize okA ⟨p0, p1, p2, p3, p4, p5, p6⟩ = s1 at HV HO ⊢
  generalize emp r0 r1 r2 r3 = s2 at HE HO ⊢
  generalize vld r0 r1 r2 r3 = s3 at HW HO ⊢
  cases s1
  · cases s2 <;> cases s3
    all_goals
      go_enter Try.func35, Try.ntmps35
      go_upto_region 1 with fail
      have hs := (((St.start w).alloc (ao p0 p1 p2 p3 p4 p5 p6)).alloc (ro r0 r1 r2 r3)).alloc (b5o 0 0 0 0 0)
      simp only [World.size_alloc] at hs
      generalize hb0 : w.heap.size = b0 at hs ⊢
      generalize ((w.alloc (ao p0 p1 p2 p3 p4 p5 p6)).alloc (ro r0 r1 r2 r3)).alloc (b5o 0 0 0 0 0) = w1 at hs ⊢
      obtain ⟨_, _, _, _, _, _, _⟩ := St.aff hs (b := b0) (a := p0) (b' := p1) (c := p2) (d := p3) (e := p4) (f := p5) (n := p6) (by simp)
      obtain ⟨_, _, _, _⟩ := St.rect hs (b := b0 + 1) (x0 := r0) (x1 := r1) (x2 := r2) (x3 := r3) (by simp)
      go_wp2_with (first | (go_at_call 17; (with_reducible refine (St.call hs (HV.out _)).mono ?_); rintro en w2 ⟨rfl, h2⟩; obtain ⟨_, _, _, _⟩ := St.rect h2 (b := b0 + 1) (x0 := r0) (x1 := r1) (x2 := r2) (x3 := r3) (by simp)) | (go_at_call 63; (with_reducible refine (St.call h2 (HE.out _)).mono ?_); rintro en w3 ⟨rfl, h3⟩; obtain ⟨_, _, _, _⟩ := St.rect h3 (b := b0 + 1) (x0 := r0) (x1 := r1) (x2 := r2) (x3 := r3) (by simp)) | (go_at_call 64; (with_reducible refine (St.call h3 (HW.out _)).mono ?_); rintro en w4 ⟨rfl, h4⟩; obtain ⟨_, _, _, _, _⟩ := St.b5 h4 (b := b0 + 1 + 1) (x0 := 0) (x1 := 0) (x2 := 0) (x3 := 0) (x4 := 0) (t := 66) (by simp); have : ∀ j, _ = false := h4.frozen (b := b0 + 1 + 1) (cs := #[.int .i64 0, .int .i64 0, .int .i64 0, .int .i64 0, .int .i64 0]) (t := 66) (by simp)))
      subst hb0; exact bodyPost_ret (v := .agg #[.int .i64 0, .int .i64 0, .int .i64 0, .int .i64 0, .int .i64 1]) (by simp [results, Try.results35, go_sem, *]) rfl ⟨rfl, below_set5 h4.below (by omega) _ _ _ _ _⟩
  cases s2
  case true =>
    cases s3
    all_goals
      go_enter Try.func35, Try.ntmps35
      go_upto_region 1 with fail
      have hs := (((St.start w).alloc (ao p0 p1 p2 p3 p4 p5 p6)).alloc (ro r0 r1 r2 r3)).alloc (b5o 0 0 0 0 0)
      simp only [World.size_alloc] at hs
      generalize hb0 : w.heap.size = b0 at hs ⊢
      generalize ((w.alloc (ao p0 p1 p2 p3 p4 p5 p6)).alloc (ro r0 r1 r2 r3)).alloc (b5o 0 0 0 0 0) = w1 at hs ⊢
      obtain ⟨_, _, _, _, _, _, _⟩ := St.aff hs (b := b0) (a := p0) (b' := p1) (c := p2) (d := p3) (e := p4) (f := p5) (n := p6) (by simp)
      obtain ⟨_, _, _, _⟩ := St.rect hs (b := b0 + 1) (x0 := r0) (x1 := r1) (x2 := r2) (x3 := r3) (by simp)
      go_wp2_with (first | (go_at_call 17; (with_reducible refine (St.call hs (HV.out _)).mono ?_); rintro en w2 ⟨rfl, h2⟩; obtain ⟨_, _, _, _⟩ := St.rect h2 (b := b0 + 1) (x0 := r0) (x1 := r1) (x2 := r2) (x3 := r3) (by simp)) | (go_at_call 63; (with_reducible refine (St.call h2 (HE.out _)).mono ?_); rintro en w3 ⟨rfl, h3⟩; obtain ⟨_, _, _, _⟩ := St.rect h3 (b := b0 + 1) (x0 := r0) (x1 := r1) (x2 := r2) (x3 := r3) (by simp)) | (go_at_call 64; (with_reducible refine (St.call h3 (HW.out _)).mono ?_); rintro en w4 ⟨rfl, h4⟩; obtain ⟨_, _, _, _, _⟩ := St.b5 h4 (b := b0 + 1 + 1) (x0 := 0) (x1 := 0) (x2 := 0) (x3 := 0) (x4 := 0) (t := 66) (by simp); have : ∀ j, _ = false := h4.frozen (b := b0 + 1 + 1) (cs := #[.int .i64 0, .int .i64 0, .int .i64 0, .int .i64 0, .int .i64 0]) (t := 66) (by simp)))
      subst hb0; exact bodyPost_ret (v := .agg #[.int .i64 0, .int .i64 0, .int .i64 0, .int .i64 0, .int .i64 0]) (by simp [results, Try.results35, go_sem, *]) rfl ⟨rfl, below_set5 h4.below (by omega) _ _ _ _ _⟩
  cases s3
  · go_enter Try.func35, Try.ntmps35
    go_upto_region 1 with fail
    have hs := (((St.start w).alloc (ao p0 p1 p2 p3 p4 p5 p6)).alloc (ro r0 r1 r2 r3)).alloc (b5o 0 0 0 0 0)
    simp only [World.size_alloc] at hs
    generalize hb0 : w.heap.size = b0 at hs ⊢
    generalize ((w.alloc (ao p0 p1 p2 p3 p4 p5 p6)).alloc (ro r0 r1 r2 r3)).alloc (b5o 0 0 0 0 0) = w1 at hs ⊢
    obtain ⟨_, _, _, _, _, _, _⟩ := St.aff hs (b := b0) (a := p0) (b' := p1) (c := p2) (d := p3) (e := p4) (f := p5) (n := p6) (by simp)
    obtain ⟨_, _, _, _⟩ := St.rect hs (b := b0 + 1) (x0 := r0) (x1 := r1) (x2 := r2) (x3 := r3) (by simp)
    go_wp2_with (first | (go_at_call 17; (with_reducible refine (St.call hs (HV.out _)).mono ?_); rintro en w2 ⟨rfl, h2⟩; obtain ⟨_, _, _, _⟩ := St.rect h2 (b := b0 + 1) (x0 := r0) (x1 := r1) (x2 := r2) (x3 := r3) (by simp)) | (go_at_call 63; (with_reducible refine (St.call h2 (HE.out _)).mono ?_); rintro en w3 ⟨rfl, h3⟩; obtain ⟨_, _, _, _⟩ := St.rect h3 (b := b0 + 1) (x0 := r0) (x1 := r1) (x2 := r2) (x3 := r3) (by simp)) | (go_at_call 64; (with_reducible refine (St.call h3 (HW.out _)).mono ?_); rintro en w4 ⟨rfl, h4⟩; obtain ⟨_, _, _, _, _⟩ := St.b5 h4 (b := b0 + 1 + 1) (x0 := 0) (x1 := 0) (x2 := 0) (x3 := 0) (x4 := 0) (t := 66) (by simp); have : ∀ j, _ = false := h4.frozen (b := b0 + 1 + 1) (cs := #[.int .i64 0, .int .i64 0, .int .i64 0, .int .i64 0, .int .i64 0]) (t := 66) (by simp)))
    subst hb0; exact bodyPost_ret (v := .agg #[.int .i64 0, .int .i64 0, .int .i64 0, .int .i64 0, .int .i64 1]) (by simp [results, Try.results35, go_sem, *]) rfl ⟨rfl, below_set5 h4.below (by omega) _ _ _ _ _⟩
  obtain ⟨hok, hx, hy⟩ := HO.out rfl rfl rfl
  clear HO
  have k0 : Cb r0 := by unfold Cb; omega
  have k1 : Cb r1 := by unfold Cb; omega
  have k2 : Cb r2 := by unfold Cb; omega
  have k3 : Cb r3 := by unfold Cb; omega
  have hn : 1 ≤ p6 ∧ p6 ≤ 4096 := hok.1.1
  have hbd := hok.1
  unfold Bd at hbd
  simp only at hbd
  have hR : bndR ⟨p0, p1, p2, p3, p4, p5, p6⟩ r0 r1 r2 r3 = nrm (mx (fCe (bl0 ⟨p0, p1, p2, p3, p4, p5, p6⟩ r0 r1 r2 r3) p6) (-65536)) (mx (fCe (bl1 ⟨p0, p1, p2, p3, p4, p5, p6⟩ r0 r1 r2 r3) p6) (-65536)) (mn (lCe (bl2 ⟨p0, p1, p2, p3, p4, p5, p6⟩ r0 r1 r2 r3) p6 + 1) 65536) (mn (lCe (bl3 ⟨p0, p1, p2, p3, p4, p5, p6⟩ r0 r1 r2 r3) p6 + 1) 65536) := rfl
  have hb0' : bl0 ⟨p0, p1, p2, p3, p4, p5, p6⟩ r0 r1 r2 r3 = mn (mn (mn (ux ⟨p0, p1, p2, p3, p4, p5, p6⟩ r0 r1) (ux ⟨p0, p1, p2, p3, p4, p5, p6⟩ r2 r1)) (ux ⟨p0, p1, p2, p3, p4, p5, p6⟩ r0 r3)) (ux ⟨p0, p1, p2, p3, p4, p5, p6⟩ r2 r3) := rfl
  have hb1' : bl1 ⟨p0, p1, p2, p3, p4, p5, p6⟩ r0 r1 r2 r3 = mn (mn (mn (uy ⟨p0, p1, p2, p3, p4, p5, p6⟩ r0 r1) (uy ⟨p0, p1, p2, p3, p4, p5, p6⟩ r2 r1)) (uy ⟨p0, p1, p2, p3, p4, p5, p6⟩ r0 r3)) (uy ⟨p0, p1, p2, p3, p4, p5, p6⟩ r2 r3) := rfl
  have hb2' : bl2 ⟨p0, p1, p2, p3, p4, p5, p6⟩ r0 r1 r2 r3 = mx (mx (mx (ux ⟨p0, p1, p2, p3, p4, p5, p6⟩ r0 r1) (ux ⟨p0, p1, p2, p3, p4, p5, p6⟩ r2 r1)) (ux ⟨p0, p1, p2, p3, p4, p5, p6⟩ r0 r3)) (ux ⟨p0, p1, p2, p3, p4, p5, p6⟩ r2 r3) := rfl
  have hb3' : bl3 ⟨p0, p1, p2, p3, p4, p5, p6⟩ r0 r1 r2 r3 = mx (mx (mx (uy ⟨p0, p1, p2, p3, p4, p5, p6⟩ r0 r1) (uy ⟨p0, p1, p2, p3, p4, p5, p6⟩ r2 r1)) (uy ⟨p0, p1, p2, p3, p4, p5, p6⟩ r0 r3)) (uy ⟨p0, p1, p2, p3, p4, p5, p6⟩ r2 r3) := rfl
  have mb : ∀ v z : Int, -4096 ≤ v ∧ v ≤ 4096 → Cb z → -409600000 ≤ v * z ∧ v * z ≤ 409600000 := fun v z hv hz => by unfold Cb at hz; exact mul_le_of hv hz
  have yp0r0 := mb p0 r0 (by omega) k0
  have gp0r0 : IntKind.i64.wrap (p0 * r0) = p0 * r0 := wI64 ⟨by omega, by omega⟩
  have yp3r0 := mb p3 r0 (by omega) k0
  have gp3r0 : IntKind.i64.wrap (p3 * r0) = p3 * r0 := wI64 ⟨by omega, by omega⟩
  have yp0r2 := mb p0 r2 (by omega) k2
  have gp0r2 : IntKind.i64.wrap (p0 * r2) = p0 * r2 := wI64 ⟨by omega, by omega⟩
  have yp3r2 := mb p3 r2 (by omega) k2
  have gp3r2 : IntKind.i64.wrap (p3 * r2) = p3 * r2 := wI64 ⟨by omega, by omega⟩
  have yp1r1 := mb p1 r1 (by omega) k1
  have gp1r1 : IntKind.i64.wrap (p1 * r1) = p1 * r1 := wI64 ⟨by omega, by omega⟩
  have yp4r1 := mb p4 r1 (by omega) k1
  have gp4r1 : IntKind.i64.wrap (p4 * r1) = p4 * r1 := wI64 ⟨by omega, by omega⟩
  have yp1r3 := mb p1 r3 (by omega) k3
  have gp1r3 : IntKind.i64.wrap (p1 * r3) = p1 * r3 := wI64 ⟨by omega, by omega⟩
  have yp4r3 := mb p4 r3 (by omega) k3
  have gp4r3 : IntKind.i64.wrap (p4 * r3) = p4 * r3 := wI64 ⟨by omega, by omega⟩
  have m0 : IntKind.i64.wrap (p0 * r0 + p1 * r1) = p0 * r0 + p1 * r1 := wI64 ⟨by omega, by omega⟩
  have l0 : IntKind.i64.wrap (p3 * r0 + p4 * r1) = p3 * r0 + p4 * r1 := wI64 ⟨by omega, by omega⟩
  obtain ⟨U0, hU0⟩ : ∃ z, ux ⟨p0, p1, p2, p3, p4, p5, p6⟩ r0 r1 = z := ⟨_, rfl⟩
  obtain ⟨V0, hV0⟩ : ∃ z, uy ⟨p0, p1, p2, p3, p4, p5, p6⟩ r0 r1 = z := ⟨_, rfl⟩
  rw [hU0] at hb0' hb2'
  rw [hV0] at hb1' hb3'
  have hU0' : p0 * r0 + p1 * r1 + p2 = U0 := hU0
  have hV0' : p3 * r0 + p4 * r1 + p5 = V0 := hV0
  have u0 : IntKind.i64.wrap (p0 * r0 + p1 * r1 + p2) = U0 := by rw [hU0']; exact wI64 ⟨by omega, by omega⟩
  have v0 : IntKind.i64.wrap (p3 * r0 + p4 * r1 + p5) = V0 := by rw [hV0']; exact wI64 ⟨by omega, by omega⟩
  have bu0 : -2000000000 ≤ U0 ∧ U0 ≤ 2000000000 := by omega
  have bv0 : -2000000000 ≤ V0 ∧ V0 ≤ 2000000000 := by omega
  have m1 : IntKind.i64.wrap (p0 * r2 + p1 * r1) = p0 * r2 + p1 * r1 := wI64 ⟨by omega, by omega⟩
  have l1 : IntKind.i64.wrap (p3 * r2 + p4 * r1) = p3 * r2 + p4 * r1 := wI64 ⟨by omega, by omega⟩
  obtain ⟨U1, hU1⟩ : ∃ z, ux ⟨p0, p1, p2, p3, p4, p5, p6⟩ r2 r1 = z := ⟨_, rfl⟩
  obtain ⟨V1, hV1⟩ : ∃ z, uy ⟨p0, p1, p2, p3, p4, p5, p6⟩ r2 r1 = z := ⟨_, rfl⟩
  rw [hU1] at hb0' hb2'
  rw [hV1] at hb1' hb3'
  have hU1' : p0 * r2 + p1 * r1 + p2 = U1 := hU1
  have hV1' : p3 * r2 + p4 * r1 + p5 = V1 := hV1
  have u1 : IntKind.i64.wrap (p0 * r2 + p1 * r1 + p2) = U1 := by rw [hU1']; exact wI64 ⟨by omega, by omega⟩
  have v1 : IntKind.i64.wrap (p3 * r2 + p4 * r1 + p5) = V1 := by rw [hV1']; exact wI64 ⟨by omega, by omega⟩
  have bu1 : -2000000000 ≤ U1 ∧ U1 ≤ 2000000000 := by omega
  have bv1 : -2000000000 ≤ V1 ∧ V1 ≤ 2000000000 := by omega
  have m2 : IntKind.i64.wrap (p0 * r0 + p1 * r3) = p0 * r0 + p1 * r3 := wI64 ⟨by omega, by omega⟩
  have l2 : IntKind.i64.wrap (p3 * r0 + p4 * r3) = p3 * r0 + p4 * r3 := wI64 ⟨by omega, by omega⟩
  obtain ⟨U2, hU2⟩ : ∃ z, ux ⟨p0, p1, p2, p3, p4, p5, p6⟩ r0 r3 = z := ⟨_, rfl⟩
  obtain ⟨V2, hV2⟩ : ∃ z, uy ⟨p0, p1, p2, p3, p4, p5, p6⟩ r0 r3 = z := ⟨_, rfl⟩
  rw [hU2] at hb0' hb2'
  rw [hV2] at hb1' hb3'
  have hU2' : p0 * r0 + p1 * r3 + p2 = U2 := hU2
  have hV2' : p3 * r0 + p4 * r3 + p5 = V2 := hV2
  have u2 : IntKind.i64.wrap (p0 * r0 + p1 * r3 + p2) = U2 := by rw [hU2']; exact wI64 ⟨by omega, by omega⟩
  have v2 : IntKind.i64.wrap (p3 * r0 + p4 * r3 + p5) = V2 := by rw [hV2']; exact wI64 ⟨by omega, by omega⟩
  have bu2 : -2000000000 ≤ U2 ∧ U2 ≤ 2000000000 := by omega
  have bv2 : -2000000000 ≤ V2 ∧ V2 ≤ 2000000000 := by omega
  have m3 : IntKind.i64.wrap (p0 * r2 + p1 * r3) = p0 * r2 + p1 * r3 := wI64 ⟨by omega, by omega⟩
  have l3 : IntKind.i64.wrap (p3 * r2 + p4 * r3) = p3 * r2 + p4 * r3 := wI64 ⟨by omega, by omega⟩
  obtain ⟨U3, hU3⟩ : ∃ z, ux ⟨p0, p1, p2, p3, p4, p5, p6⟩ r2 r3 = z := ⟨_, rfl⟩
  obtain ⟨V3, hV3⟩ : ∃ z, uy ⟨p0, p1, p2, p3, p4, p5, p6⟩ r2 r3 = z := ⟨_, rfl⟩
  rw [hU3] at hb0' hb2'
  rw [hV3] at hb1' hb3'
  have hU3' : p0 * r2 + p1 * r3 + p2 = U3 := hU3
  have hV3' : p3 * r2 + p4 * r3 + p5 = V3 := hV3
  have u3 : IntKind.i64.wrap (p0 * r2 + p1 * r3 + p2) = U3 := by rw [hU3']; exact wI64 ⟨by omega, by omega⟩
  have v3 : IntKind.i64.wrap (p3 * r2 + p4 * r3 + p5) = V3 := by rw [hV3']; exact wI64 ⟨by omega, by omega⟩
  have bu3 : -2000000000 ≤ U3 ∧ U3 ≤ 2000000000 := by omega
  have bv3 : -2000000000 ≤ V3 ∧ V3 ≤ 2000000000 := by omega
  have q0 : mn 1152921504606846976 U0 = U0 := by unfold mn; rw [if_pos (by omega)]
  have q1 : mn 1152921504606846976 V0 = V0 := by unfold mn; rw [if_pos (by omega)]
  have q2 : mx (-1152921504606846976) U0 = U0 := by unfold mx; rw [if_pos (by omega)]
  have q3 : mx (-1152921504606846976) V0 = V0 := by unfold mx; rw [if_pos (by omega)]
  have w0 : -10000000000 ≤ bl0 ⟨p0, p1, p2, p3, p4, p5, p6⟩ r0 r1 r2 r3 ∧ bl0 ⟨p0, p1, p2, p3, p4, p5, p6⟩ r0 r1 r2 r3 ≤ 10000000000 := by rw [hb0']; simp only [mn_eq]; omega
  have w1 : -10000000000 ≤ bl1 ⟨p0, p1, p2, p3, p4, p5, p6⟩ r0 r1 r2 r3 ∧ bl1 ⟨p0, p1, p2, p3, p4, p5, p6⟩ r0 r1 r2 r3 ≤ 10000000000 := by rw [hb1']; simp only [mn_eq]; omega
  have w2 : -10000000000 ≤ bl2 ⟨p0, p1, p2, p3, p4, p5, p6⟩ r0 r1 r2 r3 ∧ bl2 ⟨p0, p1, p2, p3, p4, p5, p6⟩ r0 r1 r2 r3 ≤ 10000000000 := by rw [hb2']; simp only [mx_eq]; omega
  have w3 : -10000000000 ≤ bl3 ⟨p0, p1, p2, p3, p4, p5, p6⟩ r0 r1 r2 r3 ∧ bl3 ⟨p0, p1, p2, p3, p4, p5, p6⟩ r0 r1 r2 r3 ≤ 10000000000 := by rw [hb3']; simp only [mx_eq]; omega
  have HF0 : Hid (∀ W, Calls Try.prog 66 #[.int .i64 (2 * bl0 ⟨p0, p1, p2, p3, p4, p5, p6⟩ r0 r1 r2 r3 - p6), .int .i64 (2 * p6)] W fun en w' => en = .returned (.int .i64 (fCe (bl0 ⟨p0, p1, p2, p3, p4, p5, p6⟩ r0 r1 r2 r3) p6)) ∧ Below W.heap.size W w') := fun W => by
    have := refCeil_any (2 * bl0 ⟨p0, p1, p2, p3, p4, p5, p6⟩ r0 r1 r2 r3 - p6) (2 * p6) W; rw [fCe_cei hn w0] at this; exact this.mono fun _ _ ⟨u, v⟩ => ⟨u, v ▸ Below.refl _ _⟩
  have z0a : IntKind.i64.wrap (2 * bl0 ⟨p0, p1, p2, p3, p4, p5, p6⟩ r0 r1 r2 r3) = 2 * bl0 ⟨p0, p1, p2, p3, p4, p5, p6⟩ r0 r1 r2 r3 := wI64 ⟨by omega, by omega⟩
  have z0b : IntKind.i64.wrap (2 * bl0 ⟨p0, p1, p2, p3, p4, p5, p6⟩ r0 r1 r2 r3 - p6) = 2 * bl0 ⟨p0, p1, p2, p3, p4, p5, p6⟩ r0 r1 r2 r3 - p6 := wI64 ⟨by omega, by omega⟩
  have HF1 : Hid (∀ W, Calls Try.prog 66 #[.int .i64 (2 * bl1 ⟨p0, p1, p2, p3, p4, p5, p6⟩ r0 r1 r2 r3 - p6), .int .i64 (2 * p6)] W fun en w' => en = .returned (.int .i64 (fCe (bl1 ⟨p0, p1, p2, p3, p4, p5, p6⟩ r0 r1 r2 r3) p6)) ∧ Below W.heap.size W w') := fun W => by
    have := refCeil_any (2 * bl1 ⟨p0, p1, p2, p3, p4, p5, p6⟩ r0 r1 r2 r3 - p6) (2 * p6) W; rw [fCe_cei hn w1] at this; exact this.mono fun _ _ ⟨u, v⟩ => ⟨u, v ▸ Below.refl _ _⟩
  have z1a : IntKind.i64.wrap (2 * bl1 ⟨p0, p1, p2, p3, p4, p5, p6⟩ r0 r1 r2 r3) = 2 * bl1 ⟨p0, p1, p2, p3, p4, p5, p6⟩ r0 r1 r2 r3 := wI64 ⟨by omega, by omega⟩
  have z1b : IntKind.i64.wrap (2 * bl1 ⟨p0, p1, p2, p3, p4, p5, p6⟩ r0 r1 r2 r3 - p6) = 2 * bl1 ⟨p0, p1, p2, p3, p4, p5, p6⟩ r0 r1 r2 r3 - p6 := wI64 ⟨by omega, by omega⟩
  have HF2 : Hid (∀ W, Calls Try.prog 67 #[.int .i64 (2 * bl2 ⟨p0, p1, p2, p3, p4, p5, p6⟩ r0 r1 r2 r3 - p6), .int .i64 (2 * p6)] W fun en w' => en = .returned (.int .i64 (lCe (bl2 ⟨p0, p1, p2, p3, p4, p5, p6⟩ r0 r1 r2 r3) p6)) ∧ Below W.heap.size W w') := fun W => by
    have := refFloor_any (2 * bl2 ⟨p0, p1, p2, p3, p4, p5, p6⟩ r0 r1 r2 r3 - p6) (2 * p6) W; rw [lCe_flo hn w2] at this; exact this.mono fun _ _ ⟨u, v⟩ => ⟨u, v ▸ Below.refl _ _⟩
  have z2a : IntKind.i64.wrap (2 * bl2 ⟨p0, p1, p2, p3, p4, p5, p6⟩ r0 r1 r2 r3) = 2 * bl2 ⟨p0, p1, p2, p3, p4, p5, p6⟩ r0 r1 r2 r3 := wI64 ⟨by omega, by omega⟩
  have z2b : IntKind.i64.wrap (2 * bl2 ⟨p0, p1, p2, p3, p4, p5, p6⟩ r0 r1 r2 r3 - p6) = 2 * bl2 ⟨p0, p1, p2, p3, p4, p5, p6⟩ r0 r1 r2 r3 - p6 := wI64 ⟨by omega, by omega⟩
  have HF3 : Hid (∀ W, Calls Try.prog 67 #[.int .i64 (2 * bl3 ⟨p0, p1, p2, p3, p4, p5, p6⟩ r0 r1 r2 r3 - p6), .int .i64 (2 * p6)] W fun en w' => en = .returned (.int .i64 (lCe (bl3 ⟨p0, p1, p2, p3, p4, p5, p6⟩ r0 r1 r2 r3) p6)) ∧ Below W.heap.size W w') := fun W => by
    have := refFloor_any (2 * bl3 ⟨p0, p1, p2, p3, p4, p5, p6⟩ r0 r1 r2 r3 - p6) (2 * p6) W; rw [lCe_flo hn w3] at this; exact this.mono fun _ _ ⟨u, v⟩ => ⟨u, v ▸ Below.refl _ _⟩
  have z3a : IntKind.i64.wrap (2 * bl3 ⟨p0, p1, p2, p3, p4, p5, p6⟩ r0 r1 r2 r3) = 2 * bl3 ⟨p0, p1, p2, p3, p4, p5, p6⟩ r0 r1 r2 r3 := wI64 ⟨by omega, by omega⟩
  have z3b : IntKind.i64.wrap (2 * bl3 ⟨p0, p1, p2, p3, p4, p5, p6⟩ r0 r1 r2 r3 - p6) = 2 * bl3 ⟨p0, p1, p2, p3, p4, p5, p6⟩ r0 r1 r2 r3 - p6 := wI64 ⟨by omega, by omega⟩
  have f2 : IntKind.i64.wrap (lCe (bl2 ⟨p0, p1, p2, p3, p4, p5, p6⟩ r0 r1 r2 r3) p6 + 1) = lCe (bl2 ⟨p0, p1, p2, p3, p4, p5, p6⟩ r0 r1 r2 r3) p6 + 1 := by rw [wrapI]; exact lCe_bd hn w2
  have f3 : IntKind.i64.wrap (lCe (bl3 ⟨p0, p1, p2, p3, p4, p5, p6⟩ r0 r1 r2 r3) p6 + 1) = lCe (bl3 ⟨p0, p1, p2, p3, p4, p5, p6⟩ r0 r1 r2 r3) p6 + 1 := by rw [wrapI]; exact lCe_bd hn w3
  have e6 : wrap64 (2 * p6) = 2 * p6 := w64 ⟨by omega, by omega⟩
  have HI : Hid (∀ W, Calls Try.prog 68 #[rv (fCe (bl0 ⟨p0, p1, p2, p3, p4, p5, p6⟩ r0 r1 r2 r3) p6) (fCe (bl1 ⟨p0, p1, p2, p3, p4, p5, p6⟩ r0 r1 r2 r3) p6) (lCe (bl2 ⟨p0, p1, p2, p3, p4, p5, p6⟩ r0 r1 r2 r3) p6 + 1) (lCe (bl3 ⟨p0, p1, p2, p3, p4, p5, p6⟩ r0 r1 r2 r3) p6 + 1), rv (-65536) (-65536) 65536 65536] W fun en w' => en = .returned (bndR ⟨p0, p1, p2, p3, p4, p5, p6⟩ r0 r1 r2 r3).v ∧ Below W.heap.size W w') := fun W => by
    rw [hR]; exact refInter_any _ _ _ _ _ _ _ _ W
  clear w0 w1 w2 w3 hn hbd hok hx hy k0 k1 k2 k3 hR mb bu0 bu1 bu2 bu3 bv0 bv1 bv2 bv3 hU0 hU1 hU2 hU3 hV0 hV1 hV2 hV3 hU0' hU1' hU2' hU3' hV0' hV1' hV2' hV3'
  clear yp0r0 yp3r0 yp0r2 yp3r2 yp1r1 yp4r1 yp1r3 yp4r3
  generalize bndR ⟨p0, p1, p2, p3, p4, p5, p6⟩ r0 r1 r2 r3 = rr at HI ⊢
  obtain ⟨t0, t1, t2, t3⟩ := rr
  generalize fCe (bl0 ⟨p0, p1, p2, p3, p4, p5, p6⟩ r0 r1 r2 r3) p6 = c0 at HF0 HI
  generalize fCe (bl1 ⟨p0, p1, p2, p3, p4, p5, p6⟩ r0 r1 r2 r3) p6 = c1 at HF1 HI
  generalize lCe (bl2 ⟨p0, p1, p2, p3, p4, p5, p6⟩ r0 r1 r2 r3) p6 = c2 at HF2 HI f2
  generalize lCe (bl3 ⟨p0, p1, p2, p3, p4, p5, p6⟩ r0 r1 r2 r3) p6 = c3 at HF3 HI f3
  generalize bl0 ⟨p0, p1, p2, p3, p4, p5, p6⟩ r0 r1 r2 r3 = d0 at *
  generalize bl1 ⟨p0, p1, p2, p3, p4, p5, p6⟩ r0 r1 r2 r3 = d1 at *
  generalize bl2 ⟨p0, p1, p2, p3, p4, p5, p6⟩ r0 r1 r2 r3 = d2 at *
  generalize bl3 ⟨p0, p1, p2, p3, p4, p5, p6⟩ r0 r1 r2 r3 = d3 at *
  have HD := Lib.hid (⟨hb0', hb1', hb2', hb3'⟩ : d0 = _ ∧ d1 = _ ∧ d2 = _ ∧ d3 = _)
  clear hb0' hb1' hb2' hb3'
  have hmx := run_mx
  have hmn := run_mn
  go_enter Try.func35, Try.ntmps35
  go_upto_region 1 with fail
  have hs := (((St.start w).alloc (ao p0 p1 p2 p3 p4 p5 p6)).alloc (ro r0 r1 r2 r3)).alloc (b5o 0 0 0 0 0)
  simp only [World.size_alloc] at hs
  generalize hb0 : w.heap.size = b0 at hs ⊢
  generalize ((w.alloc (ao p0 p1 p2 p3 p4 p5 p6)).alloc (ro r0 r1 r2 r3)).alloc (b5o 0 0 0 0 0) = w1 at hs ⊢
  obtain ⟨_, _, _, _, _, _, _⟩ := St.aff hs (b := b0) (a := p0) (b' := p1) (c := p2) (d := p3) (e := p4) (f := p5) (n := p6) (by simp)
  obtain ⟨_, _, _, _⟩ := St.rect hs (b := b0 + 1) (x0 := r0) (x1 := r1) (x2 := r2) (x3 := r3) (by simp)
  go_upto_region 9 with (first | (go_at_call 17; (with_reducible refine (St.call hs (HV.out _)).mono ?_); rintro en w2 ⟨rfl, h2⟩; obtain ⟨_, _, _, _⟩ := St.rect h2 (b := b0 + 1) (x0 := r0) (x1 := r1) (x2 := r2) (x3 := r3) (by simp)) | (go_at_call 63; (with_reducible refine (St.call h2 (HE.out _)).mono ?_); rintro en w3 ⟨rfl, h3⟩; obtain ⟨_, _, _, _⟩ := St.rect h3 (b := b0 + 1) (x0 := r0) (x1 := r1) (x2 := r2) (x3 := r3) (by simp)) | (go_at_call 64; (with_reducible refine (St.call h3 (HW.out _)).mono ?_); rintro en w4 ⟨rfl, h4⟩; obtain ⟨_, _, _, _⟩ := St.rect h4 (b := b0 + 1) (x0 := r0) (x1 := r1) (x2 := r2) (x3 := r3) (by simp)))
  have h5 := h4.alloc (.cells #[.int .i64 r0, .int .i64 r2] 72)
  generalize w4.heap.size = b8 at h5 ⊢
  generalize w4.alloc (.cells #[.int .i64 r0, .int .i64 r2] 72) = w5 at h5 ⊢
  obtain ⟨_, _, _, _⟩ := St.rect h5 (b := b0 + 1) (x0 := r0) (x1 := r1) (x2 := r2) (x3 := r3) (by simp)
  go_upto_region 10 with fail
  have h6 := h5.alloc (.cells #[.int .i64 r1, .int .i64 r3] 72)
  generalize w5.heap.size = b9 at h6 ⊢
  generalize w5.alloc (.cells #[.int .i64 r1, .int .i64 r3] 72) = w6 at h6 ⊢
  go_upto_region 11 with fail
  have hne10 := h6.ne
  have hle10 := h6.below.size
  have h7 := h6.alloc (pob 1152921504606846976 1152921504606846976)
  generalize w6.heap.size = b10 at h7 hne10 hle10 ⊢
  generalize w6.alloc (pob 1152921504606846976 1152921504606846976) = w7 at h7 ⊢
  go_upto_region 12 with fail
  have hne11 := h7.ne
  have hle11 := h7.below.size
  have h8 := h7.alloc (pob (-1152921504606846976) (-1152921504606846976))
  generalize w7.heap.size = b11 at h8 hne11 hle11 ⊢
  generalize w7.alloc (pob (-1152921504606846976) (-1152921504606846976)) = w8 at h8 ⊢
  have hn1 : b10 ≠ b11 := hne11 (b10, pob 1152921504606846976 1152921504606846976) (by simp)
  have hn2 : ∀ x ∈ [(b9, .cells #[.int .i64 r1, .int .i64 r3] 72), (b8, .cells #[.int .i64 r0, .int .i64 r2] 72), (b0 + 1 + 1, b5o 0 0 0 0 0), (b0 + 1, ro r0 r1 r2 r3), (b0, ao p0 p1 p2 p3 p4 p5 p6)], x.1 ≠ b11 := fun x hx => hne11 x (List.mem_cons_of_mem _ hx)
  go_wp2_with fail
  go_loopw [12] (fun i wr => (i = .int .i64 0 ∧ Hid (St w ((b11, pob (-1152921504606846976) (-1152921504606846976)) :: (b10, pob 1152921504606846976 1152921504606846976) :: [(b9, .cells #[.int .i64 r1, .int .i64 r3] 72), (b8, .cells #[.int .i64 r0, .int .i64 r2] 72), (b0 + 1 + 1, b5o 0 0 0 0 0), (b0 + 1, ro r0 r1 r2 r3), (b0, ao p0 p1 p2 p3 p4 p5 p6)]) wr)) ∨ (i = .int .i64 1 ∧ Hid (St w ((b11, pob U0 V0) :: (b10, pob U0 V0) :: [(b9, .cells #[.int .i64 r1, .int .i64 r3] 72), (b8, .cells #[.int .i64 r0, .int .i64 r2] 72), (b0 + 1 + 1, b5o 0 0 0 0 0), (b0 + 1, ro r0 r1 r2 r3), (b0, ao p0 p1 p2 p3 p4 p5 p6)]) wr)) ∨ (i = .int .i64 2 ∧ Hid (St w ((b11, pob (mx U0 U1) (mx V0 V1)) :: (b10, pob (mn U0 U1) (mn V0 V1)) :: [(b9, .cells #[.int .i64 r1, .int .i64 r3] 72), (b8, .cells #[.int .i64 r0, .int .i64 r2] 72), (b0 + 1 + 1, b5o 0 0 0 0 0), (b0 + 1, ro r0 r1 r2 r3), (b0, ao p0 p1 p2 p3 p4 p5 p6)]) wr)) ∨ (i = .int .i64 3 ∧ Hid (St w ((b11, pob (mx (mx U0 U1) U2) (mx (mx V0 V1) V2)) :: (b10, pob (mn (mn U0 U1) U2) (mn (mn V0 V1) V2)) :: [(b9, .cells #[.int .i64 r1, .int .i64 r3] 72), (b8, .cells #[.int .i64 r0, .int .i64 r2] 72), (b0 + 1 + 1, b5o 0 0 0 0 0), (b0 + 1, ro r0 r1 r2 r3), (b0, ao p0 p1 p2 p3 p4 p5 p6)]) wr)) ∨ (i = .int .i64 4 ∧ Hid (St w ((b11, pob (mx (mx (mx U0 U1) U2) U3) (mx (mx (mx V0 V1) V2) V3)) :: (b10, pob (mn (mn (mn U0 U1) U2) U3) (mn (mn (mn V0 V1) V2) V3)) :: [(b9, .cells #[.int .i64 r1, .int .i64 r3] 72), (b8, .cells #[.int .i64 r0, .int .i64 r2] 72), (b0 + 1 + 1, b5o 0 0 0 0 0), (b0 + 1, ro r0 r1 r2 r3), (b0, ao p0 p1 p2 p3 p4 p5 p6)]) wr))) (fun i _ => 4 - (intOf i).toNat)
  case atStart => exact .inl ⟨rfl, h8⟩
  case round =>
    clear h8 h7 h6 h5 h4 h3 h2 hs
    obtain ⟨rfl, HS⟩ | ⟨rfl, HS⟩ | ⟨rfl, HS⟩ | ⟨rfl, HS⟩ | ⟨rfl, HS⟩ := hrel
    · have hS := HS.out
      clear HS
      have HP : Hid (∀ V9, St w [(b9, .cells #[.int .i64 r1, .int .i64 r3] 72), (b8, .cells #[.int .i64 r0, .int .i64 r2] 72), (b0 + 1 + 1, b5o 0 0 0 0 0), (b0 + 1, ro r0 r1 r2 r3), (b0, ao p0 p1 p2 p3 p4 p5 p6)] V9 → St w [(b9, .cells #[.int .i64 r1, .int .i64 r3] 72), (b8, .cells #[.int .i64 r0, .int .i64 r2] 72), (b0 + 1 + 1, b5o 0 0 0 0 0), (b0 + 1, ro r0 r1 r2 r3), (b0, ao p0 p1 p2 p3 p4 p5 p6)] V9 ∧ AB V9 b0 p0 p1 p2 p3 p4 p5 p6 ∧ V9.cell? ⟨b8, 0, none⟩ = some (.int .i64 r0) ∧ V9.cell? ⟨b8, 1, none⟩ = some (.int .i64 r2) ∧ V9.cell? ⟨b9, 0, none⟩ = some (.int .i64 r1) ∧ V9.cell? ⟨b9, 1, none⟩ = some (.int .i64 r3)) := fun V hV => ⟨hV, St.aff hV (by simp), hV.cell (b := b8) (cs := #[.int .i64 r0, .int .i64 r2]) (t := 72) (by simp) 0, hV.cell (b := b8) (cs := #[.int .i64 r0, .int .i64 r2]) (t := 72) (by simp) 1, hV.cell (b := b9) (cs := #[.int .i64 r1, .int .i64 r3]) (t := 72) (by simp) 0, hV.cell (b := b9) (cs := #[.int .i64 r1, .int .i64 r3]) (t := 72) (by simp) 1⟩
      go_upto_region 15 with fail
      refine wp_region_held_drew (S := fun V9 => St w [(b9, .cells #[.int .i64 r1, .int .i64 r3] 72), (b8, .cells #[.int .i64 r0, .int .i64 r2] 72), (b0 + 1 + 1, b5o 0 0 0 0 0), (b0 + 1, ro r0 r1 r2 r3), (b0, ao p0 p1 p2 p3 p4 p5 p6)] V9 ∧ AB V9 b0 p0 p1 p2 p3 p4 p5 p6 ∧ V9.cell? ⟨b8, 0, none⟩ = some (.int .i64 r0) ∧ V9.cell? ⟨b8, 1, none⟩ = some (.int .i64 r2) ∧ V9.cell? ⟨b9, 0, none⟩ = some (.int .i64 r1) ∧ V9.cell? ⟨b9, 1, none⟩ = some (.int .i64 r3)) (by kernel_rfl) ?_ (fun hHeld => ?_)
      · exact HP.out _ (hS.drew.tl.tl)
      have hS0 := hS.drew
      refine wpAnyH_take (i := 0) (oi := { dst := some 52, op := Op.fieldAddr 23 (Operand.tmp 2) 0, type := 0, pos := "ref.go:164", after := #[], guard := none }) (v := ?_) rfl (by kernel_rfl) (by kernel_rfl) (by kernel_rfl) (fun _ _ _ h => h) (Or.inl ⟨by kernel_rfl, ?_⟩) (by assumption) ?_
      rotate_left 1
      focus (intro w hSw; (try dsimp only at hSw); go_simp; (try with_reducible rfl))
      try simp only [Act.put, List.setIfInBounds_toArray, List.set_cons_zero, List.set_cons_succ]
      refine wpAnyH_take (i := 1) (oi := { dst := some 53, op := Op.load 3 (Operand.tmp 52), type := 3, pos := "ref.go:164", after := #[{ on := 0, ground := Ground.data }], guard := none }) (v := ?_) rfl (by kernel_rfl) (by kernel_rfl) (by kernel_rfl) (fun _ _ _ h => h) (Or.inl ⟨by kernel_rfl, ?_⟩) (by assumption) ?_
      rotate_left 1
      focus (intro w hSw; (try dsimp only at hSw); go_simp; (try with_reducible rfl))
      try simp only [Act.put, List.setIfInBounds_toArray, List.set_cons_zero, List.set_cons_succ]
      refine wpAnyH_take (i := 2) (oi := { dst := some 54, op := Op.move (Operand.tmp 12), type := 3, pos := "ref.go:164", after := #[], guard := none }) (v := ?_) rfl (by kernel_rfl) (by kernel_rfl) (by kernel_rfl) (fun _ _ _ h => h) (Or.inl ⟨by kernel_rfl, ?_⟩) (by assumption) ?_
      rotate_left 1
      focus (intro w hSw; (try dsimp only at hSw); go_simp; (try with_reducible rfl))
      try simp only [Act.put, List.setIfInBounds_toArray, List.set_cons_zero, List.set_cons_succ]
      refine wpAnyH_take (i := 3) (oi := { dst := some 55, op := Op.binOp BinOp.rem 3 (Operand.tmp 54) (Operand.const (Value.int IntKind.i64 2)) 3, type := 3, pos := "ref.go:164", after := #[{ on := 2, ground := Ground.data }], guard := none }) (v := (.int .i64 0)) rfl (by kernel_rfl) (by kernel_rfl) (by kernel_rfl) (fun _ _ _ h => h) (Or.inl ⟨by kernel_rfl, ?_⟩) (by assumption) ?_
      focus (intro w hSw; (try dsimp only at hSw); go_simp; try (first | rfl | decide))
      try simp only [Act.put, List.setIfInBounds_toArray, List.set_cons_zero, List.set_cons_succ]
      refine wpAnyH_take (i := 4) (oi := { dst := some 56, op := Op.indexAddr 72 (Operand.tmp 8) (Operand.tmp 55), type := 0, pos := "ref.go:164", after := #[{ on := 3, ground := Ground.data }], guard := none }) (v := ?_) rfl (by kernel_rfl) (by kernel_rfl) (by kernel_rfl) (fun _ _ _ h => h) (Or.inl ⟨by kernel_rfl, ?_⟩) (by assumption) ?_
      rotate_left 1
      focus (intro w hSw; (try dsimp only at hSw); go_simp; (try with_reducible rfl))
      try simp only [Act.put, List.setIfInBounds_toArray, List.set_cons_zero, List.set_cons_succ]
      refine wpAnyH_take (i := 5) (oi := { dst := some 57, op := Op.load 3 (Operand.tmp 56), type := 3, pos := "ref.go:164", after := #[{ on := 4, ground := Ground.data }], guard := none }) (v := ?_) rfl (by kernel_rfl) (by kernel_rfl) (by kernel_rfl) (fun _ _ _ h => h) (Or.inl ⟨by kernel_rfl, ?_⟩) (by assumption) ?_
      rotate_left 1
      focus (intro w hSw; (try dsimp only at hSw); go_simp; (try with_reducible rfl))
      try simp only [Act.put, List.setIfInBounds_toArray, List.set_cons_zero, List.set_cons_succ]
      refine wpAnyH_take (i := 6) (oi := { dst := some 58, op := Op.binOp BinOp.mul 3 (Operand.tmp 53) (Operand.tmp 57) 3, type := 3, pos := "ref.go:164", after := #[{ on := 1, ground := Ground.data }, { on := 5, ground := Ground.data }], guard := none }) (v := ?_) rfl (by kernel_rfl) (by kernel_rfl) (by kernel_rfl) (fun _ _ _ h => h) (Or.inl ⟨by kernel_rfl, ?_⟩) (by assumption) ?_
      rotate_left 1
      focus (intro w hSw; (try dsimp only at hSw); go_simp; (try with_reducible rfl))
      try simp only [Act.put, List.setIfInBounds_toArray, List.set_cons_zero, List.set_cons_succ]
      refine wpAnyH_take (i := 7) (oi := { dst := some 59, op := Op.fieldAddr 23 (Operand.tmp 2) 1, type := 0, pos := "ref.go:164", after := #[], guard := none }) (v := ?_) rfl (by kernel_rfl) (by kernel_rfl) (by kernel_rfl) (fun _ _ _ h => h) (Or.inl ⟨by kernel_rfl, ?_⟩) (by assumption) ?_
      rotate_left 1
      focus (intro w hSw; (try dsimp only at hSw); go_simp; (try with_reducible rfl))
      try simp only [Act.put, List.setIfInBounds_toArray, List.set_cons_zero, List.set_cons_succ]
      refine wpAnyH_take (i := 8) (oi := { dst := some 60, op := Op.load 3 (Operand.tmp 59), type := 3, pos := "ref.go:164", after := #[{ on := 7, ground := Ground.data }], guard := none }) (v := ?_) rfl (by kernel_rfl) (by kernel_rfl) (by kernel_rfl) (fun _ _ _ h => h) (Or.inl ⟨by kernel_rfl, ?_⟩) (by assumption) ?_
      rotate_left 1
      focus (intro w hSw; (try dsimp only at hSw); go_simp; (try with_reducible rfl))
      try simp only [Act.put, List.setIfInBounds_toArray, List.set_cons_zero, List.set_cons_succ]
      refine wpAnyH_take (i := 9) (oi := { dst := some 61, op := Op.move (Operand.tmp 12), type := 3, pos := "ref.go:164", after := #[], guard := none }) (v := ?_) rfl (by kernel_rfl) (by kernel_rfl) (by kernel_rfl) (fun _ _ _ h => h) (Or.inl ⟨by kernel_rfl, ?_⟩) (by assumption) ?_
      rotate_left 1
      focus (intro w hSw; (try dsimp only at hSw); go_simp; (try with_reducible rfl))
      try simp only [Act.put, List.setIfInBounds_toArray, List.set_cons_zero, List.set_cons_succ]
      refine wpAnyH_take (i := 10) (oi := { dst := some 62, op := Op.binOp BinOp.quo 3 (Operand.tmp 61) (Operand.const (Value.int IntKind.i64 2)) 3, type := 3, pos := "ref.go:164", after := #[{ on := 9, ground := Ground.data }], guard := none }) (v := (.int .i64 0)) rfl (by kernel_rfl) (by kernel_rfl) (by kernel_rfl) (fun _ _ _ h => h) (Or.inl ⟨by kernel_rfl, ?_⟩) (by assumption) ?_
      focus (intro w hSw; (try dsimp only at hSw); go_simp; try (first | rfl | decide))
      try simp only [Act.put, List.setIfInBounds_toArray, List.set_cons_zero, List.set_cons_succ]
      refine wpAnyH_take (i := 11) (oi := { dst := some 63, op := Op.indexAddr 72 (Operand.tmp 9) (Operand.tmp 62), type := 0, pos := "ref.go:164", after := #[{ on := 10, ground := Ground.data }], guard := none }) (v := ?_) rfl (by kernel_rfl) (by kernel_rfl) (by kernel_rfl) (fun _ _ _ h => h) (Or.inl ⟨by kernel_rfl, ?_⟩) (by assumption) ?_
      rotate_left 1
      focus (intro w hSw; (try dsimp only at hSw); go_simp; (try with_reducible rfl))
      try simp only [Act.put, List.setIfInBounds_toArray, List.set_cons_zero, List.set_cons_succ]
      refine wpAnyH_take (i := 12) (oi := { dst := some 64, op := Op.load 3 (Operand.tmp 63), type := 3, pos := "ref.go:164", after := #[{ on := 11, ground := Ground.data }], guard := none }) (v := ?_) rfl (by kernel_rfl) (by kernel_rfl) (by kernel_rfl) (fun _ _ _ h => h) (Or.inl ⟨by kernel_rfl, ?_⟩) (by assumption) ?_
      rotate_left 1
      focus (intro w hSw; (try dsimp only at hSw); go_simp; (try with_reducible rfl))
      try simp only [Act.put, List.setIfInBounds_toArray, List.set_cons_zero, List.set_cons_succ]
      refine wpAnyH_take (i := 13) (oi := { dst := some 65, op := Op.binOp BinOp.mul 3 (Operand.tmp 60) (Operand.tmp 64) 3, type := 3, pos := "ref.go:164", after := #[{ on := 8, ground := Ground.data }, { on := 12, ground := Ground.data }], guard := none }) (v := ?_) rfl (by kernel_rfl) (by kernel_rfl) (by kernel_rfl) (fun _ _ _ h => h) (Or.inl ⟨by kernel_rfl, ?_⟩) (by assumption) ?_
      rotate_left 1
      focus (intro w hSw; (try dsimp only at hSw); go_simp; (try with_reducible rfl))
      try simp only [Act.put, List.setIfInBounds_toArray, List.set_cons_zero, List.set_cons_succ]
      refine wpAnyH_take (i := 14) (oi := { dst := some 66, op := Op.binOp BinOp.add 3 (Operand.tmp 58) (Operand.tmp 65) 3, type := 3, pos := "ref.go:164", after := #[{ on := 6, ground := Ground.data }, { on := 13, ground := Ground.data }], guard := none }) (v := ?_) rfl (by kernel_rfl) (by kernel_rfl) (by kernel_rfl) (fun _ _ _ h => h) (Or.inl ⟨by kernel_rfl, ?_⟩) (by assumption) ?_
      rotate_left 1
      focus (intro w hSw; (try dsimp only at hSw); go_simp; (try with_reducible rfl))
      try simp only [Act.put, List.setIfInBounds_toArray, List.set_cons_zero, List.set_cons_succ]
      refine wpAnyH_take (i := 15) (oi := { dst := some 67, op := Op.fieldAddr 23 (Operand.tmp 2) 2, type := 0, pos := "ref.go:164", after := #[], guard := none }) (v := ?_) rfl (by kernel_rfl) (by kernel_rfl) (by kernel_rfl) (fun _ _ _ h => h) (Or.inl ⟨by kernel_rfl, ?_⟩) (by assumption) ?_
      rotate_left 1
      focus (intro w hSw; (try dsimp only at hSw); go_simp; (try with_reducible rfl))
      try simp only [Act.put, List.setIfInBounds_toArray, List.set_cons_zero, List.set_cons_succ]
      refine wpAnyH_take (i := 16) (oi := { dst := some 68, op := Op.load 3 (Operand.tmp 67), type := 3, pos := "ref.go:164", after := #[{ on := 15, ground := Ground.data }], guard := none }) (v := ?_) rfl (by kernel_rfl) (by kernel_rfl) (by kernel_rfl) (fun _ _ _ h => h) (Or.inl ⟨by kernel_rfl, ?_⟩) (by assumption) ?_
      rotate_left 1
      focus (intro w hSw; (try dsimp only at hSw); go_simp; (try with_reducible rfl))
      try simp only [Act.put, List.setIfInBounds_toArray, List.set_cons_zero, List.set_cons_succ]
      refine wpAnyH_take (i := 17) (oi := { dst := some 69, op := Op.binOp BinOp.add 3 (Operand.tmp 66) (Operand.tmp 68) 3, type := 3, pos := "ref.go:164", after := #[{ on := 14, ground := Ground.data }, { on := 16, ground := Ground.data }], guard := none }) (v := ?_) rfl (by kernel_rfl) (by kernel_rfl) (by kernel_rfl) (fun _ _ _ h => h) (Or.inl ⟨by kernel_rfl, ?_⟩) (by assumption) ?_
      rotate_left 1
      focus (intro w hSw; (try dsimp only at hSw); go_simp; (try with_reducible rfl))
      try simp only [Act.put, List.setIfInBounds_toArray, List.set_cons_zero, List.set_cons_succ]
      refine wpAnyH_take (i := 18) (oi := { dst := some 13, op := Op.assign (Operand.tmp 69), type := 3, pos := "ref.go:164", after := #[{ on := 17, ground := Ground.data }, { on := 0, ground := Ground.phase }, { on := 1, ground := Ground.phase }, { on := 2, ground := Ground.phase }, { on := 3, ground := Ground.phase }, { on := 4, ground := Ground.phase }, { on := 5, ground := Ground.phase }, { on := 6, ground := Ground.phase }, { on := 7, ground := Ground.phase }, { on := 8, ground := Ground.phase }, { on := 9, ground := Ground.phase }, { on := 10, ground := Ground.phase }, { on := 11, ground := Ground.phase }, { on := 12, ground := Ground.phase }, { on := 13, ground := Ground.phase }, { on := 14, ground := Ground.phase }, { on := 15, ground := Ground.phase }, { on := 16, ground := Ground.phase }, { on := 17, ground := Ground.phase }], guard := none }) (v := ?_) rfl (by kernel_rfl) (by kernel_rfl) (by kernel_rfl) (fun _ _ _ h => h) (Or.inl ⟨by kernel_rfl, ?_⟩) (by assumption) ?_
      rotate_left 1
      focus (intro w hSw; (try dsimp only at hSw); go_simp; (try with_reducible rfl))
      try simp only [Act.put, List.setIfInBounds_toArray, List.set_cons_zero, List.set_cons_succ]
      refine wpAnyH_done (by kernel_rfl) ?_ _
      have hT := hS0
      generalize World.drew _ = wt at *
      go_upto_region 16 with fail
      refine wp_region_held_drew (S := fun V9 => St w [(b9, .cells #[.int .i64 r1, .int .i64 r3] 72), (b8, .cells #[.int .i64 r0, .int .i64 r2] 72), (b0 + 1 + 1, b5o 0 0 0 0 0), (b0 + 1, ro r0 r1 r2 r3), (b0, ao p0 p1 p2 p3 p4 p5 p6)] V9 ∧ AB V9 b0 p0 p1 p2 p3 p4 p5 p6 ∧ V9.cell? ⟨b8, 0, none⟩ = some (.int .i64 r0) ∧ V9.cell? ⟨b8, 1, none⟩ = some (.int .i64 r2) ∧ V9.cell? ⟨b9, 0, none⟩ = some (.int .i64 r1) ∧ V9.cell? ⟨b9, 1, none⟩ = some (.int .i64 r3)) (by kernel_rfl) ?_ (fun hHeld => ?_)
      · exact HP.out _ (hT.drew.tl.tl)
      have hT0 := hT.drew
      refine wpAnyH_take (i := 0) (oi := { dst := some 70, op := Op.fieldAddr 23 (Operand.tmp 2) 3, type := 0, pos := "ref.go:165", after := #[], guard := none }) (v := ?_) rfl (by kernel_rfl) (by kernel_rfl) (by kernel_rfl) (fun _ _ _ h => h) (Or.inl ⟨by kernel_rfl, ?_⟩) (by assumption) ?_
      rotate_left 1
      focus (intro w hSw; (try dsimp only at hSw); go_simp; (try with_reducible rfl))
      try simp only [Act.put, List.setIfInBounds_toArray, List.set_cons_zero, List.set_cons_succ]
      refine wpAnyH_take (i := 1) (oi := { dst := some 71, op := Op.load 3 (Operand.tmp 70), type := 3, pos := "ref.go:165", after := #[{ on := 0, ground := Ground.data }], guard := none }) (v := ?_) rfl (by kernel_rfl) (by kernel_rfl) (by kernel_rfl) (fun _ _ _ h => h) (Or.inl ⟨by kernel_rfl, ?_⟩) (by assumption) ?_
      rotate_left 1
      focus (intro w hSw; (try dsimp only at hSw); go_simp; (try with_reducible rfl))
      try simp only [Act.put, List.setIfInBounds_toArray, List.set_cons_zero, List.set_cons_succ]
      refine wpAnyH_take (i := 2) (oi := { dst := some 72, op := Op.move (Operand.tmp 12), type := 3, pos := "ref.go:165", after := #[], guard := none }) (v := ?_) rfl (by kernel_rfl) (by kernel_rfl) (by kernel_rfl) (fun _ _ _ h => h) (Or.inl ⟨by kernel_rfl, ?_⟩) (by assumption) ?_
      rotate_left 1
      focus (intro w hSw; (try dsimp only at hSw); go_simp; (try with_reducible rfl))
      try simp only [Act.put, List.setIfInBounds_toArray, List.set_cons_zero, List.set_cons_succ]
      refine wpAnyH_take (i := 3) (oi := { dst := some 73, op := Op.binOp BinOp.rem 3 (Operand.tmp 72) (Operand.const (Value.int IntKind.i64 2)) 3, type := 3, pos := "ref.go:165", after := #[{ on := 2, ground := Ground.data }], guard := none }) (v := (.int .i64 0)) rfl (by kernel_rfl) (by kernel_rfl) (by kernel_rfl) (fun _ _ _ h => h) (Or.inl ⟨by kernel_rfl, ?_⟩) (by assumption) ?_
      focus (intro w hSw; (try dsimp only at hSw); go_simp; try (first | rfl | decide))
      try simp only [Act.put, List.setIfInBounds_toArray, List.set_cons_zero, List.set_cons_succ]
      refine wpAnyH_take (i := 4) (oi := { dst := some 74, op := Op.indexAddr 72 (Operand.tmp 8) (Operand.tmp 73), type := 0, pos := "ref.go:165", after := #[{ on := 3, ground := Ground.data }], guard := none }) (v := ?_) rfl (by kernel_rfl) (by kernel_rfl) (by kernel_rfl) (fun _ _ _ h => h) (Or.inl ⟨by kernel_rfl, ?_⟩) (by assumption) ?_
      rotate_left 1
      focus (intro w hSw; (try dsimp only at hSw); go_simp; (try with_reducible rfl))
      try simp only [Act.put, List.setIfInBounds_toArray, List.set_cons_zero, List.set_cons_succ]
      refine wpAnyH_take (i := 5) (oi := { dst := some 75, op := Op.load 3 (Operand.tmp 74), type := 3, pos := "ref.go:165", after := #[{ on := 4, ground := Ground.data }], guard := none }) (v := ?_) rfl (by kernel_rfl) (by kernel_rfl) (by kernel_rfl) (fun _ _ _ h => h) (Or.inl ⟨by kernel_rfl, ?_⟩) (by assumption) ?_
      rotate_left 1
      focus (intro w hSw; (try dsimp only at hSw); go_simp; (try with_reducible rfl))
      try simp only [Act.put, List.setIfInBounds_toArray, List.set_cons_zero, List.set_cons_succ]
      refine wpAnyH_take (i := 6) (oi := { dst := some 76, op := Op.binOp BinOp.mul 3 (Operand.tmp 71) (Operand.tmp 75) 3, type := 3, pos := "ref.go:165", after := #[{ on := 1, ground := Ground.data }, { on := 5, ground := Ground.data }], guard := none }) (v := ?_) rfl (by kernel_rfl) (by kernel_rfl) (by kernel_rfl) (fun _ _ _ h => h) (Or.inl ⟨by kernel_rfl, ?_⟩) (by assumption) ?_
      rotate_left 1
      focus (intro w hSw; (try dsimp only at hSw); go_simp; (try with_reducible rfl))
      try simp only [Act.put, List.setIfInBounds_toArray, List.set_cons_zero, List.set_cons_succ]
      refine wpAnyH_take (i := 7) (oi := { dst := some 77, op := Op.fieldAddr 23 (Operand.tmp 2) 4, type := 0, pos := "ref.go:165", after := #[], guard := none }) (v := ?_) rfl (by kernel_rfl) (by kernel_rfl) (by kernel_rfl) (fun _ _ _ h => h) (Or.inl ⟨by kernel_rfl, ?_⟩) (by assumption) ?_
      rotate_left 1
      focus (intro w hSw; (try dsimp only at hSw); go_simp; (try with_reducible rfl))
      try simp only [Act.put, List.setIfInBounds_toArray, List.set_cons_zero, List.set_cons_succ]
      refine wpAnyH_take (i := 8) (oi := { dst := some 78, op := Op.load 3 (Operand.tmp 77), type := 3, pos := "ref.go:165", after := #[{ on := 7, ground := Ground.data }], guard := none }) (v := ?_) rfl (by kernel_rfl) (by kernel_rfl) (by kernel_rfl) (fun _ _ _ h => h) (Or.inl ⟨by kernel_rfl, ?_⟩) (by assumption) ?_
      rotate_left 1
      focus (intro w hSw; (try dsimp only at hSw); go_simp; (try with_reducible rfl))
      try simp only [Act.put, List.setIfInBounds_toArray, List.set_cons_zero, List.set_cons_succ]
      refine wpAnyH_take (i := 9) (oi := { dst := some 79, op := Op.move (Operand.tmp 12), type := 3, pos := "ref.go:165", after := #[], guard := none }) (v := ?_) rfl (by kernel_rfl) (by kernel_rfl) (by kernel_rfl) (fun _ _ _ h => h) (Or.inl ⟨by kernel_rfl, ?_⟩) (by assumption) ?_
      rotate_left 1
      focus (intro w hSw; (try dsimp only at hSw); go_simp; (try with_reducible rfl))
      try simp only [Act.put, List.setIfInBounds_toArray, List.set_cons_zero, List.set_cons_succ]
      refine wpAnyH_take (i := 10) (oi := { dst := some 80, op := Op.binOp BinOp.quo 3 (Operand.tmp 79) (Operand.const (Value.int IntKind.i64 2)) 3, type := 3, pos := "ref.go:165", after := #[{ on := 9, ground := Ground.data }], guard := none }) (v := (.int .i64 0)) rfl (by kernel_rfl) (by kernel_rfl) (by kernel_rfl) (fun _ _ _ h => h) (Or.inl ⟨by kernel_rfl, ?_⟩) (by assumption) ?_
      focus (intro w hSw; (try dsimp only at hSw); go_simp; try (first | rfl | decide))
      try simp only [Act.put, List.setIfInBounds_toArray, List.set_cons_zero, List.set_cons_succ]
      refine wpAnyH_take (i := 11) (oi := { dst := some 81, op := Op.indexAddr 72 (Operand.tmp 9) (Operand.tmp 80), type := 0, pos := "ref.go:165", after := #[{ on := 10, ground := Ground.data }], guard := none }) (v := ?_) rfl (by kernel_rfl) (by kernel_rfl) (by kernel_rfl) (fun _ _ _ h => h) (Or.inl ⟨by kernel_rfl, ?_⟩) (by assumption) ?_
      rotate_left 1
      focus (intro w hSw; (try dsimp only at hSw); go_simp; (try with_reducible rfl))
      try simp only [Act.put, List.setIfInBounds_toArray, List.set_cons_zero, List.set_cons_succ]
      refine wpAnyH_take (i := 12) (oi := { dst := some 82, op := Op.load 3 (Operand.tmp 81), type := 3, pos := "ref.go:165", after := #[{ on := 11, ground := Ground.data }], guard := none }) (v := ?_) rfl (by kernel_rfl) (by kernel_rfl) (by kernel_rfl) (fun _ _ _ h => h) (Or.inl ⟨by kernel_rfl, ?_⟩) (by assumption) ?_
      rotate_left 1
      focus (intro w hSw; (try dsimp only at hSw); go_simp; (try with_reducible rfl))
      try simp only [Act.put, List.setIfInBounds_toArray, List.set_cons_zero, List.set_cons_succ]
      refine wpAnyH_take (i := 13) (oi := { dst := some 83, op := Op.binOp BinOp.mul 3 (Operand.tmp 78) (Operand.tmp 82) 3, type := 3, pos := "ref.go:165", after := #[{ on := 8, ground := Ground.data }, { on := 12, ground := Ground.data }], guard := none }) (v := ?_) rfl (by kernel_rfl) (by kernel_rfl) (by kernel_rfl) (fun _ _ _ h => h) (Or.inl ⟨by kernel_rfl, ?_⟩) (by assumption) ?_
      rotate_left 1
      focus (intro w hSw; (try dsimp only at hSw); go_simp; (try with_reducible rfl))
      try simp only [Act.put, List.setIfInBounds_toArray, List.set_cons_zero, List.set_cons_succ]
      refine wpAnyH_take (i := 14) (oi := { dst := some 84, op := Op.binOp BinOp.add 3 (Operand.tmp 76) (Operand.tmp 83) 3, type := 3, pos := "ref.go:165", after := #[{ on := 6, ground := Ground.data }, { on := 13, ground := Ground.data }], guard := none }) (v := ?_) rfl (by kernel_rfl) (by kernel_rfl) (by kernel_rfl) (fun _ _ _ h => h) (Or.inl ⟨by kernel_rfl, ?_⟩) (by assumption) ?_
      rotate_left 1
      focus (intro w hSw; (try dsimp only at hSw); go_simp; (try with_reducible rfl))
      try simp only [Act.put, List.setIfInBounds_toArray, List.set_cons_zero, List.set_cons_succ]
      refine wpAnyH_take (i := 15) (oi := { dst := some 85, op := Op.fieldAddr 23 (Operand.tmp 2) 5, type := 0, pos := "ref.go:165", after := #[], guard := none }) (v := ?_) rfl (by kernel_rfl) (by kernel_rfl) (by kernel_rfl) (fun _ _ _ h => h) (Or.inl ⟨by kernel_rfl, ?_⟩) (by assumption) ?_
      rotate_left 1
      focus (intro w hSw; (try dsimp only at hSw); go_simp; (try with_reducible rfl))
      try simp only [Act.put, List.setIfInBounds_toArray, List.set_cons_zero, List.set_cons_succ]
      refine wpAnyH_take (i := 16) (oi := { dst := some 86, op := Op.load 3 (Operand.tmp 85), type := 3, pos := "ref.go:165", after := #[{ on := 15, ground := Ground.data }], guard := none }) (v := ?_) rfl (by kernel_rfl) (by kernel_rfl) (by kernel_rfl) (fun _ _ _ h => h) (Or.inl ⟨by kernel_rfl, ?_⟩) (by assumption) ?_
      rotate_left 1
      focus (intro w hSw; (try dsimp only at hSw); go_simp; (try with_reducible rfl))
      try simp only [Act.put, List.setIfInBounds_toArray, List.set_cons_zero, List.set_cons_succ]
      refine wpAnyH_take (i := 17) (oi := { dst := some 87, op := Op.binOp BinOp.add 3 (Operand.tmp 84) (Operand.tmp 86) 3, type := 3, pos := "ref.go:165", after := #[{ on := 14, ground := Ground.data }, { on := 16, ground := Ground.data }], guard := none }) (v := ?_) rfl (by kernel_rfl) (by kernel_rfl) (by kernel_rfl) (fun _ _ _ h => h) (Or.inl ⟨by kernel_rfl, ?_⟩) (by assumption) ?_
      rotate_left 1
      focus (intro w hSw; (try dsimp only at hSw); go_simp; (try with_reducible rfl))
      try simp only [Act.put, List.setIfInBounds_toArray, List.set_cons_zero, List.set_cons_succ]
      refine wpAnyH_take (i := 18) (oi := { dst := some 14, op := Op.assign (Operand.tmp 87), type := 3, pos := "ref.go:165", after := #[{ on := 17, ground := Ground.data }, { on := 0, ground := Ground.phase }, { on := 1, ground := Ground.phase }, { on := 2, ground := Ground.phase }, { on := 3, ground := Ground.phase }, { on := 4, ground := Ground.phase }, { on := 5, ground := Ground.phase }, { on := 6, ground := Ground.phase }, { on := 7, ground := Ground.phase }, { on := 8, ground := Ground.phase }, { on := 9, ground := Ground.phase }, { on := 10, ground := Ground.phase }, { on := 11, ground := Ground.phase }, { on := 12, ground := Ground.phase }, { on := 13, ground := Ground.phase }, { on := 14, ground := Ground.phase }, { on := 15, ground := Ground.phase }, { on := 16, ground := Ground.phase }, { on := 17, ground := Ground.phase }], guard := none }) (v := ?_) rfl (by kernel_rfl) (by kernel_rfl) (by kernel_rfl) (fun _ _ _ h => h) (Or.inl ⟨by kernel_rfl, ?_⟩) (by assumption) ?_
      rotate_left 1
      focus (intro w hSw; (try dsimp only at hSw); go_simp; (try with_reducible rfl))
      try simp only [Act.put, List.setIfInBounds_toArray, List.set_cons_zero, List.set_cons_succ]
      refine wpAnyH_done (by kernel_rfl) ?_ _
      have hU := hT0
      generalize World.drew _ = wd at *
      obtain ⟨_, _⟩ := St.pt hU (b := b10) (x := 1152921504606846976) (y := 1152921504606846976) (by simp)
      obtain ⟨_, _⟩ := St.pt hU (b := b11) (x := (-1152921504606846976)) (y := (-1152921504606846976)) (by simp)
      have : ∀ j, _ = false := St.frozen hU (b := b10) (cs := #[.int .i64 1152921504606846976, .int .i64 1152921504606846976]) (t := 49) (by simp)
      have : ∀ j, _ = false := St.frozen hU (b := b11) (cs := #[.int .i64 (-1152921504606846976), .int .i64 (-1152921504606846976)]) (t := 49) (by simp)
      go_wp2_with fail
      have h9 := (hU.swp.put2 (v0 := .int .i64 U0) (v1 := .int .i64 V0) hle10 (by intro x hx; simp only [List.mem_cons] at hx; rcases hx with rfl | hx; exact fun hh => hn1 hh.symm; exact hne10 x (by simpa using hx))).swp.put2 (v0 := .int .i64 U0) (v1 := .int .i64 V0) hle11 (by intro x hx; simp only [List.mem_cons] at hx; rcases hx with rfl | hx; exact hn1; exact hn2 x (by simpa using hx))
      exact ⟨.inr (.inl ⟨rfl, h9⟩), by decide⟩
    · have hS := HS.out
      clear HS
      have HP : Hid (∀ V9, St w [(b9, .cells #[.int .i64 r1, .int .i64 r3] 72), (b8, .cells #[.int .i64 r0, .int .i64 r2] 72), (b0 + 1 + 1, b5o 0 0 0 0 0), (b0 + 1, ro r0 r1 r2 r3), (b0, ao p0 p1 p2 p3 p4 p5 p6)] V9 → St w [(b9, .cells #[.int .i64 r1, .int .i64 r3] 72), (b8, .cells #[.int .i64 r0, .int .i64 r2] 72), (b0 + 1 + 1, b5o 0 0 0 0 0), (b0 + 1, ro r0 r1 r2 r3), (b0, ao p0 p1 p2 p3 p4 p5 p6)] V9 ∧ AB V9 b0 p0 p1 p2 p3 p4 p5 p6 ∧ V9.cell? ⟨b8, 0, none⟩ = some (.int .i64 r0) ∧ V9.cell? ⟨b8, 1, none⟩ = some (.int .i64 r2) ∧ V9.cell? ⟨b9, 0, none⟩ = some (.int .i64 r1) ∧ V9.cell? ⟨b9, 1, none⟩ = some (.int .i64 r3)) := fun V hV => ⟨hV, St.aff hV (by simp), hV.cell (b := b8) (cs := #[.int .i64 r0, .int .i64 r2]) (t := 72) (by simp) 0, hV.cell (b := b8) (cs := #[.int .i64 r0, .int .i64 r2]) (t := 72) (by simp) 1, hV.cell (b := b9) (cs := #[.int .i64 r1, .int .i64 r3]) (t := 72) (by simp) 0, hV.cell (b := b9) (cs := #[.int .i64 r1, .int .i64 r3]) (t := 72) (by simp) 1⟩
      go_upto_region 15 with fail
      refine wp_region_held_drew (S := fun V9 => St w [(b9, .cells #[.int .i64 r1, .int .i64 r3] 72), (b8, .cells #[.int .i64 r0, .int .i64 r2] 72), (b0 + 1 + 1, b5o 0 0 0 0 0), (b0 + 1, ro r0 r1 r2 r3), (b0, ao p0 p1 p2 p3 p4 p5 p6)] V9 ∧ AB V9 b0 p0 p1 p2 p3 p4 p5 p6 ∧ V9.cell? ⟨b8, 0, none⟩ = some (.int .i64 r0) ∧ V9.cell? ⟨b8, 1, none⟩ = some (.int .i64 r2) ∧ V9.cell? ⟨b9, 0, none⟩ = some (.int .i64 r1) ∧ V9.cell? ⟨b9, 1, none⟩ = some (.int .i64 r3)) (by kernel_rfl) ?_ (fun hHeld => ?_)
      · exact HP.out _ (hS.drew.tl.tl)
      have hS0 := hS.drew
      refine wpAnyH_take (i := 0) (oi := { dst := some 52, op := Op.fieldAddr 23 (Operand.tmp 2) 0, type := 0, pos := "ref.go:164", after := #[], guard := none }) (v := ?_) rfl (by kernel_rfl) (by kernel_rfl) (by kernel_rfl) (fun _ _ _ h => h) (Or.inl ⟨by kernel_rfl, ?_⟩) (by assumption) ?_
      rotate_left 1
      focus (intro w hSw; (try dsimp only at hSw); go_simp; (try with_reducible rfl))
      try simp only [Act.put, List.setIfInBounds_toArray, List.set_cons_zero, List.set_cons_succ]
      refine wpAnyH_take (i := 1) (oi := { dst := some 53, op := Op.load 3 (Operand.tmp 52), type := 3, pos := "ref.go:164", after := #[{ on := 0, ground := Ground.data }], guard := none }) (v := ?_) rfl (by kernel_rfl) (by kernel_rfl) (by kernel_rfl) (fun _ _ _ h => h) (Or.inl ⟨by kernel_rfl, ?_⟩) (by assumption) ?_
      rotate_left 1
      focus (intro w hSw; (try dsimp only at hSw); go_simp; (try with_reducible rfl))
      try simp only [Act.put, List.setIfInBounds_toArray, List.set_cons_zero, List.set_cons_succ]
      refine wpAnyH_take (i := 2) (oi := { dst := some 54, op := Op.move (Operand.tmp 12), type := 3, pos := "ref.go:164", after := #[], guard := none }) (v := ?_) rfl (by kernel_rfl) (by kernel_rfl) (by kernel_rfl) (fun _ _ _ h => h) (Or.inl ⟨by kernel_rfl, ?_⟩) (by assumption) ?_
      rotate_left 1
      focus (intro w hSw; (try dsimp only at hSw); go_simp; (try with_reducible rfl))
      try simp only [Act.put, List.setIfInBounds_toArray, List.set_cons_zero, List.set_cons_succ]
      refine wpAnyH_take (i := 3) (oi := { dst := some 55, op := Op.binOp BinOp.rem 3 (Operand.tmp 54) (Operand.const (Value.int IntKind.i64 2)) 3, type := 3, pos := "ref.go:164", after := #[{ on := 2, ground := Ground.data }], guard := none }) (v := (.int .i64 1)) rfl (by kernel_rfl) (by kernel_rfl) (by kernel_rfl) (fun _ _ _ h => h) (Or.inl ⟨by kernel_rfl, ?_⟩) (by assumption) ?_
      focus (intro w hSw; (try dsimp only at hSw); go_simp; try (first | rfl | decide))
      try simp only [Act.put, List.setIfInBounds_toArray, List.set_cons_zero, List.set_cons_succ]
      refine wpAnyH_take (i := 4) (oi := { dst := some 56, op := Op.indexAddr 72 (Operand.tmp 8) (Operand.tmp 55), type := 0, pos := "ref.go:164", after := #[{ on := 3, ground := Ground.data }], guard := none }) (v := ?_) rfl (by kernel_rfl) (by kernel_rfl) (by kernel_rfl) (fun _ _ _ h => h) (Or.inl ⟨by kernel_rfl, ?_⟩) (by assumption) ?_
      rotate_left 1
      focus (intro w hSw; (try dsimp only at hSw); go_simp; (try with_reducible rfl))
      try simp only [Act.put, List.setIfInBounds_toArray, List.set_cons_zero, List.set_cons_succ]
      refine wpAnyH_take (i := 5) (oi := { dst := some 57, op := Op.load 3 (Operand.tmp 56), type := 3, pos := "ref.go:164", after := #[{ on := 4, ground := Ground.data }], guard := none }) (v := ?_) rfl (by kernel_rfl) (by kernel_rfl) (by kernel_rfl) (fun _ _ _ h => h) (Or.inl ⟨by kernel_rfl, ?_⟩) (by assumption) ?_
      rotate_left 1
      focus (intro w hSw; (try dsimp only at hSw); go_simp; (try with_reducible rfl))
      try simp only [Act.put, List.setIfInBounds_toArray, List.set_cons_zero, List.set_cons_succ]
      refine wpAnyH_take (i := 6) (oi := { dst := some 58, op := Op.binOp BinOp.mul 3 (Operand.tmp 53) (Operand.tmp 57) 3, type := 3, pos := "ref.go:164", after := #[{ on := 1, ground := Ground.data }, { on := 5, ground := Ground.data }], guard := none }) (v := ?_) rfl (by kernel_rfl) (by kernel_rfl) (by kernel_rfl) (fun _ _ _ h => h) (Or.inl ⟨by kernel_rfl, ?_⟩) (by assumption) ?_
      rotate_left 1
      focus (intro w hSw; (try dsimp only at hSw); go_simp; (try with_reducible rfl))
      try simp only [Act.put, List.setIfInBounds_toArray, List.set_cons_zero, List.set_cons_succ]
      refine wpAnyH_take (i := 7) (oi := { dst := some 59, op := Op.fieldAddr 23 (Operand.tmp 2) 1, type := 0, pos := "ref.go:164", after := #[], guard := none }) (v := ?_) rfl (by kernel_rfl) (by kernel_rfl) (by kernel_rfl) (fun _ _ _ h => h) (Or.inl ⟨by kernel_rfl, ?_⟩) (by assumption) ?_
      rotate_left 1
      focus (intro w hSw; (try dsimp only at hSw); go_simp; (try with_reducible rfl))
      try simp only [Act.put, List.setIfInBounds_toArray, List.set_cons_zero, List.set_cons_succ]
      refine wpAnyH_take (i := 8) (oi := { dst := some 60, op := Op.load 3 (Operand.tmp 59), type := 3, pos := "ref.go:164", after := #[{ on := 7, ground := Ground.data }], guard := none }) (v := ?_) rfl (by kernel_rfl) (by kernel_rfl) (by kernel_rfl) (fun _ _ _ h => h) (Or.inl ⟨by kernel_rfl, ?_⟩) (by assumption) ?_
      rotate_left 1
      focus (intro w hSw; (try dsimp only at hSw); go_simp; (try with_reducible rfl))
      try simp only [Act.put, List.setIfInBounds_toArray, List.set_cons_zero, List.set_cons_succ]
      refine wpAnyH_take (i := 9) (oi := { dst := some 61, op := Op.move (Operand.tmp 12), type := 3, pos := "ref.go:164", after := #[], guard := none }) (v := ?_) rfl (by kernel_rfl) (by kernel_rfl) (by kernel_rfl) (fun _ _ _ h => h) (Or.inl ⟨by kernel_rfl, ?_⟩) (by assumption) ?_
      rotate_left 1
      focus (intro w hSw; (try dsimp only at hSw); go_simp; (try with_reducible rfl))
      try simp only [Act.put, List.setIfInBounds_toArray, List.set_cons_zero, List.set_cons_succ]
      refine wpAnyH_take (i := 10) (oi := { dst := some 62, op := Op.binOp BinOp.quo 3 (Operand.tmp 61) (Operand.const (Value.int IntKind.i64 2)) 3, type := 3, pos := "ref.go:164", after := #[{ on := 9, ground := Ground.data }], guard := none }) (v := (.int .i64 0)) rfl (by kernel_rfl) (by kernel_rfl) (by kernel_rfl) (fun _ _ _ h => h) (Or.inl ⟨by kernel_rfl, ?_⟩) (by assumption) ?_
      focus (intro w hSw; (try dsimp only at hSw); go_simp; try (first | rfl | decide))
      try simp only [Act.put, List.setIfInBounds_toArray, List.set_cons_zero, List.set_cons_succ]
      refine wpAnyH_take (i := 11) (oi := { dst := some 63, op := Op.indexAddr 72 (Operand.tmp 9) (Operand.tmp 62), type := 0, pos := "ref.go:164", after := #[{ on := 10, ground := Ground.data }], guard := none }) (v := ?_) rfl (by kernel_rfl) (by kernel_rfl) (by kernel_rfl) (fun _ _ _ h => h) (Or.inl ⟨by kernel_rfl, ?_⟩) (by assumption) ?_
      rotate_left 1
      focus (intro w hSw; (try dsimp only at hSw); go_simp; (try with_reducible rfl))
      try simp only [Act.put, List.setIfInBounds_toArray, List.set_cons_zero, List.set_cons_succ]
      refine wpAnyH_take (i := 12) (oi := { dst := some 64, op := Op.load 3 (Operand.tmp 63), type := 3, pos := "ref.go:164", after := #[{ on := 11, ground := Ground.data }], guard := none }) (v := ?_) rfl (by kernel_rfl) (by kernel_rfl) (by kernel_rfl) (fun _ _ _ h => h) (Or.inl ⟨by kernel_rfl, ?_⟩) (by assumption) ?_
      rotate_left 1
      focus (intro w hSw; (try dsimp only at hSw); go_simp; (try with_reducible rfl))
      try simp only [Act.put, List.setIfInBounds_toArray, List.set_cons_zero, List.set_cons_succ]
      refine wpAnyH_take (i := 13) (oi := { dst := some 65, op := Op.binOp BinOp.mul 3 (Operand.tmp 60) (Operand.tmp 64) 3, type := 3, pos := "ref.go:164", after := #[{ on := 8, ground := Ground.data }, { on := 12, ground := Ground.data }], guard := none }) (v := ?_) rfl (by kernel_rfl) (by kernel_rfl) (by kernel_rfl) (fun _ _ _ h => h) (Or.inl ⟨by kernel_rfl, ?_⟩) (by assumption) ?_
      rotate_left 1
      focus (intro w hSw; (try dsimp only at hSw); go_simp; (try with_reducible rfl))
      try simp only [Act.put, List.setIfInBounds_toArray, List.set_cons_zero, List.set_cons_succ]
      refine wpAnyH_take (i := 14) (oi := { dst := some 66, op := Op.binOp BinOp.add 3 (Operand.tmp 58) (Operand.tmp 65) 3, type := 3, pos := "ref.go:164", after := #[{ on := 6, ground := Ground.data }, { on := 13, ground := Ground.data }], guard := none }) (v := ?_) rfl (by kernel_rfl) (by kernel_rfl) (by kernel_rfl) (fun _ _ _ h => h) (Or.inl ⟨by kernel_rfl, ?_⟩) (by assumption) ?_
      rotate_left 1
      focus (intro w hSw; (try dsimp only at hSw); go_simp; (try with_reducible rfl))
      try simp only [Act.put, List.setIfInBounds_toArray, List.set_cons_zero, List.set_cons_succ]
      refine wpAnyH_take (i := 15) (oi := { dst := some 67, op := Op.fieldAddr 23 (Operand.tmp 2) 2, type := 0, pos := "ref.go:164", after := #[], guard := none }) (v := ?_) rfl (by kernel_rfl) (by kernel_rfl) (by kernel_rfl) (fun _ _ _ h => h) (Or.inl ⟨by kernel_rfl, ?_⟩) (by assumption) ?_
      rotate_left 1
      focus (intro w hSw; (try dsimp only at hSw); go_simp; (try with_reducible rfl))
      try simp only [Act.put, List.setIfInBounds_toArray, List.set_cons_zero, List.set_cons_succ]
      refine wpAnyH_take (i := 16) (oi := { dst := some 68, op := Op.load 3 (Operand.tmp 67), type := 3, pos := "ref.go:164", after := #[{ on := 15, ground := Ground.data }], guard := none }) (v := ?_) rfl (by kernel_rfl) (by kernel_rfl) (by kernel_rfl) (fun _ _ _ h => h) (Or.inl ⟨by kernel_rfl, ?_⟩) (by assumption) ?_
      rotate_left 1
      focus (intro w hSw; (try dsimp only at hSw); go_simp; (try with_reducible rfl))
      try simp only [Act.put, List.setIfInBounds_toArray, List.set_cons_zero, List.set_cons_succ]
      refine wpAnyH_take (i := 17) (oi := { dst := some 69, op := Op.binOp BinOp.add 3 (Operand.tmp 66) (Operand.tmp 68) 3, type := 3, pos := "ref.go:164", after := #[{ on := 14, ground := Ground.data }, { on := 16, ground := Ground.data }], guard := none }) (v := ?_) rfl (by kernel_rfl) (by kernel_rfl) (by kernel_rfl) (fun _ _ _ h => h) (Or.inl ⟨by kernel_rfl, ?_⟩) (by assumption) ?_
      rotate_left 1
      focus (intro w hSw; (try dsimp only at hSw); go_simp; (try with_reducible rfl))
      try simp only [Act.put, List.setIfInBounds_toArray, List.set_cons_zero, List.set_cons_succ]
      refine wpAnyH_take (i := 18) (oi := { dst := some 13, op := Op.assign (Operand.tmp 69), type := 3, pos := "ref.go:164", after := #[{ on := 17, ground := Ground.data }, { on := 0, ground := Ground.phase }, { on := 1, ground := Ground.phase }, { on := 2, ground := Ground.phase }, { on := 3, ground := Ground.phase }, { on := 4, ground := Ground.phase }, { on := 5, ground := Ground.phase }, { on := 6, ground := Ground.phase }, { on := 7, ground := Ground.phase }, { on := 8, ground := Ground.phase }, { on := 9, ground := Ground.phase }, { on := 10, ground := Ground.phase }, { on := 11, ground := Ground.phase }, { on := 12, ground := Ground.phase }, { on := 13, ground := Ground.phase }, { on := 14, ground := Ground.phase }, { on := 15, ground := Ground.phase }, { on := 16, ground := Ground.phase }, { on := 17, ground := Ground.phase }], guard := none }) (v := ?_) rfl (by kernel_rfl) (by kernel_rfl) (by kernel_rfl) (fun _ _ _ h => h) (Or.inl ⟨by kernel_rfl, ?_⟩) (by assumption) ?_
      rotate_left 1
      focus (intro w hSw; (try dsimp only at hSw); go_simp; (try with_reducible rfl))
      try simp only [Act.put, List.setIfInBounds_toArray, List.set_cons_zero, List.set_cons_succ]
      refine wpAnyH_done (by kernel_rfl) ?_ _
      have hT := hS0
      generalize World.drew _ = wt at *
      go_upto_region 16 with fail
      refine wp_region_held_drew (S := fun V9 => St w [(b9, .cells #[.int .i64 r1, .int .i64 r3] 72), (b8, .cells #[.int .i64 r0, .int .i64 r2] 72), (b0 + 1 + 1, b5o 0 0 0 0 0), (b0 + 1, ro r0 r1 r2 r3), (b0, ao p0 p1 p2 p3 p4 p5 p6)] V9 ∧ AB V9 b0 p0 p1 p2 p3 p4 p5 p6 ∧ V9.cell? ⟨b8, 0, none⟩ = some (.int .i64 r0) ∧ V9.cell? ⟨b8, 1, none⟩ = some (.int .i64 r2) ∧ V9.cell? ⟨b9, 0, none⟩ = some (.int .i64 r1) ∧ V9.cell? ⟨b9, 1, none⟩ = some (.int .i64 r3)) (by kernel_rfl) ?_ (fun hHeld => ?_)
      · exact HP.out _ (hT.drew.tl.tl)
      have hT0 := hT.drew
      refine wpAnyH_take (i := 0) (oi := { dst := some 70, op := Op.fieldAddr 23 (Operand.tmp 2) 3, type := 0, pos := "ref.go:165", after := #[], guard := none }) (v := ?_) rfl (by kernel_rfl) (by kernel_rfl) (by kernel_rfl) (fun _ _ _ h => h) (Or.inl ⟨by kernel_rfl, ?_⟩) (by assumption) ?_
      rotate_left 1
      focus (intro w hSw; (try dsimp only at hSw); go_simp; (try with_reducible rfl))
      try simp only [Act.put, List.setIfInBounds_toArray, List.set_cons_zero, List.set_cons_succ]
      refine wpAnyH_take (i := 1) (oi := { dst := some 71, op := Op.load 3 (Operand.tmp 70), type := 3, pos := "ref.go:165", after := #[{ on := 0, ground := Ground.data }], guard := none }) (v := ?_) rfl (by kernel_rfl) (by kernel_rfl) (by kernel_rfl) (fun _ _ _ h => h) (Or.inl ⟨by kernel_rfl, ?_⟩) (by assumption) ?_
      rotate_left 1
      focus (intro w hSw; (try dsimp only at hSw); go_simp; (try with_reducible rfl))
      try simp only [Act.put, List.setIfInBounds_toArray, List.set_cons_zero, List.set_cons_succ]
      refine wpAnyH_take (i := 2) (oi := { dst := some 72, op := Op.move (Operand.tmp 12), type := 3, pos := "ref.go:165", after := #[], guard := none }) (v := ?_) rfl (by kernel_rfl) (by kernel_rfl) (by kernel_rfl) (fun _ _ _ h => h) (Or.inl ⟨by kernel_rfl, ?_⟩) (by assumption) ?_
      rotate_left 1
      focus (intro w hSw; (try dsimp only at hSw); go_simp; (try with_reducible rfl))
      try simp only [Act.put, List.setIfInBounds_toArray, List.set_cons_zero, List.set_cons_succ]
      refine wpAnyH_take (i := 3) (oi := { dst := some 73, op := Op.binOp BinOp.rem 3 (Operand.tmp 72) (Operand.const (Value.int IntKind.i64 2)) 3, type := 3, pos := "ref.go:165", after := #[{ on := 2, ground := Ground.data }], guard := none }) (v := (.int .i64 1)) rfl (by kernel_rfl) (by kernel_rfl) (by kernel_rfl) (fun _ _ _ h => h) (Or.inl ⟨by kernel_rfl, ?_⟩) (by assumption) ?_
      focus (intro w hSw; (try dsimp only at hSw); go_simp; try (first | rfl | decide))
      try simp only [Act.put, List.setIfInBounds_toArray, List.set_cons_zero, List.set_cons_succ]
      refine wpAnyH_take (i := 4) (oi := { dst := some 74, op := Op.indexAddr 72 (Operand.tmp 8) (Operand.tmp 73), type := 0, pos := "ref.go:165", after := #[{ on := 3, ground := Ground.data }], guard := none }) (v := ?_) rfl (by kernel_rfl) (by kernel_rfl) (by kernel_rfl) (fun _ _ _ h => h) (Or.inl ⟨by kernel_rfl, ?_⟩) (by assumption) ?_
      rotate_left 1
      focus (intro w hSw; (try dsimp only at hSw); go_simp; (try with_reducible rfl))
      try simp only [Act.put, List.setIfInBounds_toArray, List.set_cons_zero, List.set_cons_succ]
      refine wpAnyH_take (i := 5) (oi := { dst := some 75, op := Op.load 3 (Operand.tmp 74), type := 3, pos := "ref.go:165", after := #[{ on := 4, ground := Ground.data }], guard := none }) (v := ?_) rfl (by kernel_rfl) (by kernel_rfl) (by kernel_rfl) (fun _ _ _ h => h) (Or.inl ⟨by kernel_rfl, ?_⟩) (by assumption) ?_
      rotate_left 1
      focus (intro w hSw; (try dsimp only at hSw); go_simp; (try with_reducible rfl))
      try simp only [Act.put, List.setIfInBounds_toArray, List.set_cons_zero, List.set_cons_succ]
      refine wpAnyH_take (i := 6) (oi := { dst := some 76, op := Op.binOp BinOp.mul 3 (Operand.tmp 71) (Operand.tmp 75) 3, type := 3, pos := "ref.go:165", after := #[{ on := 1, ground := Ground.data }, { on := 5, ground := Ground.data }], guard := none }) (v := ?_) rfl (by kernel_rfl) (by kernel_rfl) (by kernel_rfl) (fun _ _ _ h => h) (Or.inl ⟨by kernel_rfl, ?_⟩) (by assumption) ?_
      rotate_left 1
      focus (intro w hSw; (try dsimp only at hSw); go_simp; (try with_reducible rfl))
      try simp only [Act.put, List.setIfInBounds_toArray, List.set_cons_zero, List.set_cons_succ]
      refine wpAnyH_take (i := 7) (oi := { dst := some 77, op := Op.fieldAddr 23 (Operand.tmp 2) 4, type := 0, pos := "ref.go:165", after := #[], guard := none }) (v := ?_) rfl (by kernel_rfl) (by kernel_rfl) (by kernel_rfl) (fun _ _ _ h => h) (Or.inl ⟨by kernel_rfl, ?_⟩) (by assumption) ?_
      rotate_left 1
      focus (intro w hSw; (try dsimp only at hSw); go_simp; (try with_reducible rfl))
      try simp only [Act.put, List.setIfInBounds_toArray, List.set_cons_zero, List.set_cons_succ]
      refine wpAnyH_take (i := 8) (oi := { dst := some 78, op := Op.load 3 (Operand.tmp 77), type := 3, pos := "ref.go:165", after := #[{ on := 7, ground := Ground.data }], guard := none }) (v := ?_) rfl (by kernel_rfl) (by kernel_rfl) (by kernel_rfl) (fun _ _ _ h => h) (Or.inl ⟨by kernel_rfl, ?_⟩) (by assumption) ?_
      rotate_left 1
      focus (intro w hSw; (try dsimp only at hSw); go_simp; (try with_reducible rfl))
      try simp only [Act.put, List.setIfInBounds_toArray, List.set_cons_zero, List.set_cons_succ]
      refine wpAnyH_take (i := 9) (oi := { dst := some 79, op := Op.move (Operand.tmp 12), type := 3, pos := "ref.go:165", after := #[], guard := none }) (v := ?_) rfl (by kernel_rfl) (by kernel_rfl) (by kernel_rfl) (fun _ _ _ h => h) (Or.inl ⟨by kernel_rfl, ?_⟩) (by assumption) ?_
      rotate_left 1
      focus (intro w hSw; (try dsimp only at hSw); go_simp; (try with_reducible rfl))
      try simp only [Act.put, List.setIfInBounds_toArray, List.set_cons_zero, List.set_cons_succ]
      refine wpAnyH_take (i := 10) (oi := { dst := some 80, op := Op.binOp BinOp.quo 3 (Operand.tmp 79) (Operand.const (Value.int IntKind.i64 2)) 3, type := 3, pos := "ref.go:165", after := #[{ on := 9, ground := Ground.data }], guard := none }) (v := (.int .i64 0)) rfl (by kernel_rfl) (by kernel_rfl) (by kernel_rfl) (fun _ _ _ h => h) (Or.inl ⟨by kernel_rfl, ?_⟩) (by assumption) ?_
      focus (intro w hSw; (try dsimp only at hSw); go_simp; try (first | rfl | decide))
      try simp only [Act.put, List.setIfInBounds_toArray, List.set_cons_zero, List.set_cons_succ]
      refine wpAnyH_take (i := 11) (oi := { dst := some 81, op := Op.indexAddr 72 (Operand.tmp 9) (Operand.tmp 80), type := 0, pos := "ref.go:165", after := #[{ on := 10, ground := Ground.data }], guard := none }) (v := ?_) rfl (by kernel_rfl) (by kernel_rfl) (by kernel_rfl) (fun _ _ _ h => h) (Or.inl ⟨by kernel_rfl, ?_⟩) (by assumption) ?_
      rotate_left 1
      focus (intro w hSw; (try dsimp only at hSw); go_simp; (try with_reducible rfl))
      try simp only [Act.put, List.setIfInBounds_toArray, List.set_cons_zero, List.set_cons_succ]
      refine wpAnyH_take (i := 12) (oi := { dst := some 82, op := Op.load 3 (Operand.tmp 81), type := 3, pos := "ref.go:165", after := #[{ on := 11, ground := Ground.data }], guard := none }) (v := ?_) rfl (by kernel_rfl) (by kernel_rfl) (by kernel_rfl) (fun _ _ _ h => h) (Or.inl ⟨by kernel_rfl, ?_⟩) (by assumption) ?_
      rotate_left 1
      focus (intro w hSw; (try dsimp only at hSw); go_simp; (try with_reducible rfl))
      try simp only [Act.put, List.setIfInBounds_toArray, List.set_cons_zero, List.set_cons_succ]
      refine wpAnyH_take (i := 13) (oi := { dst := some 83, op := Op.binOp BinOp.mul 3 (Operand.tmp 78) (Operand.tmp 82) 3, type := 3, pos := "ref.go:165", after := #[{ on := 8, ground := Ground.data }, { on := 12, ground := Ground.data }], guard := none }) (v := ?_) rfl (by kernel_rfl) (by kernel_rfl) (by kernel_rfl) (fun _ _ _ h => h) (Or.inl ⟨by kernel_rfl, ?_⟩) (by assumption) ?_
      rotate_left 1
      focus (intro w hSw; (try dsimp only at hSw); go_simp; (try with_reducible rfl))
      try simp only [Act.put, List.setIfInBounds_toArray, List.set_cons_zero, List.set_cons_succ]
      refine wpAnyH_take (i := 14) (oi := { dst := some 84, op := Op.binOp BinOp.add 3 (Operand.tmp 76) (Operand.tmp 83) 3, type := 3, pos := "ref.go:165", after := #[{ on := 6, ground := Ground.data }, { on := 13, ground := Ground.data }], guard := none }) (v := ?_) rfl (by kernel_rfl) (by kernel_rfl) (by kernel_rfl) (fun _ _ _ h => h) (Or.inl ⟨by kernel_rfl, ?_⟩) (by assumption) ?_
      rotate_left 1
      focus (intro w hSw; (try dsimp only at hSw); go_simp; (try with_reducible rfl))
      try simp only [Act.put, List.setIfInBounds_toArray, List.set_cons_zero, List.set_cons_succ]
      refine wpAnyH_take (i := 15) (oi := { dst := some 85, op := Op.fieldAddr 23 (Operand.tmp 2) 5, type := 0, pos := "ref.go:165", after := #[], guard := none }) (v := ?_) rfl (by kernel_rfl) (by kernel_rfl) (by kernel_rfl) (fun _ _ _ h => h) (Or.inl ⟨by kernel_rfl, ?_⟩) (by assumption) ?_
      rotate_left 1
      focus (intro w hSw; (try dsimp only at hSw); go_simp; (try with_reducible rfl))
      try simp only [Act.put, List.setIfInBounds_toArray, List.set_cons_zero, List.set_cons_succ]
      refine wpAnyH_take (i := 16) (oi := { dst := some 86, op := Op.load 3 (Operand.tmp 85), type := 3, pos := "ref.go:165", after := #[{ on := 15, ground := Ground.data }], guard := none }) (v := ?_) rfl (by kernel_rfl) (by kernel_rfl) (by kernel_rfl) (fun _ _ _ h => h) (Or.inl ⟨by kernel_rfl, ?_⟩) (by assumption) ?_
      rotate_left 1
      focus (intro w hSw; (try dsimp only at hSw); go_simp; (try with_reducible rfl))
      try simp only [Act.put, List.setIfInBounds_toArray, List.set_cons_zero, List.set_cons_succ]
      refine wpAnyH_take (i := 17) (oi := { dst := some 87, op := Op.binOp BinOp.add 3 (Operand.tmp 84) (Operand.tmp 86) 3, type := 3, pos := "ref.go:165", after := #[{ on := 14, ground := Ground.data }, { on := 16, ground := Ground.data }], guard := none }) (v := ?_) rfl (by kernel_rfl) (by kernel_rfl) (by kernel_rfl) (fun _ _ _ h => h) (Or.inl ⟨by kernel_rfl, ?_⟩) (by assumption) ?_
      rotate_left 1
      focus (intro w hSw; (try dsimp only at hSw); go_simp; (try with_reducible rfl))
      try simp only [Act.put, List.setIfInBounds_toArray, List.set_cons_zero, List.set_cons_succ]
      refine wpAnyH_take (i := 18) (oi := { dst := some 14, op := Op.assign (Operand.tmp 87), type := 3, pos := "ref.go:165", after := #[{ on := 17, ground := Ground.data }, { on := 0, ground := Ground.phase }, { on := 1, ground := Ground.phase }, { on := 2, ground := Ground.phase }, { on := 3, ground := Ground.phase }, { on := 4, ground := Ground.phase }, { on := 5, ground := Ground.phase }, { on := 6, ground := Ground.phase }, { on := 7, ground := Ground.phase }, { on := 8, ground := Ground.phase }, { on := 9, ground := Ground.phase }, { on := 10, ground := Ground.phase }, { on := 11, ground := Ground.phase }, { on := 12, ground := Ground.phase }, { on := 13, ground := Ground.phase }, { on := 14, ground := Ground.phase }, { on := 15, ground := Ground.phase }, { on := 16, ground := Ground.phase }, { on := 17, ground := Ground.phase }], guard := none }) (v := ?_) rfl (by kernel_rfl) (by kernel_rfl) (by kernel_rfl) (fun _ _ _ h => h) (Or.inl ⟨by kernel_rfl, ?_⟩) (by assumption) ?_
      rotate_left 1
      focus (intro w hSw; (try dsimp only at hSw); go_simp; (try with_reducible rfl))
      try simp only [Act.put, List.setIfInBounds_toArray, List.set_cons_zero, List.set_cons_succ]
      refine wpAnyH_done (by kernel_rfl) ?_ _
      have hU := hT0
      generalize World.drew _ = wd at *
      obtain ⟨_, _⟩ := St.pt hU (b := b10) (x := U0) (y := V0) (by simp)
      obtain ⟨_, _⟩ := St.pt hU (b := b11) (x := U0) (y := V0) (by simp)
      have : ∀ j, _ = false := St.frozen hU (b := b10) (cs := #[.int .i64 U0, .int .i64 V0]) (t := 49) (by simp)
      have : ∀ j, _ = false := St.frozen hU (b := b11) (cs := #[.int .i64 U0, .int .i64 V0]) (t := 49) (by simp)
      go_wp2_with fail
      have h9 := (hU.swp.put2 (v0 := .int .i64 (mn U0 U1)) (v1 := .int .i64 (mn V0 V1)) hle10 (by intro x hx; simp only [List.mem_cons] at hx; rcases hx with rfl | hx; exact fun hh => hn1 hh.symm; exact hne10 x (by simpa using hx))).swp.put2 (v0 := .int .i64 (mx U0 U1)) (v1 := .int .i64 (mx V0 V1)) hle11 (by intro x hx; simp only [List.mem_cons] at hx; rcases hx with rfl | hx; exact hn1; exact hn2 x (by simpa using hx))
      exact ⟨.inr (.inr (.inl ⟨rfl, h9⟩)), by decide⟩
    · have hS := HS.out
      clear HS
      have HP : Hid (∀ V9, St w [(b9, .cells #[.int .i64 r1, .int .i64 r3] 72), (b8, .cells #[.int .i64 r0, .int .i64 r2] 72), (b0 + 1 + 1, b5o 0 0 0 0 0), (b0 + 1, ro r0 r1 r2 r3), (b0, ao p0 p1 p2 p3 p4 p5 p6)] V9 → St w [(b9, .cells #[.int .i64 r1, .int .i64 r3] 72), (b8, .cells #[.int .i64 r0, .int .i64 r2] 72), (b0 + 1 + 1, b5o 0 0 0 0 0), (b0 + 1, ro r0 r1 r2 r3), (b0, ao p0 p1 p2 p3 p4 p5 p6)] V9 ∧ AB V9 b0 p0 p1 p2 p3 p4 p5 p6 ∧ V9.cell? ⟨b8, 0, none⟩ = some (.int .i64 r0) ∧ V9.cell? ⟨b8, 1, none⟩ = some (.int .i64 r2) ∧ V9.cell? ⟨b9, 0, none⟩ = some (.int .i64 r1) ∧ V9.cell? ⟨b9, 1, none⟩ = some (.int .i64 r3)) := fun V hV => ⟨hV, St.aff hV (by simp), hV.cell (b := b8) (cs := #[.int .i64 r0, .int .i64 r2]) (t := 72) (by simp) 0, hV.cell (b := b8) (cs := #[.int .i64 r0, .int .i64 r2]) (t := 72) (by simp) 1, hV.cell (b := b9) (cs := #[.int .i64 r1, .int .i64 r3]) (t := 72) (by simp) 0, hV.cell (b := b9) (cs := #[.int .i64 r1, .int .i64 r3]) (t := 72) (by simp) 1⟩
      go_upto_region 15 with fail
      refine wp_region_held_drew (S := fun V9 => St w [(b9, .cells #[.int .i64 r1, .int .i64 r3] 72), (b8, .cells #[.int .i64 r0, .int .i64 r2] 72), (b0 + 1 + 1, b5o 0 0 0 0 0), (b0 + 1, ro r0 r1 r2 r3), (b0, ao p0 p1 p2 p3 p4 p5 p6)] V9 ∧ AB V9 b0 p0 p1 p2 p3 p4 p5 p6 ∧ V9.cell? ⟨b8, 0, none⟩ = some (.int .i64 r0) ∧ V9.cell? ⟨b8, 1, none⟩ = some (.int .i64 r2) ∧ V9.cell? ⟨b9, 0, none⟩ = some (.int .i64 r1) ∧ V9.cell? ⟨b9, 1, none⟩ = some (.int .i64 r3)) (by kernel_rfl) ?_ (fun hHeld => ?_)
      · exact HP.out _ (hS.drew.tl.tl)
      have hS0 := hS.drew
      refine wpAnyH_take (i := 0) (oi := { dst := some 52, op := Op.fieldAddr 23 (Operand.tmp 2) 0, type := 0, pos := "ref.go:164", after := #[], guard := none }) (v := ?_) rfl (by kernel_rfl) (by kernel_rfl) (by kernel_rfl) (fun _ _ _ h => h) (Or.inl ⟨by kernel_rfl, ?_⟩) (by assumption) ?_
      rotate_left 1
      focus (intro w hSw; (try dsimp only at hSw); go_simp; (try with_reducible rfl))
      try simp only [Act.put, List.setIfInBounds_toArray, List.set_cons_zero, List.set_cons_succ]
      refine wpAnyH_take (i := 1) (oi := { dst := some 53, op := Op.load 3 (Operand.tmp 52), type := 3, pos := "ref.go:164", after := #[{ on := 0, ground := Ground.data }], guard := none }) (v := ?_) rfl (by kernel_rfl) (by kernel_rfl) (by kernel_rfl) (fun _ _ _ h => h) (Or.inl ⟨by kernel_rfl, ?_⟩) (by assumption) ?_
      rotate_left 1
      focus (intro w hSw; (try dsimp only at hSw); go_simp; (try with_reducible rfl))
      try simp only [Act.put, List.setIfInBounds_toArray, List.set_cons_zero, List.set_cons_succ]
      refine wpAnyH_take (i := 2) (oi := { dst := some 54, op := Op.move (Operand.tmp 12), type := 3, pos := "ref.go:164", after := #[], guard := none }) (v := ?_) rfl (by kernel_rfl) (by kernel_rfl) (by kernel_rfl) (fun _ _ _ h => h) (Or.inl ⟨by kernel_rfl, ?_⟩) (by assumption) ?_
      rotate_left 1
      focus (intro w hSw; (try dsimp only at hSw); go_simp; (try with_reducible rfl))
      try simp only [Act.put, List.setIfInBounds_toArray, List.set_cons_zero, List.set_cons_succ]
      refine wpAnyH_take (i := 3) (oi := { dst := some 55, op := Op.binOp BinOp.rem 3 (Operand.tmp 54) (Operand.const (Value.int IntKind.i64 2)) 3, type := 3, pos := "ref.go:164", after := #[{ on := 2, ground := Ground.data }], guard := none }) (v := (.int .i64 0)) rfl (by kernel_rfl) (by kernel_rfl) (by kernel_rfl) (fun _ _ _ h => h) (Or.inl ⟨by kernel_rfl, ?_⟩) (by assumption) ?_
      focus (intro w hSw; (try dsimp only at hSw); go_simp; try (first | rfl | decide))
      try simp only [Act.put, List.setIfInBounds_toArray, List.set_cons_zero, List.set_cons_succ]
      refine wpAnyH_take (i := 4) (oi := { dst := some 56, op := Op.indexAddr 72 (Operand.tmp 8) (Operand.tmp 55), type := 0, pos := "ref.go:164", after := #[{ on := 3, ground := Ground.data }], guard := none }) (v := ?_) rfl (by kernel_rfl) (by kernel_rfl) (by kernel_rfl) (fun _ _ _ h => h) (Or.inl ⟨by kernel_rfl, ?_⟩) (by assumption) ?_
      rotate_left 1
      focus (intro w hSw; (try dsimp only at hSw); go_simp; (try with_reducible rfl))
      try simp only [Act.put, List.setIfInBounds_toArray, List.set_cons_zero, List.set_cons_succ]
      refine wpAnyH_take (i := 5) (oi := { dst := some 57, op := Op.load 3 (Operand.tmp 56), type := 3, pos := "ref.go:164", after := #[{ on := 4, ground := Ground.data }], guard := none }) (v := ?_) rfl (by kernel_rfl) (by kernel_rfl) (by kernel_rfl) (fun _ _ _ h => h) (Or.inl ⟨by kernel_rfl, ?_⟩) (by assumption) ?_
      rotate_left 1
      focus (intro w hSw; (try dsimp only at hSw); go_simp; (try with_reducible rfl))
      try simp only [Act.put, List.setIfInBounds_toArray, List.set_cons_zero, List.set_cons_succ]
      refine wpAnyH_take (i := 6) (oi := { dst := some 58, op := Op.binOp BinOp.mul 3 (Operand.tmp 53) (Operand.tmp 57) 3, type := 3, pos := "ref.go:164", after := #[{ on := 1, ground := Ground.data }, { on := 5, ground := Ground.data }], guard := none }) (v := ?_) rfl (by kernel_rfl) (by kernel_rfl) (by kernel_rfl) (fun _ _ _ h => h) (Or.inl ⟨by kernel_rfl, ?_⟩) (by assumption) ?_
      rotate_left 1
      focus (intro w hSw; (try dsimp only at hSw); go_simp; (try with_reducible rfl))
      try simp only [Act.put, List.setIfInBounds_toArray, List.set_cons_zero, List.set_cons_succ]
      refine wpAnyH_take (i := 7) (oi := { dst := some 59, op := Op.fieldAddr 23 (Operand.tmp 2) 1, type := 0, pos := "ref.go:164", after := #[], guard := none }) (v := ?_) rfl (by kernel_rfl) (by kernel_rfl) (by kernel_rfl) (fun _ _ _ h => h) (Or.inl ⟨by kernel_rfl, ?_⟩) (by assumption) ?_
      rotate_left 1
      focus (intro w hSw; (try dsimp only at hSw); go_simp; (try with_reducible rfl))
      try simp only [Act.put, List.setIfInBounds_toArray, List.set_cons_zero, List.set_cons_succ]
      refine wpAnyH_take (i := 8) (oi := { dst := some 60, op := Op.load 3 (Operand.tmp 59), type := 3, pos := "ref.go:164", after := #[{ on := 7, ground := Ground.data }], guard := none }) (v := ?_) rfl (by kernel_rfl) (by kernel_rfl) (by kernel_rfl) (fun _ _ _ h => h) (Or.inl ⟨by kernel_rfl, ?_⟩) (by assumption) ?_
      rotate_left 1
      focus (intro w hSw; (try dsimp only at hSw); go_simp; (try with_reducible rfl))
      try simp only [Act.put, List.setIfInBounds_toArray, List.set_cons_zero, List.set_cons_succ]
      refine wpAnyH_take (i := 9) (oi := { dst := some 61, op := Op.move (Operand.tmp 12), type := 3, pos := "ref.go:164", after := #[], guard := none }) (v := ?_) rfl (by kernel_rfl) (by kernel_rfl) (by kernel_rfl) (fun _ _ _ h => h) (Or.inl ⟨by kernel_rfl, ?_⟩) (by assumption) ?_
      rotate_left 1
      focus (intro w hSw; (try dsimp only at hSw); go_simp; (try with_reducible rfl))
      try simp only [Act.put, List.setIfInBounds_toArray, List.set_cons_zero, List.set_cons_succ]
      refine wpAnyH_take (i := 10) (oi := { dst := some 62, op := Op.binOp BinOp.quo 3 (Operand.tmp 61) (Operand.const (Value.int IntKind.i64 2)) 3, type := 3, pos := "ref.go:164", after := #[{ on := 9, ground := Ground.data }], guard := none }) (v := (.int .i64 1)) rfl (by kernel_rfl) (by kernel_rfl) (by kernel_rfl) (fun _ _ _ h => h) (Or.inl ⟨by kernel_rfl, ?_⟩) (by assumption) ?_
      focus (intro w hSw; (try dsimp only at hSw); go_simp; try (first | rfl | decide))
      try simp only [Act.put, List.setIfInBounds_toArray, List.set_cons_zero, List.set_cons_succ]
      refine wpAnyH_take (i := 11) (oi := { dst := some 63, op := Op.indexAddr 72 (Operand.tmp 9) (Operand.tmp 62), type := 0, pos := "ref.go:164", after := #[{ on := 10, ground := Ground.data }], guard := none }) (v := ?_) rfl (by kernel_rfl) (by kernel_rfl) (by kernel_rfl) (fun _ _ _ h => h) (Or.inl ⟨by kernel_rfl, ?_⟩) (by assumption) ?_
      rotate_left 1
      focus (intro w hSw; (try dsimp only at hSw); go_simp; (try with_reducible rfl))
      try simp only [Act.put, List.setIfInBounds_toArray, List.set_cons_zero, List.set_cons_succ]
      refine wpAnyH_take (i := 12) (oi := { dst := some 64, op := Op.load 3 (Operand.tmp 63), type := 3, pos := "ref.go:164", after := #[{ on := 11, ground := Ground.data }], guard := none }) (v := ?_) rfl (by kernel_rfl) (by kernel_rfl) (by kernel_rfl) (fun _ _ _ h => h) (Or.inl ⟨by kernel_rfl, ?_⟩) (by assumption) ?_
      rotate_left 1
      focus (intro w hSw; (try dsimp only at hSw); go_simp; (try with_reducible rfl))
      try simp only [Act.put, List.setIfInBounds_toArray, List.set_cons_zero, List.set_cons_succ]
      refine wpAnyH_take (i := 13) (oi := { dst := some 65, op := Op.binOp BinOp.mul 3 (Operand.tmp 60) (Operand.tmp 64) 3, type := 3, pos := "ref.go:164", after := #[{ on := 8, ground := Ground.data }, { on := 12, ground := Ground.data }], guard := none }) (v := ?_) rfl (by kernel_rfl) (by kernel_rfl) (by kernel_rfl) (fun _ _ _ h => h) (Or.inl ⟨by kernel_rfl, ?_⟩) (by assumption) ?_
      rotate_left 1
      focus (intro w hSw; (try dsimp only at hSw); go_simp; (try with_reducible rfl))
      try simp only [Act.put, List.setIfInBounds_toArray, List.set_cons_zero, List.set_cons_succ]
      refine wpAnyH_take (i := 14) (oi := { dst := some 66, op := Op.binOp BinOp.add 3 (Operand.tmp 58) (Operand.tmp 65) 3, type := 3, pos := "ref.go:164", after := #[{ on := 6, ground := Ground.data }, { on := 13, ground := Ground.data }], guard := none }) (v := ?_) rfl (by kernel_rfl) (by kernel_rfl) (by kernel_rfl) (fun _ _ _ h => h) (Or.inl ⟨by kernel_rfl, ?_⟩) (by assumption) ?_
      rotate_left 1
      focus (intro w hSw; (try dsimp only at hSw); go_simp; (try with_reducible rfl))
      try simp only [Act.put, List.setIfInBounds_toArray, List.set_cons_zero, List.set_cons_succ]
      refine wpAnyH_take (i := 15) (oi := { dst := some 67, op := Op.fieldAddr 23 (Operand.tmp 2) 2, type := 0, pos := "ref.go:164", after := #[], guard := none }) (v := ?_) rfl (by kernel_rfl) (by kernel_rfl) (by kernel_rfl) (fun _ _ _ h => h) (Or.inl ⟨by kernel_rfl, ?_⟩) (by assumption) ?_
      rotate_left 1
      focus (intro w hSw; (try dsimp only at hSw); go_simp; (try with_reducible rfl))
      try simp only [Act.put, List.setIfInBounds_toArray, List.set_cons_zero, List.set_cons_succ]
      refine wpAnyH_take (i := 16) (oi := { dst := some 68, op := Op.load 3 (Operand.tmp 67), type := 3, pos := "ref.go:164", after := #[{ on := 15, ground := Ground.data }], guard := none }) (v := ?_) rfl (by kernel_rfl) (by kernel_rfl) (by kernel_rfl) (fun _ _ _ h => h) (Or.inl ⟨by kernel_rfl, ?_⟩) (by assumption) ?_
      rotate_left 1
      focus (intro w hSw; (try dsimp only at hSw); go_simp; (try with_reducible rfl))
      try simp only [Act.put, List.setIfInBounds_toArray, List.set_cons_zero, List.set_cons_succ]
      refine wpAnyH_take (i := 17) (oi := { dst := some 69, op := Op.binOp BinOp.add 3 (Operand.tmp 66) (Operand.tmp 68) 3, type := 3, pos := "ref.go:164", after := #[{ on := 14, ground := Ground.data }, { on := 16, ground := Ground.data }], guard := none }) (v := ?_) rfl (by kernel_rfl) (by kernel_rfl) (by kernel_rfl) (fun _ _ _ h => h) (Or.inl ⟨by kernel_rfl, ?_⟩) (by assumption) ?_
      rotate_left 1
      focus (intro w hSw; (try dsimp only at hSw); go_simp; (try with_reducible rfl))
      try simp only [Act.put, List.setIfInBounds_toArray, List.set_cons_zero, List.set_cons_succ]
      refine wpAnyH_take (i := 18) (oi := { dst := some 13, op := Op.assign (Operand.tmp 69), type := 3, pos := "ref.go:164", after := #[{ on := 17, ground := Ground.data }, { on := 0, ground := Ground.phase }, { on := 1, ground := Ground.phase }, { on := 2, ground := Ground.phase }, { on := 3, ground := Ground.phase }, { on := 4, ground := Ground.phase }, { on := 5, ground := Ground.phase }, { on := 6, ground := Ground.phase }, { on := 7, ground := Ground.phase }, { on := 8, ground := Ground.phase }, { on := 9, ground := Ground.phase }, { on := 10, ground := Ground.phase }, { on := 11, ground := Ground.phase }, { on := 12, ground := Ground.phase }, { on := 13, ground := Ground.phase }, { on := 14, ground := Ground.phase }, { on := 15, ground := Ground.phase }, { on := 16, ground := Ground.phase }, { on := 17, ground := Ground.phase }], guard := none }) (v := ?_) rfl (by kernel_rfl) (by kernel_rfl) (by kernel_rfl) (fun _ _ _ h => h) (Or.inl ⟨by kernel_rfl, ?_⟩) (by assumption) ?_
      rotate_left 1
      focus (intro w hSw; (try dsimp only at hSw); go_simp; (try with_reducible rfl))
      try simp only [Act.put, List.setIfInBounds_toArray, List.set_cons_zero, List.set_cons_succ]
      refine wpAnyH_done (by kernel_rfl) ?_ _
      have hT := hS0
      generalize World.drew _ = wt at *
      go_upto_region 16 with fail
      refine wp_region_held_drew (S := fun V9 => St w [(b9, .cells #[.int .i64 r1, .int .i64 r3] 72), (b8, .cells #[.int .i64 r0, .int .i64 r2] 72), (b0 + 1 + 1, b5o 0 0 0 0 0), (b0 + 1, ro r0 r1 r2 r3), (b0, ao p0 p1 p2 p3 p4 p5 p6)] V9 ∧ AB V9 b0 p0 p1 p2 p3 p4 p5 p6 ∧ V9.cell? ⟨b8, 0, none⟩ = some (.int .i64 r0) ∧ V9.cell? ⟨b8, 1, none⟩ = some (.int .i64 r2) ∧ V9.cell? ⟨b9, 0, none⟩ = some (.int .i64 r1) ∧ V9.cell? ⟨b9, 1, none⟩ = some (.int .i64 r3)) (by kernel_rfl) ?_ (fun hHeld => ?_)
      · exact HP.out _ (hT.drew.tl.tl)
      have hT0 := hT.drew
      refine wpAnyH_take (i := 0) (oi := { dst := some 70, op := Op.fieldAddr 23 (Operand.tmp 2) 3, type := 0, pos := "ref.go:165", after := #[], guard := none }) (v := ?_) rfl (by kernel_rfl) (by kernel_rfl) (by kernel_rfl) (fun _ _ _ h => h) (Or.inl ⟨by kernel_rfl, ?_⟩) (by assumption) ?_
      rotate_left 1
      focus (intro w hSw; (try dsimp only at hSw); go_simp; (try with_reducible rfl))
      try simp only [Act.put, List.setIfInBounds_toArray, List.set_cons_zero, List.set_cons_succ]
      refine wpAnyH_take (i := 1) (oi := { dst := some 71, op := Op.load 3 (Operand.tmp 70), type := 3, pos := "ref.go:165", after := #[{ on := 0, ground := Ground.data }], guard := none }) (v := ?_) rfl (by kernel_rfl) (by kernel_rfl) (by kernel_rfl) (fun _ _ _ h => h) (Or.inl ⟨by kernel_rfl, ?_⟩) (by assumption) ?_
      rotate_left 1
      focus (intro w hSw; (try dsimp only at hSw); go_simp; (try with_reducible rfl))
      try simp only [Act.put, List.setIfInBounds_toArray, List.set_cons_zero, List.set_cons_succ]
      refine wpAnyH_take (i := 2) (oi := { dst := some 72, op := Op.move (Operand.tmp 12), type := 3, pos := "ref.go:165", after := #[], guard := none }) (v := ?_) rfl (by kernel_rfl) (by kernel_rfl) (by kernel_rfl) (fun _ _ _ h => h) (Or.inl ⟨by kernel_rfl, ?_⟩) (by assumption) ?_
      rotate_left 1
      focus (intro w hSw; (try dsimp only at hSw); go_simp; (try with_reducible rfl))
      try simp only [Act.put, List.setIfInBounds_toArray, List.set_cons_zero, List.set_cons_succ]
      refine wpAnyH_take (i := 3) (oi := { dst := some 73, op := Op.binOp BinOp.rem 3 (Operand.tmp 72) (Operand.const (Value.int IntKind.i64 2)) 3, type := 3, pos := "ref.go:165", after := #[{ on := 2, ground := Ground.data }], guard := none }) (v := (.int .i64 0)) rfl (by kernel_rfl) (by kernel_rfl) (by kernel_rfl) (fun _ _ _ h => h) (Or.inl ⟨by kernel_rfl, ?_⟩) (by assumption) ?_
      focus (intro w hSw; (try dsimp only at hSw); go_simp; try (first | rfl | decide))
      try simp only [Act.put, List.setIfInBounds_toArray, List.set_cons_zero, List.set_cons_succ]
      refine wpAnyH_take (i := 4) (oi := { dst := some 74, op := Op.indexAddr 72 (Operand.tmp 8) (Operand.tmp 73), type := 0, pos := "ref.go:165", after := #[{ on := 3, ground := Ground.data }], guard := none }) (v := ?_) rfl (by kernel_rfl) (by kernel_rfl) (by kernel_rfl) (fun _ _ _ h => h) (Or.inl ⟨by kernel_rfl, ?_⟩) (by assumption) ?_
      rotate_left 1
      focus (intro w hSw; (try dsimp only at hSw); go_simp; (try with_reducible rfl))
      try simp only [Act.put, List.setIfInBounds_toArray, List.set_cons_zero, List.set_cons_succ]
      refine wpAnyH_take (i := 5) (oi := { dst := some 75, op := Op.load 3 (Operand.tmp 74), type := 3, pos := "ref.go:165", after := #[{ on := 4, ground := Ground.data }], guard := none }) (v := ?_) rfl (by kernel_rfl) (by kernel_rfl) (by kernel_rfl) (fun _ _ _ h => h) (Or.inl ⟨by kernel_rfl, ?_⟩) (by assumption) ?_
      rotate_left 1
      focus (intro w hSw; (try dsimp only at hSw); go_simp; (try with_reducible rfl))
      try simp only [Act.put, List.setIfInBounds_toArray, List.set_cons_zero, List.set_cons_succ]
      refine wpAnyH_take (i := 6) (oi := { dst := some 76, op := Op.binOp BinOp.mul 3 (Operand.tmp 71) (Operand.tmp 75) 3, type := 3, pos := "ref.go:165", after := #[{ on := 1, ground := Ground.data }, { on := 5, ground := Ground.data }], guard := none }) (v := ?_) rfl (by kernel_rfl) (by kernel_rfl) (by kernel_rfl) (fun _ _ _ h => h) (Or.inl ⟨by kernel_rfl, ?_⟩) (by assumption) ?_
      rotate_left 1
      focus (intro w hSw; (try dsimp only at hSw); go_simp; (try with_reducible rfl))
      try simp only [Act.put, List.setIfInBounds_toArray, List.set_cons_zero, List.set_cons_succ]
      refine wpAnyH_take (i := 7) (oi := { dst := some 77, op := Op.fieldAddr 23 (Operand.tmp 2) 4, type := 0, pos := "ref.go:165", after := #[], guard := none }) (v := ?_) rfl (by kernel_rfl) (by kernel_rfl) (by kernel_rfl) (fun _ _ _ h => h) (Or.inl ⟨by kernel_rfl, ?_⟩) (by assumption) ?_
      rotate_left 1
      focus (intro w hSw; (try dsimp only at hSw); go_simp; (try with_reducible rfl))
      try simp only [Act.put, List.setIfInBounds_toArray, List.set_cons_zero, List.set_cons_succ]
      refine wpAnyH_take (i := 8) (oi := { dst := some 78, op := Op.load 3 (Operand.tmp 77), type := 3, pos := "ref.go:165", after := #[{ on := 7, ground := Ground.data }], guard := none }) (v := ?_) rfl (by kernel_rfl) (by kernel_rfl) (by kernel_rfl) (fun _ _ _ h => h) (Or.inl ⟨by kernel_rfl, ?_⟩) (by assumption) ?_
      rotate_left 1
      focus (intro w hSw; (try dsimp only at hSw); go_simp; (try with_reducible rfl))
      try simp only [Act.put, List.setIfInBounds_toArray, List.set_cons_zero, List.set_cons_succ]
      refine wpAnyH_take (i := 9) (oi := { dst := some 79, op := Op.move (Operand.tmp 12), type := 3, pos := "ref.go:165", after := #[], guard := none }) (v := ?_) rfl (by kernel_rfl) (by kernel_rfl) (by kernel_rfl) (fun _ _ _ h => h) (Or.inl ⟨by kernel_rfl, ?_⟩) (by assumption) ?_
      rotate_left 1
      focus (intro w hSw; (try dsimp only at hSw); go_simp; (try with_reducible rfl))
      try simp only [Act.put, List.setIfInBounds_toArray, List.set_cons_zero, List.set_cons_succ]
      refine wpAnyH_take (i := 10) (oi := { dst := some 80, op := Op.binOp BinOp.quo 3 (Operand.tmp 79) (Operand.const (Value.int IntKind.i64 2)) 3, type := 3, pos := "ref.go:165", after := #[{ on := 9, ground := Ground.data }], guard := none }) (v := (.int .i64 1)) rfl (by kernel_rfl) (by kernel_rfl) (by kernel_rfl) (fun _ _ _ h => h) (Or.inl ⟨by kernel_rfl, ?_⟩) (by assumption) ?_
      focus (intro w hSw; (try dsimp only at hSw); go_simp; try (first | rfl | decide))
      try simp only [Act.put, List.setIfInBounds_toArray, List.set_cons_zero, List.set_cons_succ]
      refine wpAnyH_take (i := 11) (oi := { dst := some 81, op := Op.indexAddr 72 (Operand.tmp 9) (Operand.tmp 80), type := 0, pos := "ref.go:165", after := #[{ on := 10, ground := Ground.data }], guard := none }) (v := ?_) rfl (by kernel_rfl) (by kernel_rfl) (by kernel_rfl) (fun _ _ _ h => h) (Or.inl ⟨by kernel_rfl, ?_⟩) (by assumption) ?_
      rotate_left 1
      focus (intro w hSw; (try dsimp only at hSw); go_simp; (try with_reducible rfl))
      try simp only [Act.put, List.setIfInBounds_toArray, List.set_cons_zero, List.set_cons_succ]
      refine wpAnyH_take (i := 12) (oi := { dst := some 82, op := Op.load 3 (Operand.tmp 81), type := 3, pos := "ref.go:165", after := #[{ on := 11, ground := Ground.data }], guard := none }) (v := ?_) rfl (by kernel_rfl) (by kernel_rfl) (by kernel_rfl) (fun _ _ _ h => h) (Or.inl ⟨by kernel_rfl, ?_⟩) (by assumption) ?_
      rotate_left 1
      focus (intro w hSw; (try dsimp only at hSw); go_simp; (try with_reducible rfl))
      try simp only [Act.put, List.setIfInBounds_toArray, List.set_cons_zero, List.set_cons_succ]
      refine wpAnyH_take (i := 13) (oi := { dst := some 83, op := Op.binOp BinOp.mul 3 (Operand.tmp 78) (Operand.tmp 82) 3, type := 3, pos := "ref.go:165", after := #[{ on := 8, ground := Ground.data }, { on := 12, ground := Ground.data }], guard := none }) (v := ?_) rfl (by kernel_rfl) (by kernel_rfl) (by kernel_rfl) (fun _ _ _ h => h) (Or.inl ⟨by kernel_rfl, ?_⟩) (by assumption) ?_
      rotate_left 1
      focus (intro w hSw; (try dsimp only at hSw); go_simp; (try with_reducible rfl))
      try simp only [Act.put, List.setIfInBounds_toArray, List.set_cons_zero, List.set_cons_succ]
      refine wpAnyH_take (i := 14) (oi := { dst := some 84, op := Op.binOp BinOp.add 3 (Operand.tmp 76) (Operand.tmp 83) 3, type := 3, pos := "ref.go:165", after := #[{ on := 6, ground := Ground.data }, { on := 13, ground := Ground.data }], guard := none }) (v := ?_) rfl (by kernel_rfl) (by kernel_rfl) (by kernel_rfl) (fun _ _ _ h => h) (Or.inl ⟨by kernel_rfl, ?_⟩) (by assumption) ?_
      rotate_left 1
      focus (intro w hSw; (try dsimp only at hSw); go_simp; (try with_reducible rfl))
      try simp only [Act.put, List.setIfInBounds_toArray, List.set_cons_zero, List.set_cons_succ]
      refine wpAnyH_take (i := 15) (oi := { dst := some 85, op := Op.fieldAddr 23 (Operand.tmp 2) 5, type := 0, pos := "ref.go:165", after := #[], guard := none }) (v := ?_) rfl (by kernel_rfl) (by kernel_rfl) (by kernel_rfl) (fun _ _ _ h => h) (Or.inl ⟨by kernel_rfl, ?_⟩) (by assumption) ?_
      rotate_left 1
      focus (intro w hSw; (try dsimp only at hSw); go_simp; (try with_reducible rfl))
      try simp only [Act.put, List.setIfInBounds_toArray, List.set_cons_zero, List.set_cons_succ]
      refine wpAnyH_take (i := 16) (oi := { dst := some 86, op := Op.load 3 (Operand.tmp 85), type := 3, pos := "ref.go:165", after := #[{ on := 15, ground := Ground.data }], guard := none }) (v := ?_) rfl (by kernel_rfl) (by kernel_rfl) (by kernel_rfl) (fun _ _ _ h => h) (Or.inl ⟨by kernel_rfl, ?_⟩) (by assumption) ?_
      rotate_left 1
      focus (intro w hSw; (try dsimp only at hSw); go_simp; (try with_reducible rfl))
      try simp only [Act.put, List.setIfInBounds_toArray, List.set_cons_zero, List.set_cons_succ]
      refine wpAnyH_take (i := 17) (oi := { dst := some 87, op := Op.binOp BinOp.add 3 (Operand.tmp 84) (Operand.tmp 86) 3, type := 3, pos := "ref.go:165", after := #[{ on := 14, ground := Ground.data }, { on := 16, ground := Ground.data }], guard := none }) (v := ?_) rfl (by kernel_rfl) (by kernel_rfl) (by kernel_rfl) (fun _ _ _ h => h) (Or.inl ⟨by kernel_rfl, ?_⟩) (by assumption) ?_
      rotate_left 1
      focus (intro w hSw; (try dsimp only at hSw); go_simp; (try with_reducible rfl))
      try simp only [Act.put, List.setIfInBounds_toArray, List.set_cons_zero, List.set_cons_succ]
      refine wpAnyH_take (i := 18) (oi := { dst := some 14, op := Op.assign (Operand.tmp 87), type := 3, pos := "ref.go:165", after := #[{ on := 17, ground := Ground.data }, { on := 0, ground := Ground.phase }, { on := 1, ground := Ground.phase }, { on := 2, ground := Ground.phase }, { on := 3, ground := Ground.phase }, { on := 4, ground := Ground.phase }, { on := 5, ground := Ground.phase }, { on := 6, ground := Ground.phase }, { on := 7, ground := Ground.phase }, { on := 8, ground := Ground.phase }, { on := 9, ground := Ground.phase }, { on := 10, ground := Ground.phase }, { on := 11, ground := Ground.phase }, { on := 12, ground := Ground.phase }, { on := 13, ground := Ground.phase }, { on := 14, ground := Ground.phase }, { on := 15, ground := Ground.phase }, { on := 16, ground := Ground.phase }, { on := 17, ground := Ground.phase }], guard := none }) (v := ?_) rfl (by kernel_rfl) (by kernel_rfl) (by kernel_rfl) (fun _ _ _ h => h) (Or.inl ⟨by kernel_rfl, ?_⟩) (by assumption) ?_
      rotate_left 1
      focus (intro w hSw; (try dsimp only at hSw); go_simp; (try with_reducible rfl))
      try simp only [Act.put, List.setIfInBounds_toArray, List.set_cons_zero, List.set_cons_succ]
      refine wpAnyH_done (by kernel_rfl) ?_ _
      have hU := hT0
      generalize World.drew _ = wd at *
      obtain ⟨_, _⟩ := St.pt hU (b := b10) (x := (mn U0 U1)) (y := (mn V0 V1)) (by simp)
      obtain ⟨_, _⟩ := St.pt hU (b := b11) (x := (mx U0 U1)) (y := (mx V0 V1)) (by simp)
      have : ∀ j, _ = false := St.frozen hU (b := b10) (cs := #[.int .i64 (mn U0 U1), .int .i64 (mn V0 V1)]) (t := 49) (by simp)
      have : ∀ j, _ = false := St.frozen hU (b := b11) (cs := #[.int .i64 (mx U0 U1), .int .i64 (mx V0 V1)]) (t := 49) (by simp)
      go_wp2_with fail
      have h9 := (hU.swp.put2 (v0 := .int .i64 (mn (mn U0 U1) U2)) (v1 := .int .i64 (mn (mn V0 V1) V2)) hle10 (by intro x hx; simp only [List.mem_cons] at hx; rcases hx with rfl | hx; exact fun hh => hn1 hh.symm; exact hne10 x (by simpa using hx))).swp.put2 (v0 := .int .i64 (mx (mx U0 U1) U2)) (v1 := .int .i64 (mx (mx V0 V1) V2)) hle11 (by intro x hx; simp only [List.mem_cons] at hx; rcases hx with rfl | hx; exact hn1; exact hn2 x (by simpa using hx))
      exact ⟨.inr (.inr (.inr (.inl ⟨rfl, h9⟩))), by decide⟩
    · have hS := HS.out
      clear HS
      have HP : Hid (∀ V9, St w [(b9, .cells #[.int .i64 r1, .int .i64 r3] 72), (b8, .cells #[.int .i64 r0, .int .i64 r2] 72), (b0 + 1 + 1, b5o 0 0 0 0 0), (b0 + 1, ro r0 r1 r2 r3), (b0, ao p0 p1 p2 p3 p4 p5 p6)] V9 → St w [(b9, .cells #[.int .i64 r1, .int .i64 r3] 72), (b8, .cells #[.int .i64 r0, .int .i64 r2] 72), (b0 + 1 + 1, b5o 0 0 0 0 0), (b0 + 1, ro r0 r1 r2 r3), (b0, ao p0 p1 p2 p3 p4 p5 p6)] V9 ∧ AB V9 b0 p0 p1 p2 p3 p4 p5 p6 ∧ V9.cell? ⟨b8, 0, none⟩ = some (.int .i64 r0) ∧ V9.cell? ⟨b8, 1, none⟩ = some (.int .i64 r2) ∧ V9.cell? ⟨b9, 0, none⟩ = some (.int .i64 r1) ∧ V9.cell? ⟨b9, 1, none⟩ = some (.int .i64 r3)) := fun V hV => ⟨hV, St.aff hV (by simp), hV.cell (b := b8) (cs := #[.int .i64 r0, .int .i64 r2]) (t := 72) (by simp) 0, hV.cell (b := b8) (cs := #[.int .i64 r0, .int .i64 r2]) (t := 72) (by simp) 1, hV.cell (b := b9) (cs := #[.int .i64 r1, .int .i64 r3]) (t := 72) (by simp) 0, hV.cell (b := b9) (cs := #[.int .i64 r1, .int .i64 r3]) (t := 72) (by simp) 1⟩
      go_upto_region 15 with fail
      refine wp_region_held_drew (S := fun V9 => St w [(b9, .cells #[.int .i64 r1, .int .i64 r3] 72), (b8, .cells #[.int .i64 r0, .int .i64 r2] 72), (b0 + 1 + 1, b5o 0 0 0 0 0), (b0 + 1, ro r0 r1 r2 r3), (b0, ao p0 p1 p2 p3 p4 p5 p6)] V9 ∧ AB V9 b0 p0 p1 p2 p3 p4 p5 p6 ∧ V9.cell? ⟨b8, 0, none⟩ = some (.int .i64 r0) ∧ V9.cell? ⟨b8, 1, none⟩ = some (.int .i64 r2) ∧ V9.cell? ⟨b9, 0, none⟩ = some (.int .i64 r1) ∧ V9.cell? ⟨b9, 1, none⟩ = some (.int .i64 r3)) (by kernel_rfl) ?_ (fun hHeld => ?_)
      · exact HP.out _ (hS.drew.tl.tl)
      have hS0 := hS.drew
      refine wpAnyH_take (i := 0) (oi := { dst := some 52, op := Op.fieldAddr 23 (Operand.tmp 2) 0, type := 0, pos := "ref.go:164", after := #[], guard := none }) (v := ?_) rfl (by kernel_rfl) (by kernel_rfl) (by kernel_rfl) (fun _ _ _ h => h) (Or.inl ⟨by kernel_rfl, ?_⟩) (by assumption) ?_
      rotate_left 1
      focus (intro w hSw; (try dsimp only at hSw); go_simp; (try with_reducible rfl))
      try simp only [Act.put, List.setIfInBounds_toArray, List.set_cons_zero, List.set_cons_succ]
      refine wpAnyH_take (i := 1) (oi := { dst := some 53, op := Op.load 3 (Operand.tmp 52), type := 3, pos := "ref.go:164", after := #[{ on := 0, ground := Ground.data }], guard := none }) (v := ?_) rfl (by kernel_rfl) (by kernel_rfl) (by kernel_rfl) (fun _ _ _ h => h) (Or.inl ⟨by kernel_rfl, ?_⟩) (by assumption) ?_
      rotate_left 1
      focus (intro w hSw; (try dsimp only at hSw); go_simp; (try with_reducible rfl))
      try simp only [Act.put, List.setIfInBounds_toArray, List.set_cons_zero, List.set_cons_succ]
      refine wpAnyH_take (i := 2) (oi := { dst := some 54, op := Op.move (Operand.tmp 12), type := 3, pos := "ref.go:164", after := #[], guard := none }) (v := ?_) rfl (by kernel_rfl) (by kernel_rfl) (by kernel_rfl) (fun _ _ _ h => h) (Or.inl ⟨by kernel_rfl, ?_⟩) (by assumption) ?_
      rotate_left 1
      focus (intro w hSw; (try dsimp only at hSw); go_simp; (try with_reducible rfl))
      try simp only [Act.put, List.setIfInBounds_toArray, List.set_cons_zero, List.set_cons_succ]
      refine wpAnyH_take (i := 3) (oi := { dst := some 55, op := Op.binOp BinOp.rem 3 (Operand.tmp 54) (Operand.const (Value.int IntKind.i64 2)) 3, type := 3, pos := "ref.go:164", after := #[{ on := 2, ground := Ground.data }], guard := none }) (v := (.int .i64 1)) rfl (by kernel_rfl) (by kernel_rfl) (by kernel_rfl) (fun _ _ _ h => h) (Or.inl ⟨by kernel_rfl, ?_⟩) (by assumption) ?_
      focus (intro w hSw; (try dsimp only at hSw); go_simp; try (first | rfl | decide))
      try simp only [Act.put, List.setIfInBounds_toArray, List.set_cons_zero, List.set_cons_succ]
      refine wpAnyH_take (i := 4) (oi := { dst := some 56, op := Op.indexAddr 72 (Operand.tmp 8) (Operand.tmp 55), type := 0, pos := "ref.go:164", after := #[{ on := 3, ground := Ground.data }], guard := none }) (v := ?_) rfl (by kernel_rfl) (by kernel_rfl) (by kernel_rfl) (fun _ _ _ h => h) (Or.inl ⟨by kernel_rfl, ?_⟩) (by assumption) ?_
      rotate_left 1
      focus (intro w hSw; (try dsimp only at hSw); go_simp; (try with_reducible rfl))
      try simp only [Act.put, List.setIfInBounds_toArray, List.set_cons_zero, List.set_cons_succ]
      refine wpAnyH_take (i := 5) (oi := { dst := some 57, op := Op.load 3 (Operand.tmp 56), type := 3, pos := "ref.go:164", after := #[{ on := 4, ground := Ground.data }], guard := none }) (v := ?_) rfl (by kernel_rfl) (by kernel_rfl) (by kernel_rfl) (fun _ _ _ h => h) (Or.inl ⟨by kernel_rfl, ?_⟩) (by assumption) ?_
      rotate_left 1
      focus (intro w hSw; (try dsimp only at hSw); go_simp; (try with_reducible rfl))
      try simp only [Act.put, List.setIfInBounds_toArray, List.set_cons_zero, List.set_cons_succ]
      refine wpAnyH_take (i := 6) (oi := { dst := some 58, op := Op.binOp BinOp.mul 3 (Operand.tmp 53) (Operand.tmp 57) 3, type := 3, pos := "ref.go:164", after := #[{ on := 1, ground := Ground.data }, { on := 5, ground := Ground.data }], guard := none }) (v := ?_) rfl (by kernel_rfl) (by kernel_rfl) (by kernel_rfl) (fun _ _ _ h => h) (Or.inl ⟨by kernel_rfl, ?_⟩) (by assumption) ?_
      rotate_left 1
      focus (intro w hSw; (try dsimp only at hSw); go_simp; (try with_reducible rfl))
      try simp only [Act.put, List.setIfInBounds_toArray, List.set_cons_zero, List.set_cons_succ]
      refine wpAnyH_take (i := 7) (oi := { dst := some 59, op := Op.fieldAddr 23 (Operand.tmp 2) 1, type := 0, pos := "ref.go:164", after := #[], guard := none }) (v := ?_) rfl (by kernel_rfl) (by kernel_rfl) (by kernel_rfl) (fun _ _ _ h => h) (Or.inl ⟨by kernel_rfl, ?_⟩) (by assumption) ?_
      rotate_left 1
      focus (intro w hSw; (try dsimp only at hSw); go_simp; (try with_reducible rfl))
      try simp only [Act.put, List.setIfInBounds_toArray, List.set_cons_zero, List.set_cons_succ]
      refine wpAnyH_take (i := 8) (oi := { dst := some 60, op := Op.load 3 (Operand.tmp 59), type := 3, pos := "ref.go:164", after := #[{ on := 7, ground := Ground.data }], guard := none }) (v := ?_) rfl (by kernel_rfl) (by kernel_rfl) (by kernel_rfl) (fun _ _ _ h => h) (Or.inl ⟨by kernel_rfl, ?_⟩) (by assumption) ?_
      rotate_left 1
      focus (intro w hSw; (try dsimp only at hSw); go_simp; (try with_reducible rfl))
      try simp only [Act.put, List.setIfInBounds_toArray, List.set_cons_zero, List.set_cons_succ]
      refine wpAnyH_take (i := 9) (oi := { dst := some 61, op := Op.move (Operand.tmp 12), type := 3, pos := "ref.go:164", after := #[], guard := none }) (v := ?_) rfl (by kernel_rfl) (by kernel_rfl) (by kernel_rfl) (fun _ _ _ h => h) (Or.inl ⟨by kernel_rfl, ?_⟩) (by assumption) ?_
      rotate_left 1
      focus (intro w hSw; (try dsimp only at hSw); go_simp; (try with_reducible rfl))
      try simp only [Act.put, List.setIfInBounds_toArray, List.set_cons_zero, List.set_cons_succ]
      refine wpAnyH_take (i := 10) (oi := { dst := some 62, op := Op.binOp BinOp.quo 3 (Operand.tmp 61) (Operand.const (Value.int IntKind.i64 2)) 3, type := 3, pos := "ref.go:164", after := #[{ on := 9, ground := Ground.data }], guard := none }) (v := (.int .i64 1)) rfl (by kernel_rfl) (by kernel_rfl) (by kernel_rfl) (fun _ _ _ h => h) (Or.inl ⟨by kernel_rfl, ?_⟩) (by assumption) ?_
      focus (intro w hSw; (try dsimp only at hSw); go_simp; try (first | rfl | decide))
      try simp only [Act.put, List.setIfInBounds_toArray, List.set_cons_zero, List.set_cons_succ]
      refine wpAnyH_take (i := 11) (oi := { dst := some 63, op := Op.indexAddr 72 (Operand.tmp 9) (Operand.tmp 62), type := 0, pos := "ref.go:164", after := #[{ on := 10, ground := Ground.data }], guard := none }) (v := ?_) rfl (by kernel_rfl) (by kernel_rfl) (by kernel_rfl) (fun _ _ _ h => h) (Or.inl ⟨by kernel_rfl, ?_⟩) (by assumption) ?_
      rotate_left 1
      focus (intro w hSw; (try dsimp only at hSw); go_simp; (try with_reducible rfl))
      try simp only [Act.put, List.setIfInBounds_toArray, List.set_cons_zero, List.set_cons_succ]
      refine wpAnyH_take (i := 12) (oi := { dst := some 64, op := Op.load 3 (Operand.tmp 63), type := 3, pos := "ref.go:164", after := #[{ on := 11, ground := Ground.data }], guard := none }) (v := ?_) rfl (by kernel_rfl) (by kernel_rfl) (by kernel_rfl) (fun _ _ _ h => h) (Or.inl ⟨by kernel_rfl, ?_⟩) (by assumption) ?_
      rotate_left 1
      focus (intro w hSw; (try dsimp only at hSw); go_simp; (try with_reducible rfl))
      try simp only [Act.put, List.setIfInBounds_toArray, List.set_cons_zero, List.set_cons_succ]
      refine wpAnyH_take (i := 13) (oi := { dst := some 65, op := Op.binOp BinOp.mul 3 (Operand.tmp 60) (Operand.tmp 64) 3, type := 3, pos := "ref.go:164", after := #[{ on := 8, ground := Ground.data }, { on := 12, ground := Ground.data }], guard := none }) (v := ?_) rfl (by kernel_rfl) (by kernel_rfl) (by kernel_rfl) (fun _ _ _ h => h) (Or.inl ⟨by kernel_rfl, ?_⟩) (by assumption) ?_
      rotate_left 1
      focus (intro w hSw; (try dsimp only at hSw); go_simp; (try with_reducible rfl))
      try simp only [Act.put, List.setIfInBounds_toArray, List.set_cons_zero, List.set_cons_succ]
      refine wpAnyH_take (i := 14) (oi := { dst := some 66, op := Op.binOp BinOp.add 3 (Operand.tmp 58) (Operand.tmp 65) 3, type := 3, pos := "ref.go:164", after := #[{ on := 6, ground := Ground.data }, { on := 13, ground := Ground.data }], guard := none }) (v := ?_) rfl (by kernel_rfl) (by kernel_rfl) (by kernel_rfl) (fun _ _ _ h => h) (Or.inl ⟨by kernel_rfl, ?_⟩) (by assumption) ?_
      rotate_left 1
      focus (intro w hSw; (try dsimp only at hSw); go_simp; (try with_reducible rfl))
      try simp only [Act.put, List.setIfInBounds_toArray, List.set_cons_zero, List.set_cons_succ]
      refine wpAnyH_take (i := 15) (oi := { dst := some 67, op := Op.fieldAddr 23 (Operand.tmp 2) 2, type := 0, pos := "ref.go:164", after := #[], guard := none }) (v := ?_) rfl (by kernel_rfl) (by kernel_rfl) (by kernel_rfl) (fun _ _ _ h => h) (Or.inl ⟨by kernel_rfl, ?_⟩) (by assumption) ?_
      rotate_left 1
      focus (intro w hSw; (try dsimp only at hSw); go_simp; (try with_reducible rfl))
      try simp only [Act.put, List.setIfInBounds_toArray, List.set_cons_zero, List.set_cons_succ]
      refine wpAnyH_take (i := 16) (oi := { dst := some 68, op := Op.load 3 (Operand.tmp 67), type := 3, pos := "ref.go:164", after := #[{ on := 15, ground := Ground.data }], guard := none }) (v := ?_) rfl (by kernel_rfl) (by kernel_rfl) (by kernel_rfl) (fun _ _ _ h => h) (Or.inl ⟨by kernel_rfl, ?_⟩) (by assumption) ?_
      rotate_left 1
      focus (intro w hSw; (try dsimp only at hSw); go_simp; (try with_reducible rfl))
      try simp only [Act.put, List.setIfInBounds_toArray, List.set_cons_zero, List.set_cons_succ]
      refine wpAnyH_take (i := 17) (oi := { dst := some 69, op := Op.binOp BinOp.add 3 (Operand.tmp 66) (Operand.tmp 68) 3, type := 3, pos := "ref.go:164", after := #[{ on := 14, ground := Ground.data }, { on := 16, ground := Ground.data }], guard := none }) (v := ?_) rfl (by kernel_rfl) (by kernel_rfl) (by kernel_rfl) (fun _ _ _ h => h) (Or.inl ⟨by kernel_rfl, ?_⟩) (by assumption) ?_
      rotate_left 1
      focus (intro w hSw; (try dsimp only at hSw); go_simp; (try with_reducible rfl))
      try simp only [Act.put, List.setIfInBounds_toArray, List.set_cons_zero, List.set_cons_succ]
      refine wpAnyH_take (i := 18) (oi := { dst := some 13, op := Op.assign (Operand.tmp 69), type := 3, pos := "ref.go:164", after := #[{ on := 17, ground := Ground.data }, { on := 0, ground := Ground.phase }, { on := 1, ground := Ground.phase }, { on := 2, ground := Ground.phase }, { on := 3, ground := Ground.phase }, { on := 4, ground := Ground.phase }, { on := 5, ground := Ground.phase }, { on := 6, ground := Ground.phase }, { on := 7, ground := Ground.phase }, { on := 8, ground := Ground.phase }, { on := 9, ground := Ground.phase }, { on := 10, ground := Ground.phase }, { on := 11, ground := Ground.phase }, { on := 12, ground := Ground.phase }, { on := 13, ground := Ground.phase }, { on := 14, ground := Ground.phase }, { on := 15, ground := Ground.phase }, { on := 16, ground := Ground.phase }, { on := 17, ground := Ground.phase }], guard := none }) (v := ?_) rfl (by kernel_rfl) (by kernel_rfl) (by kernel_rfl) (fun _ _ _ h => h) (Or.inl ⟨by kernel_rfl, ?_⟩) (by assumption) ?_
      rotate_left 1
      focus (intro w hSw; (try dsimp only at hSw); go_simp; (try with_reducible rfl))
      try simp only [Act.put, List.setIfInBounds_toArray, List.set_cons_zero, List.set_cons_succ]
      refine wpAnyH_done (by kernel_rfl) ?_ _
      have hT := hS0
      generalize World.drew _ = wt at *
      go_upto_region 16 with fail
      refine wp_region_held_drew (S := fun V9 => St w [(b9, .cells #[.int .i64 r1, .int .i64 r3] 72), (b8, .cells #[.int .i64 r0, .int .i64 r2] 72), (b0 + 1 + 1, b5o 0 0 0 0 0), (b0 + 1, ro r0 r1 r2 r3), (b0, ao p0 p1 p2 p3 p4 p5 p6)] V9 ∧ AB V9 b0 p0 p1 p2 p3 p4 p5 p6 ∧ V9.cell? ⟨b8, 0, none⟩ = some (.int .i64 r0) ∧ V9.cell? ⟨b8, 1, none⟩ = some (.int .i64 r2) ∧ V9.cell? ⟨b9, 0, none⟩ = some (.int .i64 r1) ∧ V9.cell? ⟨b9, 1, none⟩ = some (.int .i64 r3)) (by kernel_rfl) ?_ (fun hHeld => ?_)
      · exact HP.out _ (hT.drew.tl.tl)
      have hT0 := hT.drew
      refine wpAnyH_take (i := 0) (oi := { dst := some 70, op := Op.fieldAddr 23 (Operand.tmp 2) 3, type := 0, pos := "ref.go:165", after := #[], guard := none }) (v := ?_) rfl (by kernel_rfl) (by kernel_rfl) (by kernel_rfl) (fun _ _ _ h => h) (Or.inl ⟨by kernel_rfl, ?_⟩) (by assumption) ?_
      rotate_left 1
      focus (intro w hSw; (try dsimp only at hSw); go_simp; (try with_reducible rfl))
      try simp only [Act.put, List.setIfInBounds_toArray, List.set_cons_zero, List.set_cons_succ]
      refine wpAnyH_take (i := 1) (oi := { dst := some 71, op := Op.load 3 (Operand.tmp 70), type := 3, pos := "ref.go:165", after := #[{ on := 0, ground := Ground.data }], guard := none }) (v := ?_) rfl (by kernel_rfl) (by kernel_rfl) (by kernel_rfl) (fun _ _ _ h => h) (Or.inl ⟨by kernel_rfl, ?_⟩) (by assumption) ?_
      rotate_left 1
      focus (intro w hSw; (try dsimp only at hSw); go_simp; (try with_reducible rfl))
      try simp only [Act.put, List.setIfInBounds_toArray, List.set_cons_zero, List.set_cons_succ]
      refine wpAnyH_take (i := 2) (oi := { dst := some 72, op := Op.move (Operand.tmp 12), type := 3, pos := "ref.go:165", after := #[], guard := none }) (v := ?_) rfl (by kernel_rfl) (by kernel_rfl) (by kernel_rfl) (fun _ _ _ h => h) (Or.inl ⟨by kernel_rfl, ?_⟩) (by assumption) ?_
      rotate_left 1
      focus (intro w hSw; (try dsimp only at hSw); go_simp; (try with_reducible rfl))
      try simp only [Act.put, List.setIfInBounds_toArray, List.set_cons_zero, List.set_cons_succ]
      refine wpAnyH_take (i := 3) (oi := { dst := some 73, op := Op.binOp BinOp.rem 3 (Operand.tmp 72) (Operand.const (Value.int IntKind.i64 2)) 3, type := 3, pos := "ref.go:165", after := #[{ on := 2, ground := Ground.data }], guard := none }) (v := (.int .i64 1)) rfl (by kernel_rfl) (by kernel_rfl) (by kernel_rfl) (fun _ _ _ h => h) (Or.inl ⟨by kernel_rfl, ?_⟩) (by assumption) ?_
      focus (intro w hSw; (try dsimp only at hSw); go_simp; try (first | rfl | decide))
      try simp only [Act.put, List.setIfInBounds_toArray, List.set_cons_zero, List.set_cons_succ]
      refine wpAnyH_take (i := 4) (oi := { dst := some 74, op := Op.indexAddr 72 (Operand.tmp 8) (Operand.tmp 73), type := 0, pos := "ref.go:165", after := #[{ on := 3, ground := Ground.data }], guard := none }) (v := ?_) rfl (by kernel_rfl) (by kernel_rfl) (by kernel_rfl) (fun _ _ _ h => h) (Or.inl ⟨by kernel_rfl, ?_⟩) (by assumption) ?_
      rotate_left 1
      focus (intro w hSw; (try dsimp only at hSw); go_simp; (try with_reducible rfl))
      try simp only [Act.put, List.setIfInBounds_toArray, List.set_cons_zero, List.set_cons_succ]
      refine wpAnyH_take (i := 5) (oi := { dst := some 75, op := Op.load 3 (Operand.tmp 74), type := 3, pos := "ref.go:165", after := #[{ on := 4, ground := Ground.data }], guard := none }) (v := ?_) rfl (by kernel_rfl) (by kernel_rfl) (by kernel_rfl) (fun _ _ _ h => h) (Or.inl ⟨by kernel_rfl, ?_⟩) (by assumption) ?_
      rotate_left 1
      focus (intro w hSw; (try dsimp only at hSw); go_simp; (try with_reducible rfl))
      try simp only [Act.put, List.setIfInBounds_toArray, List.set_cons_zero, List.set_cons_succ]
      refine wpAnyH_take (i := 6) (oi := { dst := some 76, op := Op.binOp BinOp.mul 3 (Operand.tmp 71) (Operand.tmp 75) 3, type := 3, pos := "ref.go:165", after := #[{ on := 1, ground := Ground.data }, { on := 5, ground := Ground.data }], guard := none }) (v := ?_) rfl (by kernel_rfl) (by kernel_rfl) (by kernel_rfl) (fun _ _ _ h => h) (Or.inl ⟨by kernel_rfl, ?_⟩) (by assumption) ?_
      rotate_left 1
      focus (intro w hSw; (try dsimp only at hSw); go_simp; (try with_reducible rfl))
      try simp only [Act.put, List.setIfInBounds_toArray, List.set_cons_zero, List.set_cons_succ]
      refine wpAnyH_take (i := 7) (oi := { dst := some 77, op := Op.fieldAddr 23 (Operand.tmp 2) 4, type := 0, pos := "ref.go:165", after := #[], guard := none }) (v := ?_) rfl (by kernel_rfl) (by kernel_rfl) (by kernel_rfl) (fun _ _ _ h => h) (Or.inl ⟨by kernel_rfl, ?_⟩) (by assumption) ?_
      rotate_left 1
      focus (intro w hSw; (try dsimp only at hSw); go_simp; (try with_reducible rfl))
      try simp only [Act.put, List.setIfInBounds_toArray, List.set_cons_zero, List.set_cons_succ]
      refine wpAnyH_take (i := 8) (oi := { dst := some 78, op := Op.load 3 (Operand.tmp 77), type := 3, pos := "ref.go:165", after := #[{ on := 7, ground := Ground.data }], guard := none }) (v := ?_) rfl (by kernel_rfl) (by kernel_rfl) (by kernel_rfl) (fun _ _ _ h => h) (Or.inl ⟨by kernel_rfl, ?_⟩) (by assumption) ?_
      rotate_left 1
      focus (intro w hSw; (try dsimp only at hSw); go_simp; (try with_reducible rfl))
      try simp only [Act.put, List.setIfInBounds_toArray, List.set_cons_zero, List.set_cons_succ]
      refine wpAnyH_take (i := 9) (oi := { dst := some 79, op := Op.move (Operand.tmp 12), type := 3, pos := "ref.go:165", after := #[], guard := none }) (v := ?_) rfl (by kernel_rfl) (by kernel_rfl) (by kernel_rfl) (fun _ _ _ h => h) (Or.inl ⟨by kernel_rfl, ?_⟩) (by assumption) ?_
      rotate_left 1
      focus (intro w hSw; (try dsimp only at hSw); go_simp; (try with_reducible rfl))
      try simp only [Act.put, List.setIfInBounds_toArray, List.set_cons_zero, List.set_cons_succ]
      refine wpAnyH_take (i := 10) (oi := { dst := some 80, op := Op.binOp BinOp.quo 3 (Operand.tmp 79) (Operand.const (Value.int IntKind.i64 2)) 3, type := 3, pos := "ref.go:165", after := #[{ on := 9, ground := Ground.data }], guard := none }) (v := (.int .i64 1)) rfl (by kernel_rfl) (by kernel_rfl) (by kernel_rfl) (fun _ _ _ h => h) (Or.inl ⟨by kernel_rfl, ?_⟩) (by assumption) ?_
      focus (intro w hSw; (try dsimp only at hSw); go_simp; try (first | rfl | decide))
      try simp only [Act.put, List.setIfInBounds_toArray, List.set_cons_zero, List.set_cons_succ]
      refine wpAnyH_take (i := 11) (oi := { dst := some 81, op := Op.indexAddr 72 (Operand.tmp 9) (Operand.tmp 80), type := 0, pos := "ref.go:165", after := #[{ on := 10, ground := Ground.data }], guard := none }) (v := ?_) rfl (by kernel_rfl) (by kernel_rfl) (by kernel_rfl) (fun _ _ _ h => h) (Or.inl ⟨by kernel_rfl, ?_⟩) (by assumption) ?_
      rotate_left 1
      focus (intro w hSw; (try dsimp only at hSw); go_simp; (try with_reducible rfl))
      try simp only [Act.put, List.setIfInBounds_toArray, List.set_cons_zero, List.set_cons_succ]
      refine wpAnyH_take (i := 12) (oi := { dst := some 82, op := Op.load 3 (Operand.tmp 81), type := 3, pos := "ref.go:165", after := #[{ on := 11, ground := Ground.data }], guard := none }) (v := ?_) rfl (by kernel_rfl) (by kernel_rfl) (by kernel_rfl) (fun _ _ _ h => h) (Or.inl ⟨by kernel_rfl, ?_⟩) (by assumption) ?_
      rotate_left 1
      focus (intro w hSw; (try dsimp only at hSw); go_simp; (try with_reducible rfl))
      try simp only [Act.put, List.setIfInBounds_toArray, List.set_cons_zero, List.set_cons_succ]
      refine wpAnyH_take (i := 13) (oi := { dst := some 83, op := Op.binOp BinOp.mul 3 (Operand.tmp 78) (Operand.tmp 82) 3, type := 3, pos := "ref.go:165", after := #[{ on := 8, ground := Ground.data }, { on := 12, ground := Ground.data }], guard := none }) (v := ?_) rfl (by kernel_rfl) (by kernel_rfl) (by kernel_rfl) (fun _ _ _ h => h) (Or.inl ⟨by kernel_rfl, ?_⟩) (by assumption) ?_
      rotate_left 1
      focus (intro w hSw; (try dsimp only at hSw); go_simp; (try with_reducible rfl))
      try simp only [Act.put, List.setIfInBounds_toArray, List.set_cons_zero, List.set_cons_succ]
      refine wpAnyH_take (i := 14) (oi := { dst := some 84, op := Op.binOp BinOp.add 3 (Operand.tmp 76) (Operand.tmp 83) 3, type := 3, pos := "ref.go:165", after := #[{ on := 6, ground := Ground.data }, { on := 13, ground := Ground.data }], guard := none }) (v := ?_) rfl (by kernel_rfl) (by kernel_rfl) (by kernel_rfl) (fun _ _ _ h => h) (Or.inl ⟨by kernel_rfl, ?_⟩) (by assumption) ?_
      rotate_left 1
      focus (intro w hSw; (try dsimp only at hSw); go_simp; (try with_reducible rfl))
      try simp only [Act.put, List.setIfInBounds_toArray, List.set_cons_zero, List.set_cons_succ]
      refine wpAnyH_take (i := 15) (oi := { dst := some 85, op := Op.fieldAddr 23 (Operand.tmp 2) 5, type := 0, pos := "ref.go:165", after := #[], guard := none }) (v := ?_) rfl (by kernel_rfl) (by kernel_rfl) (by kernel_rfl) (fun _ _ _ h => h) (Or.inl ⟨by kernel_rfl, ?_⟩) (by assumption) ?_
      rotate_left 1
      focus (intro w hSw; (try dsimp only at hSw); go_simp; (try with_reducible rfl))
      try simp only [Act.put, List.setIfInBounds_toArray, List.set_cons_zero, List.set_cons_succ]
      refine wpAnyH_take (i := 16) (oi := { dst := some 86, op := Op.load 3 (Operand.tmp 85), type := 3, pos := "ref.go:165", after := #[{ on := 15, ground := Ground.data }], guard := none }) (v := ?_) rfl (by kernel_rfl) (by kernel_rfl) (by kernel_rfl) (fun _ _ _ h => h) (Or.inl ⟨by kernel_rfl, ?_⟩) (by assumption) ?_
      rotate_left 1
      focus (intro w hSw; (try dsimp only at hSw); go_simp; (try with_reducible rfl))
      try simp only [Act.put, List.setIfInBounds_toArray, List.set_cons_zero, List.set_cons_succ]
      refine wpAnyH_take (i := 17) (oi := { dst := some 87, op := Op.binOp BinOp.add 3 (Operand.tmp 84) (Operand.tmp 86) 3, type := 3, pos := "ref.go:165", after := #[{ on := 14, ground := Ground.data }, { on := 16, ground := Ground.data }], guard := none }) (v := ?_) rfl (by kernel_rfl) (by kernel_rfl) (by kernel_rfl) (fun _ _ _ h => h) (Or.inl ⟨by kernel_rfl, ?_⟩) (by assumption) ?_
      rotate_left 1
      focus (intro w hSw; (try dsimp only at hSw); go_simp; (try with_reducible rfl))
      try simp only [Act.put, List.setIfInBounds_toArray, List.set_cons_zero, List.set_cons_succ]
      refine wpAnyH_take (i := 18) (oi := { dst := some 14, op := Op.assign (Operand.tmp 87), type := 3, pos := "ref.go:165", after := #[{ on := 17, ground := Ground.data }, { on := 0, ground := Ground.phase }, { on := 1, ground := Ground.phase }, { on := 2, ground := Ground.phase }, { on := 3, ground := Ground.phase }, { on := 4, ground := Ground.phase }, { on := 5, ground := Ground.phase }, { on := 6, ground := Ground.phase }, { on := 7, ground := Ground.phase }, { on := 8, ground := Ground.phase }, { on := 9, ground := Ground.phase }, { on := 10, ground := Ground.phase }, { on := 11, ground := Ground.phase }, { on := 12, ground := Ground.phase }, { on := 13, ground := Ground.phase }, { on := 14, ground := Ground.phase }, { on := 15, ground := Ground.phase }, { on := 16, ground := Ground.phase }, { on := 17, ground := Ground.phase }], guard := none }) (v := ?_) rfl (by kernel_rfl) (by kernel_rfl) (by kernel_rfl) (fun _ _ _ h => h) (Or.inl ⟨by kernel_rfl, ?_⟩) (by assumption) ?_
      rotate_left 1
      focus (intro w hSw; (try dsimp only at hSw); go_simp; (try with_reducible rfl))
      try simp only [Act.put, List.setIfInBounds_toArray, List.set_cons_zero, List.set_cons_succ]
      refine wpAnyH_done (by kernel_rfl) ?_ _
      have hU := hT0
      generalize World.drew _ = wd at *
      obtain ⟨_, _⟩ := St.pt hU (b := b10) (x := (mn (mn U0 U1) U2)) (y := (mn (mn V0 V1) V2)) (by simp)
      obtain ⟨_, _⟩ := St.pt hU (b := b11) (x := (mx (mx U0 U1) U2)) (y := (mx (mx V0 V1) V2)) (by simp)
      have : ∀ j, _ = false := St.frozen hU (b := b10) (cs := #[.int .i64 (mn (mn U0 U1) U2), .int .i64 (mn (mn V0 V1) V2)]) (t := 49) (by simp)
      have : ∀ j, _ = false := St.frozen hU (b := b11) (cs := #[.int .i64 (mx (mx U0 U1) U2), .int .i64 (mx (mx V0 V1) V2)]) (t := 49) (by simp)
      go_wp2_with fail
      have h9 := (hU.swp.put2 (v0 := .int .i64 (mn (mn (mn U0 U1) U2) U3)) (v1 := .int .i64 (mn (mn (mn V0 V1) V2) V3)) hle10 (by intro x hx; simp only [List.mem_cons] at hx; rcases hx with rfl | hx; exact fun hh => hn1 hh.symm; exact hne10 x (by simpa using hx))).swp.put2 (v0 := .int .i64 (mx (mx (mx U0 U1) U2) U3)) (v1 := .int .i64 (mx (mx (mx V0 V1) V2) V3)) hle11 (by intro x hx; simp only [List.mem_cons] at hx; rcases hx with rfl | hx; exact hn1; exact hn2 x (by simpa using hx))
      exact ⟨.inr (.inr (.inr (.inr ⟨rfl, h9⟩))), by decide⟩
    · have hS := HS.out
      clear HS hmx hmn
      obtain ⟨D0, D1, D2, D3⟩ := HD.out
      rw [← D0, ← D1, ← D2, ← D3] at hS
      clear D0 D1 D2 D3 HD
      obtain ⟨_, _, _, _, _, _, _⟩ := St.aff hS (b := b0) (a := p0) (b' := p1) (c := p2) (d := p3) (e := p4) (f := p5) (n := p6) (by simp)
      go_upto_region 20 with fail
      rw [e6]
      have HP : Hid (∀ V9, St w ((b11, pob d2 d3) :: (b10, pob d0 d1) :: [(b9, .cells #[.int .i64 r1, .int .i64 r3] 72), (b8, .cells #[.int .i64 r0, .int .i64 r2] 72), (b0 + 1 + 1, b5o 0 0 0 0 0), (b0 + 1, ro r0 r1 r2 r3), (b0, ao p0 p1 p2 p3 p4 p5 p6)]) V9 → St w ((b11, pob d2 d3) :: (b10, pob d0 d1) :: [(b9, .cells #[.int .i64 r1, .int .i64 r3] 72), (b8, .cells #[.int .i64 r0, .int .i64 r2] 72), (b0 + 1 + 1, b5o 0 0 0 0 0), (b0 + 1, ro r0 r1 r2 r3), (b0, ao p0 p1 p2 p3 p4 p5 p6)]) V9 ∧ AB V9 b0 p0 p1 p2 p3 p4 p5 p6 ∧ TB V9 b10 d0 d1 ∧ TB V9 b11 d2 d3) := fun V hV => ⟨hV, St.aff hV (by simp), St.pt hV (by simp), St.pt hV (by simp)⟩
      go_cut [16] (fun v8 wx => ∃ b8, v8 = .pointer (some ⟨b8, 0, none⟩) ∧ b0 + 1 + 1 ≠ b8 ∧ Hid (St w [(b8, ro c0 c1 (c2 + 1) (c3 + 1)), (b0 + 1 + 1, b5o 0 0 0 0 0)] wx))
      case first =>
        refine wp_region_held_drew (S := fun V9 => St w ((b11, pob d2 d3) :: (b10, pob d0 d1) :: [(b9, .cells #[.int .i64 r1, .int .i64 r3] 72), (b8, .cells #[.int .i64 r0, .int .i64 r2] 72), (b0 + 1 + 1, b5o 0 0 0 0 0), (b0 + 1, ro r0 r1 r2 r3), (b0, ao p0 p1 p2 p3 p4 p5 p6)]) V9 ∧ AB V9 b0 p0 p1 p2 p3 p4 p5 p6 ∧ TB V9 b10 d0 d1 ∧ TB V9 b11 d2 d3) (by kernel_rfl) ?_ (fun hHeld => ?_)
        · exact HP.out _ (hS.drew)
        have hS0 := hS.drew
        refine wpAnyH_take (i := 0) (oi := { dst := some 109, op := Op.fieldAddr 49 (Operand.tmp 10) 0, type := 0, pos := "ref.go:170", after := #[], guard := none }) (v := ?_) rfl (by kernel_rfl) (by kernel_rfl) (by kernel_rfl) (fun _ _ _ h => h) (Or.inl ⟨by kernel_rfl, ?_⟩) (by assumption) ?_
        rotate_left 1
        focus (intro w hSw; (try dsimp only at hSw); go_simp; (try with_reducible rfl))
        try simp only [Act.put, List.setIfInBounds_toArray, List.set_cons_zero, List.set_cons_succ]
        refine wpAnyH_take (i := 1) (oi := { dst := some 110, op := Op.load 3 (Operand.tmp 109), type := 3, pos := "ref.go:170", after := #[{ on := 0, ground := Ground.data }], guard := none }) (v := ?_) rfl (by kernel_rfl) (by kernel_rfl) (by kernel_rfl) (fun _ _ _ h => h) (Or.inl ⟨by kernel_rfl, ?_⟩) (by assumption) ?_
        rotate_left 1
        focus (intro w hSw; (try dsimp only at hSw); go_simp; (try with_reducible rfl))
        try simp only [Act.put, List.setIfInBounds_toArray, List.set_cons_zero, List.set_cons_succ]
        refine wpAnyH_take (i := 2) (oi := { dst := some 111, op := Op.binOp BinOp.mul 3 (Operand.const (Value.int IntKind.i64 2)) (Operand.tmp 110) 3, type := 3, pos := "ref.go:170", after := #[{ on := 1, ground := Ground.data }], guard := none }) (v := ?_) rfl (by kernel_rfl) (by kernel_rfl) (by kernel_rfl) (fun _ _ _ h => h) (Or.inl ⟨by kernel_rfl, ?_⟩) (by assumption) ?_
        rotate_left 1
        focus (intro w hSw; (try dsimp only at hSw); go_simp; (try with_reducible rfl))
        try simp only [Act.put, List.setIfInBounds_toArray, List.set_cons_zero, List.set_cons_succ]
        refine wpAnyH_take (i := 3) (oi := { dst := some 112, op := Op.fieldAddr 23 (Operand.tmp 2) 6, type := 0, pos := "ref.go:170", after := #[], guard := none }) (v := ?_) rfl (by kernel_rfl) (by kernel_rfl) (by kernel_rfl) (fun _ _ _ h => h) (Or.inl ⟨by kernel_rfl, ?_⟩) (by assumption) ?_
        rotate_left 1
        focus (intro w hSw; (try dsimp only at hSw); go_simp; (try with_reducible rfl))
        try simp only [Act.put, List.setIfInBounds_toArray, List.set_cons_zero, List.set_cons_succ]
        refine wpAnyH_take (i := 4) (oi := { dst := some 113, op := Op.load 3 (Operand.tmp 112), type := 3, pos := "ref.go:170", after := #[{ on := 3, ground := Ground.data }], guard := none }) (v := ?_) rfl (by kernel_rfl) (by kernel_rfl) (by kernel_rfl) (fun _ _ _ h => h) (Or.inl ⟨by kernel_rfl, ?_⟩) (by assumption) ?_
        rotate_left 1
        focus (intro w hSw; (try dsimp only at hSw); go_simp; (try with_reducible rfl))
        try simp only [Act.put, List.setIfInBounds_toArray, List.set_cons_zero, List.set_cons_succ]
        refine wpAnyH_take (i := 5) (oi := { dst := some 114, op := Op.binOp BinOp.sub 3 (Operand.tmp 111) (Operand.tmp 113) 3, type := 3, pos := "ref.go:170", after := #[{ on := 2, ground := Ground.data }, { on := 4, ground := Ground.data }], guard := none }) (v := ?_) rfl (by kernel_rfl) (by kernel_rfl) (by kernel_rfl) (fun _ _ _ h => h) (Or.inl ⟨by kernel_rfl, ?_⟩) (by assumption) ?_
        rotate_left 1
        focus (intro w hSw; (try dsimp only at hSw); go_simp; (try with_reducible rfl))
        try simp only [Act.put, List.setIfInBounds_toArray, List.set_cons_zero, List.set_cons_succ]
        refine wpAnyH_take (i := 6) (oi := { dst := some 115, op := Op.move (Operand.tmp 15), type := 3, pos := "ref.go:170", after := #[], guard := none }) (v := ?_) rfl (by kernel_rfl) (by kernel_rfl) (by kernel_rfl) (fun _ _ _ h => h) (Or.inl ⟨by kernel_rfl, ?_⟩) (by assumption) ?_
        rotate_left 1
        focus (intro w hSw; (try dsimp only at hSw); go_simp; (try with_reducible rfl))
        try simp only [Act.put, List.setIfInBounds_toArray, List.set_cons_zero, List.set_cons_succ]
        refine wpAnyH_take (i := 8) (oi := { dst := some 117, op := Op.fieldAddr 49 (Operand.tmp 10) 1, type := 0, pos := "ref.go:170", after := #[], guard := none }) (v := ?_) rfl (by kernel_rfl) (by kernel_rfl) (by kernel_rfl) (fun _ _ _ h => h) (Or.inl ⟨by kernel_rfl, ?_⟩) (by assumption) ?_
        rotate_left 1
        focus (intro w hSw; (try dsimp only at hSw); go_simp; (try with_reducible rfl))
        try simp only [Act.put, List.setIfInBounds_toArray, List.set_cons_zero, List.set_cons_succ]
        refine wpAnyH_take (i := 9) (oi := { dst := some 118, op := Op.load 3 (Operand.tmp 117), type := 3, pos := "ref.go:170", after := #[{ on := 8, ground := Ground.data }], guard := none }) (v := ?_) rfl (by kernel_rfl) (by kernel_rfl) (by kernel_rfl) (fun _ _ _ h => h) (Or.inl ⟨by kernel_rfl, ?_⟩) (by assumption) ?_
        rotate_left 1
        focus (intro w hSw; (try dsimp only at hSw); go_simp; (try with_reducible rfl))
        try simp only [Act.put, List.setIfInBounds_toArray, List.set_cons_zero, List.set_cons_succ]
        refine wpAnyH_take (i := 10) (oi := { dst := some 119, op := Op.binOp BinOp.mul 3 (Operand.const (Value.int IntKind.i64 2)) (Operand.tmp 118) 3, type := 3, pos := "ref.go:170", after := #[{ on := 9, ground := Ground.data }], guard := none }) (v := ?_) rfl (by kernel_rfl) (by kernel_rfl) (by kernel_rfl) (fun _ _ _ h => h) (Or.inl ⟨by kernel_rfl, ?_⟩) (by assumption) ?_
        rotate_left 1
        focus (intro w hSw; (try dsimp only at hSw); go_simp; (try with_reducible rfl))
        try simp only [Act.put, List.setIfInBounds_toArray, List.set_cons_zero, List.set_cons_succ]
        refine wpAnyH_take (i := 11) (oi := { dst := some 120, op := Op.fieldAddr 23 (Operand.tmp 2) 6, type := 0, pos := "ref.go:170", after := #[], guard := none }) (v := ?_) rfl (by kernel_rfl) (by kernel_rfl) (by kernel_rfl) (fun _ _ _ h => h) (Or.inl ⟨by kernel_rfl, ?_⟩) (by assumption) ?_
        rotate_left 1
        focus (intro w hSw; (try dsimp only at hSw); go_simp; (try with_reducible rfl))
        try simp only [Act.put, List.setIfInBounds_toArray, List.set_cons_zero, List.set_cons_succ]
        refine wpAnyH_take (i := 12) (oi := { dst := some 121, op := Op.load 3 (Operand.tmp 120), type := 3, pos := "ref.go:170", after := #[{ on := 11, ground := Ground.data }], guard := none }) (v := ?_) rfl (by kernel_rfl) (by kernel_rfl) (by kernel_rfl) (fun _ _ _ h => h) (Or.inl ⟨by kernel_rfl, ?_⟩) (by assumption) ?_
        rotate_left 1
        focus (intro w hSw; (try dsimp only at hSw); go_simp; (try with_reducible rfl))
        try simp only [Act.put, List.setIfInBounds_toArray, List.set_cons_zero, List.set_cons_succ]
        refine wpAnyH_take (i := 13) (oi := { dst := some 122, op := Op.binOp BinOp.sub 3 (Operand.tmp 119) (Operand.tmp 121) 3, type := 3, pos := "ref.go:170", after := #[{ on := 10, ground := Ground.data }, { on := 12, ground := Ground.data }], guard := none }) (v := ?_) rfl (by kernel_rfl) (by kernel_rfl) (by kernel_rfl) (fun _ _ _ h => h) (Or.inl ⟨by kernel_rfl, ?_⟩) (by assumption) ?_
        rotate_left 1
        focus (intro w hSw; (try dsimp only at hSw); go_simp; (try with_reducible rfl))
        try simp only [Act.put, List.setIfInBounds_toArray, List.set_cons_zero, List.set_cons_succ]
        refine wpAnyH_take (i := 14) (oi := { dst := some 123, op := Op.move (Operand.tmp 15), type := 3, pos := "ref.go:170", after := #[], guard := none }) (v := ?_) rfl (by kernel_rfl) (by kernel_rfl) (by kernel_rfl) (fun _ _ _ h => h) (Or.inl ⟨by kernel_rfl, ?_⟩) (by assumption) ?_
        rotate_left 1
        focus (intro w hSw; (try dsimp only at hSw); go_simp; (try with_reducible rfl))
        try simp only [Act.put, List.setIfInBounds_toArray, List.set_cons_zero, List.set_cons_succ]
        refine wpAnyH_take (i := 16) (oi := { dst := some 125, op := Op.fieldAddr 49 (Operand.tmp 11) 0, type := 0, pos := "ref.go:170", after := #[], guard := none }) (v := ?_) rfl (by kernel_rfl) (by kernel_rfl) (by kernel_rfl) (fun _ _ _ h => h) (Or.inl ⟨by kernel_rfl, ?_⟩) (by assumption) ?_
        rotate_left 1
        focus (intro w hSw; (try dsimp only at hSw); go_simp; (try with_reducible rfl))
        try simp only [Act.put, List.setIfInBounds_toArray, List.set_cons_zero, List.set_cons_succ]
        refine wpAnyH_take (i := 17) (oi := { dst := some 126, op := Op.load 3 (Operand.tmp 125), type := 3, pos := "ref.go:170", after := #[{ on := 16, ground := Ground.data }], guard := none }) (v := ?_) rfl (by kernel_rfl) (by kernel_rfl) (by kernel_rfl) (fun _ _ _ h => h) (Or.inl ⟨by kernel_rfl, ?_⟩) (by assumption) ?_
        rotate_left 1
        focus (intro w hSw; (try dsimp only at hSw); go_simp; (try with_reducible rfl))
        try simp only [Act.put, List.setIfInBounds_toArray, List.set_cons_zero, List.set_cons_succ]
        refine wpAnyH_take (i := 18) (oi := { dst := some 127, op := Op.binOp BinOp.mul 3 (Operand.const (Value.int IntKind.i64 2)) (Operand.tmp 126) 3, type := 3, pos := "ref.go:170", after := #[{ on := 17, ground := Ground.data }], guard := none }) (v := ?_) rfl (by kernel_rfl) (by kernel_rfl) (by kernel_rfl) (fun _ _ _ h => h) (Or.inl ⟨by kernel_rfl, ?_⟩) (by assumption) ?_
        rotate_left 1
        focus (intro w hSw; (try dsimp only at hSw); go_simp; (try with_reducible rfl))
        try simp only [Act.put, List.setIfInBounds_toArray, List.set_cons_zero, List.set_cons_succ]
        refine wpAnyH_take (i := 19) (oi := { dst := some 128, op := Op.fieldAddr 23 (Operand.tmp 2) 6, type := 0, pos := "ref.go:170", after := #[], guard := none }) (v := ?_) rfl (by kernel_rfl) (by kernel_rfl) (by kernel_rfl) (fun _ _ _ h => h) (Or.inl ⟨by kernel_rfl, ?_⟩) (by assumption) ?_
        rotate_left 1
        focus (intro w hSw; (try dsimp only at hSw); go_simp; (try with_reducible rfl))
        try simp only [Act.put, List.setIfInBounds_toArray, List.set_cons_zero, List.set_cons_succ]
        refine wpAnyH_take (i := 20) (oi := { dst := some 129, op := Op.load 3 (Operand.tmp 128), type := 3, pos := "ref.go:170", after := #[{ on := 19, ground := Ground.data }], guard := none }) (v := ?_) rfl (by kernel_rfl) (by kernel_rfl) (by kernel_rfl) (fun _ _ _ h => h) (Or.inl ⟨by kernel_rfl, ?_⟩) (by assumption) ?_
        rotate_left 1
        focus (intro w hSw; (try dsimp only at hSw); go_simp; (try with_reducible rfl))
        try simp only [Act.put, List.setIfInBounds_toArray, List.set_cons_zero, List.set_cons_succ]
        refine wpAnyH_take (i := 21) (oi := { dst := some 130, op := Op.binOp BinOp.sub 3 (Operand.tmp 127) (Operand.tmp 129) 3, type := 3, pos := "ref.go:170", after := #[{ on := 18, ground := Ground.data }, { on := 20, ground := Ground.data }], guard := none }) (v := ?_) rfl (by kernel_rfl) (by kernel_rfl) (by kernel_rfl) (fun _ _ _ h => h) (Or.inl ⟨by kernel_rfl, ?_⟩) (by assumption) ?_
        rotate_left 1
        focus (intro w hSw; (try dsimp only at hSw); go_simp; (try with_reducible rfl))
        try simp only [Act.put, List.setIfInBounds_toArray, List.set_cons_zero, List.set_cons_succ]
        refine wpAnyH_take (i := 22) (oi := { dst := some 131, op := Op.move (Operand.tmp 15), type := 3, pos := "ref.go:170", after := #[], guard := none }) (v := ?_) rfl (by kernel_rfl) (by kernel_rfl) (by kernel_rfl) (fun _ _ _ h => h) (Or.inl ⟨by kernel_rfl, ?_⟩) (by assumption) ?_
        rotate_left 1
        focus (intro w hSw; (try dsimp only at hSw); go_simp; (try with_reducible rfl))
        try simp only [Act.put, List.setIfInBounds_toArray, List.set_cons_zero, List.set_cons_succ]
        refine wpAnyH_take (i := 25) (oi := { dst := some 134, op := Op.fieldAddr 49 (Operand.tmp 11) 1, type := 0, pos := "ref.go:170", after := #[], guard := none }) (v := ?_) rfl (by kernel_rfl) (by kernel_rfl) (by kernel_rfl) (fun _ _ _ h => h) (Or.inl ⟨by kernel_rfl, ?_⟩) (by assumption) ?_
        rotate_left 1
        focus (intro w hSw; (try dsimp only at hSw); go_simp; (try with_reducible rfl))
        try simp only [Act.put, List.setIfInBounds_toArray, List.set_cons_zero, List.set_cons_succ]
        refine wpAnyH_take (i := 26) (oi := { dst := some 135, op := Op.load 3 (Operand.tmp 134), type := 3, pos := "ref.go:170", after := #[{ on := 25, ground := Ground.data }], guard := none }) (v := ?_) rfl (by kernel_rfl) (by kernel_rfl) (by kernel_rfl) (fun _ _ _ h => h) (Or.inl ⟨by kernel_rfl, ?_⟩) (by assumption) ?_
        rotate_left 1
        focus (intro w hSw; (try dsimp only at hSw); go_simp; (try with_reducible rfl))
        try simp only [Act.put, List.setIfInBounds_toArray, List.set_cons_zero, List.set_cons_succ]
        refine wpAnyH_take (i := 27) (oi := { dst := some 136, op := Op.binOp BinOp.mul 3 (Operand.const (Value.int IntKind.i64 2)) (Operand.tmp 135) 3, type := 3, pos := "ref.go:170", after := #[{ on := 26, ground := Ground.data }], guard := none }) (v := ?_) rfl (by kernel_rfl) (by kernel_rfl) (by kernel_rfl) (fun _ _ _ h => h) (Or.inl ⟨by kernel_rfl, ?_⟩) (by assumption) ?_
        rotate_left 1
        focus (intro w hSw; (try dsimp only at hSw); go_simp; (try with_reducible rfl))
        try simp only [Act.put, List.setIfInBounds_toArray, List.set_cons_zero, List.set_cons_succ]
        refine wpAnyH_take (i := 28) (oi := { dst := some 137, op := Op.fieldAddr 23 (Operand.tmp 2) 6, type := 0, pos := "ref.go:170", after := #[], guard := none }) (v := ?_) rfl (by kernel_rfl) (by kernel_rfl) (by kernel_rfl) (fun _ _ _ h => h) (Or.inl ⟨by kernel_rfl, ?_⟩) (by assumption) ?_
        rotate_left 1
        focus (intro w hSw; (try dsimp only at hSw); go_simp; (try with_reducible rfl))
        try simp only [Act.put, List.setIfInBounds_toArray, List.set_cons_zero, List.set_cons_succ]
        refine wpAnyH_take (i := 29) (oi := { dst := some 138, op := Op.load 3 (Operand.tmp 137), type := 3, pos := "ref.go:170", after := #[{ on := 28, ground := Ground.data }], guard := none }) (v := ?_) rfl (by kernel_rfl) (by kernel_rfl) (by kernel_rfl) (fun _ _ _ h => h) (Or.inl ⟨by kernel_rfl, ?_⟩) (by assumption) ?_
        rotate_left 1
        focus (intro w hSw; (try dsimp only at hSw); go_simp; (try with_reducible rfl))
        try simp only [Act.put, List.setIfInBounds_toArray, List.set_cons_zero, List.set_cons_succ]
        refine wpAnyH_take (i := 30) (oi := { dst := some 139, op := Op.binOp BinOp.sub 3 (Operand.tmp 136) (Operand.tmp 138) 3, type := 3, pos := "ref.go:170", after := #[{ on := 27, ground := Ground.data }, { on := 29, ground := Ground.data }], guard := none }) (v := ?_) rfl (by kernel_rfl) (by kernel_rfl) (by kernel_rfl) (fun _ _ _ h => h) (Or.inl ⟨by kernel_rfl, ?_⟩) (by assumption) ?_
        rotate_left 1
        focus (intro w hSw; (try dsimp only at hSw); go_simp; (try with_reducible rfl))
        try simp only [Act.put, List.setIfInBounds_toArray, List.set_cons_zero, List.set_cons_succ]
        refine wpAnyH_take (i := 31) (oi := { dst := some 140, op := Op.move (Operand.tmp 15), type := 3, pos := "ref.go:170", after := #[], guard := none }) (v := ?_) rfl (by kernel_rfl) (by kernel_rfl) (by kernel_rfl) (fun _ _ _ h => h) (Or.inl ⟨by kernel_rfl, ?_⟩) (by assumption) ?_
        rotate_left 1
        focus (intro w hSw; (try dsimp only at hSw); go_simp; (try with_reducible rfl))
        try simp only [Act.put, List.setIfInBounds_toArray, List.set_cons_zero, List.set_cons_succ]
        refine wpAnyH_ready (rs := [7, 35]) (by kernel_rfl) (by simp) (AllReadyH.cons (o := { dst := some 116, op := Op.call { callee := Callee.value (Operand.func 66), args := #[Operand.tmp 114, Operand.tmp 115], argTypes := #[3, 3] }, type := 3, pos := "ref.go:170", after := #[{ on := 5, ground := Ground.data }, { on := 6, ground := Ground.data }], guard := none }) rfl (fun K hK => ?_) (AllReadyH.cons (o := { dst := some 16, op := Op.alloc 51, type := 0, pos := "ref.go:170", after := #[], guard := none }) rfl (fun K hK => ?_) AllReadyH.nil))
        · (go_simp; (go_at_call 66; (refine (St.call hS0 (HF0.out _)).mono ?_); rintro e V1r20 ⟨rfl, hS1r20⟩))
          refine hK.out _ _ ?_ (fun hHeld => ?_)
          · exact HP.out _ (hS1r20)
          clear hK K
          try simp only [Act.put, List.setIfInBounds_toArray, List.set_cons_zero, List.set_cons_succ]
          refine wpAnyH_ready (rs := [15, 35]) (by kernel_rfl) (by simp) (AllReadyH.cons (o := { dst := some 124, op := Op.call { callee := Callee.value (Operand.func 66), args := #[Operand.tmp 122, Operand.tmp 123], argTypes := #[3, 3] }, type := 3, pos := "ref.go:170", after := #[{ on := 13, ground := Ground.data }, { on := 14, ground := Ground.data }, { on := 7, ground := Ground.chain }], guard := none }) rfl (fun K hK => ?_) (AllReadyH.cons (o := { dst := some 16, op := Op.alloc 51, type := 0, pos := "ref.go:170", after := #[], guard := none }) rfl (fun K hK => ?_) AllReadyH.nil))
          · (go_simp; (go_at_call 66; (refine (St.call hS1r20 (HF1.out _)).mono ?_); rintro e V2r20 ⟨rfl, hS2r20⟩))
            refine hK.out _ _ ?_ (fun hHeld => ?_)
            · exact HP.out _ (hS2r20)
            clear hK K
            try simp only [Act.put, List.setIfInBounds_toArray, List.set_cons_zero, List.set_cons_succ]
            refine wpAnyH_ready (rs := [23, 35]) (by kernel_rfl) (by simp) (AllReadyH.cons (o := { dst := some 132, op := Op.call { callee := Callee.value (Operand.func 67), args := #[Operand.tmp 130, Operand.tmp 131], argTypes := #[3, 3] }, type := 3, pos := "ref.go:170", after := #[{ on := 21, ground := Ground.data }, { on := 22, ground := Ground.data }, { on := 15, ground := Ground.chain }], guard := none }) rfl (fun K hK => ?_) (AllReadyH.cons (o := { dst := some 16, op := Op.alloc 51, type := 0, pos := "ref.go:170", after := #[], guard := none }) rfl (fun K hK => ?_) AllReadyH.nil))
            · (go_simp; (go_at_call 67; (refine (St.call hS2r20 (HF2.out _)).mono ?_); rintro e V3r20 ⟨rfl, hS3r20⟩))
              refine hK.out _ _ ?_ (fun hHeld => ?_)
              · exact HP.out _ (hS3r20)
              clear hK K
              try simp only [Act.put, List.setIfInBounds_toArray, List.set_cons_zero, List.set_cons_succ]
              refine wpAnyH_take (i := 24) (oi := { dst := some 133, op := Op.binOp BinOp.add 3 (Operand.tmp 132) (Operand.const (Value.int IntKind.i64 1)) 3, type := 3, pos := "ref.go:170", after := #[{ on := 23, ground := Ground.data }], guard := none }) (v := ?_) rfl (by kernel_rfl) (by kernel_rfl) (by kernel_rfl) (fun _ _ _ h => h) (Or.inl ⟨by kernel_rfl, ?_⟩) (by assumption) ?_
              rotate_left 1
              focus (intro w hSw; (try dsimp only at hSw); go_simp; (try with_reducible rfl))
              try simp only [Act.put, List.setIfInBounds_toArray, List.set_cons_zero, List.set_cons_succ]
              refine wpAnyH_ready (rs := [32, 35]) (by kernel_rfl) (by simp) (AllReadyH.cons (o := { dst := some 141, op := Op.call { callee := Callee.value (Operand.func 67), args := #[Operand.tmp 139, Operand.tmp 140], argTypes := #[3, 3] }, type := 3, pos := "ref.go:170", after := #[{ on := 30, ground := Ground.data }, { on := 31, ground := Ground.data }, { on := 23, ground := Ground.chain }], guard := none }) rfl (fun K hK => ?_) (AllReadyH.cons (o := { dst := some 16, op := Op.alloc 51, type := 0, pos := "ref.go:170", after := #[], guard := none }) rfl (fun K hK => ?_) AllReadyH.nil))
              · (go_simp; (go_at_call 67; (refine (St.call hS3r20 (HF3.out _)).mono ?_); rintro e V4r20 ⟨rfl, hS4r20⟩))
                refine hK.out _ _ ?_ (fun hHeld => ?_)
                · exact HP.out _ (hS4r20)
                clear hK K
                try simp only [Act.put, List.setIfInBounds_toArray, List.set_cons_zero, List.set_cons_succ]
                refine wpAnyH_take (i := 33) (oi := { dst := some 142, op := Op.binOp BinOp.add 3 (Operand.tmp 141) (Operand.const (Value.int IntKind.i64 1)) 3, type := 3, pos := "ref.go:170", after := #[{ on := 32, ground := Ground.data }], guard := none }) (v := ?_) rfl (by kernel_rfl) (by kernel_rfl) (by kernel_rfl) (fun _ _ _ h => h) (Or.inl ⟨by kernel_rfl, ?_⟩) (by assumption) ?_
                rotate_left 1
                focus (intro w hSw; (try dsimp only at hSw); go_simp; (try with_reducible rfl))
                try simp only [Act.put, List.setIfInBounds_toArray, List.set_cons_zero, List.set_cons_succ]
                refine wpAnyH_take (i := 34) (oi := { dst := some 143, op := Op.build 51 #[(0, Operand.tmp 116), (1, Operand.tmp 124), (2, Operand.tmp 133), (3, Operand.tmp 142)], type := 51, pos := "ref.go:170", after := #[{ on := 7, ground := Ground.data }, { on := 15, ground := Ground.data }, { on := 24, ground := Ground.data }, { on := 33, ground := Ground.data }], guard := none }) (v := ?_) rfl (by kernel_rfl) (by kernel_rfl) (by kernel_rfl) (fun _ _ _ h => h) (Or.inl ⟨by kernel_rfl, ?_⟩) (by assumption) ?_
                rotate_left 1
                focus (intro w hSw; (try dsimp only at hSw); go_simp; (try with_reducible rfl))
                try simp only [Act.put, List.setIfInBounds_toArray, List.set_cons_zero, List.set_cons_succ]
                refine wpAnyH_ready (rs := [35]) (by kernel_rfl) (by simp) (AllReadyH.cons (o := { dst := some 16, op := Op.alloc 51, type := 0, pos := "ref.go:170", after := #[], guard := none }) rfl (fun K hK => ?_) AllReadyH.nil)
                have hne35r20 := hS4r20.ne
                have hle35r20 := hS4r20.below.size
                have hlt35r20 := fun (b : Nat) (o : Obj) (hm : (b, o) ∈ _) => hS4r20.lt hm
                have hS5r20 := hS4r20.alloc (.cells #[.int .i64 0, .int .i64 0, .int .i64 0, .int .i64 0] 51)
                refine wp_alloc_of 51 rfl _ (zero_rect _) ?_
                refine hK.out _ _ ?_ (fun hHeld => ?_)
                · exact HP.out _ (hS5r20.tl)
                clear hK K
                try simp only [Act.put, List.setIfInBounds_toArray, List.set_cons_zero, List.set_cons_succ]
                refine wpAnyH_ready (rs := [36]) (by kernel_rfl) (by simp) (AllReadyH.cons (o := { dst := none, op := Op.store 51 (Operand.tmp 16) (Operand.tmp 143), type := 0, pos := "ref.go:170", after := #[{ on := 35, ground := Ground.data }, { on := 34, ground := Ground.data }, { on := 32, ground := Ground.chain }, { on := 0, ground := Ground.phase }, { on := 1, ground := Ground.phase }, { on := 2, ground := Ground.phase }, { on := 3, ground := Ground.phase }, { on := 4, ground := Ground.phase }, { on := 5, ground := Ground.phase }, { on := 6, ground := Ground.phase }, { on := 7, ground := Ground.phase }, { on := 8, ground := Ground.phase }, { on := 9, ground := Ground.phase }, { on := 10, ground := Ground.phase }, { on := 11, ground := Ground.phase }, { on := 12, ground := Ground.phase }, { on := 13, ground := Ground.phase }, { on := 14, ground := Ground.phase }, { on := 15, ground := Ground.phase }, { on := 16, ground := Ground.phase }, { on := 17, ground := Ground.phase }, { on := 18, ground := Ground.phase }, { on := 19, ground := Ground.phase }, { on := 20, ground := Ground.phase }, { on := 21, ground := Ground.phase }, { on := 22, ground := Ground.phase }, { on := 23, ground := Ground.phase }, { on := 24, ground := Ground.phase }, { on := 25, ground := Ground.phase }, { on := 26, ground := Ground.phase }, { on := 27, ground := Ground.phase }, { on := 28, ground := Ground.phase }, { on := 29, ground := Ground.phase }, { on := 30, ground := Ground.phase }, { on := 31, ground := Ground.phase }, { on := 32, ground := Ground.phase }, { on := 33, ground := Ground.phase }, { on := 34, ground := Ground.phase }, { on := 35, ground := Ground.phase }], guard := none }) rfl (fun K hK => ?_) AllReadyH.nil)
                have hS6r20 := hS5r20.rowset (ds := #[.int .i64 c0, .int .i64 c1, .int .i64 (c2 + 1), .int .i64 (c3 + 1)]) hle35r20 hne35r20
                refine wp_store_of 51 _ _ rfl (store_row 51 (cs := #[.int .i64 0, .int .i64 0, .int .i64 0, .int .i64 0]) (ds := #[.int .i64 c0, .int .i64 c1, .int .i64 (c2 + 1), .int .i64 (c3 + 1)]) (by kernel_rfl) rfl (by simp [Value.oneCell']) hS5r20.hd) ?_
                refine hK.out _ _ ?_ (fun hHeld => ?_)
                · exact HP.out _ (hS6r20.tl)
                clear hK K
                try simp only [Act.put]
                refine wpAnyH_done (by kernel_rfl) ?_ _
                have h9 := hS6r20
                go_wp2_with fail
                go_meet
                case rel => exact ⟨_, rfl, hne35r20 (b0 + 1 + 1, b5o 0 0 0 0 0) (by simp), h9.sub (by intro x hx; simp at hx ⊢; rcases hx with rfl | rfl <;> simp)⟩
              · have hne35r20 := hS3r20.ne
                have hle35r20 := hS3r20.below.size
                have hlt35r20 := fun (b : Nat) (o : Obj) (hm : (b, o) ∈ _) => hS3r20.lt hm
                have hS7r20 := hS3r20.alloc (.cells #[.int .i64 0, .int .i64 0, .int .i64 0, .int .i64 0] 51)
                refine wp_alloc_of 51 rfl _ (zero_rect _) ?_
                refine hK.out _ _ ?_ (fun hHeld => ?_)
                · exact HP.out _ (hS7r20.tl)
                clear hK K
                try simp only [Act.put, List.setIfInBounds_toArray, List.set_cons_zero, List.set_cons_succ]
                refine wpAnyH_ready (rs := [32]) (by kernel_rfl) (by simp) (AllReadyH.cons (o := { dst := some 141, op := Op.call { callee := Callee.value (Operand.func 67), args := #[Operand.tmp 139, Operand.tmp 140], argTypes := #[3, 3] }, type := 3, pos := "ref.go:170", after := #[{ on := 30, ground := Ground.data }, { on := 31, ground := Ground.data }, { on := 23, ground := Ground.chain }], guard := none }) rfl (fun K hK => ?_) AllReadyH.nil)
                (go_simp; (go_at_call 67; (refine (St.call hS7r20 (HF3.out _)).mono ?_); rintro e V8r20 ⟨rfl, hS8r20⟩))
                refine hK.out _ _ ?_ (fun hHeld => ?_)
                · exact HP.out _ (hS8r20.tl)
                clear hK K
                try simp only [Act.put, List.setIfInBounds_toArray, List.set_cons_zero, List.set_cons_succ]
                refine wpAnyH_take (i := 33) (oi := { dst := some 142, op := Op.binOp BinOp.add 3 (Operand.tmp 141) (Operand.const (Value.int IntKind.i64 1)) 3, type := 3, pos := "ref.go:170", after := #[{ on := 32, ground := Ground.data }], guard := none }) (v := ?_) rfl (by kernel_rfl) (by kernel_rfl) (by kernel_rfl) (fun _ _ _ h => h) (Or.inl ⟨by kernel_rfl, ?_⟩) (by assumption) ?_
                rotate_left 1
                focus (intro w hSw; (try dsimp only at hSw); go_simp; (try with_reducible rfl))
                try simp only [Act.put, List.setIfInBounds_toArray, List.set_cons_zero, List.set_cons_succ]
                refine wpAnyH_take (i := 34) (oi := { dst := some 143, op := Op.build 51 #[(0, Operand.tmp 116), (1, Operand.tmp 124), (2, Operand.tmp 133), (3, Operand.tmp 142)], type := 51, pos := "ref.go:170", after := #[{ on := 7, ground := Ground.data }, { on := 15, ground := Ground.data }, { on := 24, ground := Ground.data }, { on := 33, ground := Ground.data }], guard := none }) (v := ?_) rfl (by kernel_rfl) (by kernel_rfl) (by kernel_rfl) (fun _ _ _ h => h) (Or.inl ⟨by kernel_rfl, ?_⟩) (by assumption) ?_
                rotate_left 1
                focus (intro w hSw; (try dsimp only at hSw); go_simp; (try with_reducible rfl))
                try simp only [Act.put, List.setIfInBounds_toArray, List.set_cons_zero, List.set_cons_succ]
                refine wpAnyH_ready (rs := [36]) (by kernel_rfl) (by simp) (AllReadyH.cons (o := { dst := none, op := Op.store 51 (Operand.tmp 16) (Operand.tmp 143), type := 0, pos := "ref.go:170", after := #[{ on := 35, ground := Ground.data }, { on := 34, ground := Ground.data }, { on := 32, ground := Ground.chain }, { on := 0, ground := Ground.phase }, { on := 1, ground := Ground.phase }, { on := 2, ground := Ground.phase }, { on := 3, ground := Ground.phase }, { on := 4, ground := Ground.phase }, { on := 5, ground := Ground.phase }, { on := 6, ground := Ground.phase }, { on := 7, ground := Ground.phase }, { on := 8, ground := Ground.phase }, { on := 9, ground := Ground.phase }, { on := 10, ground := Ground.phase }, { on := 11, ground := Ground.phase }, { on := 12, ground := Ground.phase }, { on := 13, ground := Ground.phase }, { on := 14, ground := Ground.phase }, { on := 15, ground := Ground.phase }, { on := 16, ground := Ground.phase }, { on := 17, ground := Ground.phase }, { on := 18, ground := Ground.phase }, { on := 19, ground := Ground.phase }, { on := 20, ground := Ground.phase }, { on := 21, ground := Ground.phase }, { on := 22, ground := Ground.phase }, { on := 23, ground := Ground.phase }, { on := 24, ground := Ground.phase }, { on := 25, ground := Ground.phase }, { on := 26, ground := Ground.phase }, { on := 27, ground := Ground.phase }, { on := 28, ground := Ground.phase }, { on := 29, ground := Ground.phase }, { on := 30, ground := Ground.phase }, { on := 31, ground := Ground.phase }, { on := 32, ground := Ground.phase }, { on := 33, ground := Ground.phase }, { on := 34, ground := Ground.phase }, { on := 35, ground := Ground.phase }], guard := none }) rfl (fun K hK => ?_) AllReadyH.nil)
                have hS9r20 := hS8r20.rowset (ds := #[.int .i64 c0, .int .i64 c1, .int .i64 (c2 + 1), .int .i64 (c3 + 1)]) hle35r20 hne35r20
                refine wp_store_of 51 _ _ rfl (store_row 51 (cs := #[.int .i64 0, .int .i64 0, .int .i64 0, .int .i64 0]) (ds := #[.int .i64 c0, .int .i64 c1, .int .i64 (c2 + 1), .int .i64 (c3 + 1)]) (by kernel_rfl) rfl (by simp [Value.oneCell']) hS8r20.hd) ?_
                refine hK.out _ _ ?_ (fun hHeld => ?_)
                · exact HP.out _ (hS9r20.tl)
                clear hK K
                try simp only [Act.put]
                refine wpAnyH_done (by kernel_rfl) ?_ _
                have h9 := hS9r20
                go_wp2_with fail
                go_meet
                case rel => exact ⟨_, rfl, hne35r20 (b0 + 1 + 1, b5o 0 0 0 0 0) (by simp), h9.sub (by intro x hx; simp at hx ⊢; rcases hx with rfl | rfl <;> simp)⟩
            · have hne35r20 := hS2r20.ne
              have hle35r20 := hS2r20.below.size
              have hlt35r20 := fun (b : Nat) (o : Obj) (hm : (b, o) ∈ _) => hS2r20.lt hm
              have hS10r20 := hS2r20.alloc (.cells #[.int .i64 0, .int .i64 0, .int .i64 0, .int .i64 0] 51)
              refine wp_alloc_of 51 rfl _ (zero_rect _) ?_
              refine hK.out _ _ ?_ (fun hHeld => ?_)
              · exact HP.out _ (hS10r20.tl)
              clear hK K
              try simp only [Act.put, List.setIfInBounds_toArray, List.set_cons_zero, List.set_cons_succ]
              refine wpAnyH_ready (rs := [23]) (by kernel_rfl) (by simp) (AllReadyH.cons (o := { dst := some 132, op := Op.call { callee := Callee.value (Operand.func 67), args := #[Operand.tmp 130, Operand.tmp 131], argTypes := #[3, 3] }, type := 3, pos := "ref.go:170", after := #[{ on := 21, ground := Ground.data }, { on := 22, ground := Ground.data }, { on := 15, ground := Ground.chain }], guard := none }) rfl (fun K hK => ?_) AllReadyH.nil)
              (go_simp; (go_at_call 67; (refine (St.call hS10r20 (HF2.out _)).mono ?_); rintro e V11r20 ⟨rfl, hS11r20⟩))
              refine hK.out _ _ ?_ (fun hHeld => ?_)
              · exact HP.out _ (hS11r20.tl)
              clear hK K
              try simp only [Act.put, List.setIfInBounds_toArray, List.set_cons_zero, List.set_cons_succ]
              refine wpAnyH_take (i := 24) (oi := { dst := some 133, op := Op.binOp BinOp.add 3 (Operand.tmp 132) (Operand.const (Value.int IntKind.i64 1)) 3, type := 3, pos := "ref.go:170", after := #[{ on := 23, ground := Ground.data }], guard := none }) (v := ?_) rfl (by kernel_rfl) (by kernel_rfl) (by kernel_rfl) (fun _ _ _ h => h) (Or.inl ⟨by kernel_rfl, ?_⟩) (by assumption) ?_
              rotate_left 1
              focus (intro w hSw; (try dsimp only at hSw); go_simp; (try with_reducible rfl))
              try simp only [Act.put, List.setIfInBounds_toArray, List.set_cons_zero, List.set_cons_succ]
              refine wpAnyH_ready (rs := [32]) (by kernel_rfl) (by simp) (AllReadyH.cons (o := { dst := some 141, op := Op.call { callee := Callee.value (Operand.func 67), args := #[Operand.tmp 139, Operand.tmp 140], argTypes := #[3, 3] }, type := 3, pos := "ref.go:170", after := #[{ on := 30, ground := Ground.data }, { on := 31, ground := Ground.data }, { on := 23, ground := Ground.chain }], guard := none }) rfl (fun K hK => ?_) AllReadyH.nil)
              (go_simp; (go_at_call 67; (refine (St.call hS11r20 (HF3.out _)).mono ?_); rintro e V12r20 ⟨rfl, hS12r20⟩))
              refine hK.out _ _ ?_ (fun hHeld => ?_)
              · exact HP.out _ (hS12r20.tl)
              clear hK K
              try simp only [Act.put, List.setIfInBounds_toArray, List.set_cons_zero, List.set_cons_succ]
              refine wpAnyH_take (i := 33) (oi := { dst := some 142, op := Op.binOp BinOp.add 3 (Operand.tmp 141) (Operand.const (Value.int IntKind.i64 1)) 3, type := 3, pos := "ref.go:170", after := #[{ on := 32, ground := Ground.data }], guard := none }) (v := ?_) rfl (by kernel_rfl) (by kernel_rfl) (by kernel_rfl) (fun _ _ _ h => h) (Or.inl ⟨by kernel_rfl, ?_⟩) (by assumption) ?_
              rotate_left 1
              focus (intro w hSw; (try dsimp only at hSw); go_simp; (try with_reducible rfl))
              try simp only [Act.put, List.setIfInBounds_toArray, List.set_cons_zero, List.set_cons_succ]
              refine wpAnyH_take (i := 34) (oi := { dst := some 143, op := Op.build 51 #[(0, Operand.tmp 116), (1, Operand.tmp 124), (2, Operand.tmp 133), (3, Operand.tmp 142)], type := 51, pos := "ref.go:170", after := #[{ on := 7, ground := Ground.data }, { on := 15, ground := Ground.data }, { on := 24, ground := Ground.data }, { on := 33, ground := Ground.data }], guard := none }) (v := ?_) rfl (by kernel_rfl) (by kernel_rfl) (by kernel_rfl) (fun _ _ _ h => h) (Or.inl ⟨by kernel_rfl, ?_⟩) (by assumption) ?_
              rotate_left 1
              focus (intro w hSw; (try dsimp only at hSw); go_simp; (try with_reducible rfl))
              try simp only [Act.put, List.setIfInBounds_toArray, List.set_cons_zero, List.set_cons_succ]
              refine wpAnyH_ready (rs := [36]) (by kernel_rfl) (by simp) (AllReadyH.cons (o := { dst := none, op := Op.store 51 (Operand.tmp 16) (Operand.tmp 143), type := 0, pos := "ref.go:170", after := #[{ on := 35, ground := Ground.data }, { on := 34, ground := Ground.data }, { on := 32, ground := Ground.chain }, { on := 0, ground := Ground.phase }, { on := 1, ground := Ground.phase }, { on := 2, ground := Ground.phase }, { on := 3, ground := Ground.phase }, { on := 4, ground := Ground.phase }, { on := 5, ground := Ground.phase }, { on := 6, ground := Ground.phase }, { on := 7, ground := Ground.phase }, { on := 8, ground := Ground.phase }, { on := 9, ground := Ground.phase }, { on := 10, ground := Ground.phase }, { on := 11, ground := Ground.phase }, { on := 12, ground := Ground.phase }, { on := 13, ground := Ground.phase }, { on := 14, ground := Ground.phase }, { on := 15, ground := Ground.phase }, { on := 16, ground := Ground.phase }, { on := 17, ground := Ground.phase }, { on := 18, ground := Ground.phase }, { on := 19, ground := Ground.phase }, { on := 20, ground := Ground.phase }, { on := 21, ground := Ground.phase }, { on := 22, ground := Ground.phase }, { on := 23, ground := Ground.phase }, { on := 24, ground := Ground.phase }, { on := 25, ground := Ground.phase }, { on := 26, ground := Ground.phase }, { on := 27, ground := Ground.phase }, { on := 28, ground := Ground.phase }, { on := 29, ground := Ground.phase }, { on := 30, ground := Ground.phase }, { on := 31, ground := Ground.phase }, { on := 32, ground := Ground.phase }, { on := 33, ground := Ground.phase }, { on := 34, ground := Ground.phase }, { on := 35, ground := Ground.phase }], guard := none }) rfl (fun K hK => ?_) AllReadyH.nil)
              have hS13r20 := hS12r20.rowset (ds := #[.int .i64 c0, .int .i64 c1, .int .i64 (c2 + 1), .int .i64 (c3 + 1)]) hle35r20 hne35r20
              refine wp_store_of 51 _ _ rfl (store_row 51 (cs := #[.int .i64 0, .int .i64 0, .int .i64 0, .int .i64 0]) (ds := #[.int .i64 c0, .int .i64 c1, .int .i64 (c2 + 1), .int .i64 (c3 + 1)]) (by kernel_rfl) rfl (by simp [Value.oneCell']) hS12r20.hd) ?_
              refine hK.out _ _ ?_ (fun hHeld => ?_)
              · exact HP.out _ (hS13r20.tl)
              clear hK K
              try simp only [Act.put]
              refine wpAnyH_done (by kernel_rfl) ?_ _
              have h9 := hS13r20
              go_wp2_with fail
              go_meet
              case rel => exact ⟨_, rfl, hne35r20 (b0 + 1 + 1, b5o 0 0 0 0 0) (by simp), h9.sub (by intro x hx; simp at hx ⊢; rcases hx with rfl | rfl <;> simp)⟩
          · have hne35r20 := hS1r20.ne
            have hle35r20 := hS1r20.below.size
            have hlt35r20 := fun (b : Nat) (o : Obj) (hm : (b, o) ∈ _) => hS1r20.lt hm
            have hS14r20 := hS1r20.alloc (.cells #[.int .i64 0, .int .i64 0, .int .i64 0, .int .i64 0] 51)
            refine wp_alloc_of 51 rfl _ (zero_rect _) ?_
            refine hK.out _ _ ?_ (fun hHeld => ?_)
            · exact HP.out _ (hS14r20.tl)
            clear hK K
            try simp only [Act.put, List.setIfInBounds_toArray, List.set_cons_zero, List.set_cons_succ]
            refine wpAnyH_ready (rs := [15]) (by kernel_rfl) (by simp) (AllReadyH.cons (o := { dst := some 124, op := Op.call { callee := Callee.value (Operand.func 66), args := #[Operand.tmp 122, Operand.tmp 123], argTypes := #[3, 3] }, type := 3, pos := "ref.go:170", after := #[{ on := 13, ground := Ground.data }, { on := 14, ground := Ground.data }, { on := 7, ground := Ground.chain }], guard := none }) rfl (fun K hK => ?_) AllReadyH.nil)
            (go_simp; (go_at_call 66; (refine (St.call hS14r20 (HF1.out _)).mono ?_); rintro e V15r20 ⟨rfl, hS15r20⟩))
            refine hK.out _ _ ?_ (fun hHeld => ?_)
            · exact HP.out _ (hS15r20.tl)
            clear hK K
            try simp only [Act.put, List.setIfInBounds_toArray, List.set_cons_zero, List.set_cons_succ]
            refine wpAnyH_ready (rs := [23]) (by kernel_rfl) (by simp) (AllReadyH.cons (o := { dst := some 132, op := Op.call { callee := Callee.value (Operand.func 67), args := #[Operand.tmp 130, Operand.tmp 131], argTypes := #[3, 3] }, type := 3, pos := "ref.go:170", after := #[{ on := 21, ground := Ground.data }, { on := 22, ground := Ground.data }, { on := 15, ground := Ground.chain }], guard := none }) rfl (fun K hK => ?_) AllReadyH.nil)
            (go_simp; (go_at_call 67; (refine (St.call hS15r20 (HF2.out _)).mono ?_); rintro e V16r20 ⟨rfl, hS16r20⟩))
            refine hK.out _ _ ?_ (fun hHeld => ?_)
            · exact HP.out _ (hS16r20.tl)
            clear hK K
            try simp only [Act.put, List.setIfInBounds_toArray, List.set_cons_zero, List.set_cons_succ]
            refine wpAnyH_take (i := 24) (oi := { dst := some 133, op := Op.binOp BinOp.add 3 (Operand.tmp 132) (Operand.const (Value.int IntKind.i64 1)) 3, type := 3, pos := "ref.go:170", after := #[{ on := 23, ground := Ground.data }], guard := none }) (v := ?_) rfl (by kernel_rfl) (by kernel_rfl) (by kernel_rfl) (fun _ _ _ h => h) (Or.inl ⟨by kernel_rfl, ?_⟩) (by assumption) ?_
            rotate_left 1
            focus (intro w hSw; (try dsimp only at hSw); go_simp; (try with_reducible rfl))
            try simp only [Act.put, List.setIfInBounds_toArray, List.set_cons_zero, List.set_cons_succ]
            refine wpAnyH_ready (rs := [32]) (by kernel_rfl) (by simp) (AllReadyH.cons (o := { dst := some 141, op := Op.call { callee := Callee.value (Operand.func 67), args := #[Operand.tmp 139, Operand.tmp 140], argTypes := #[3, 3] }, type := 3, pos := "ref.go:170", after := #[{ on := 30, ground := Ground.data }, { on := 31, ground := Ground.data }, { on := 23, ground := Ground.chain }], guard := none }) rfl (fun K hK => ?_) AllReadyH.nil)
            (go_simp; (go_at_call 67; (refine (St.call hS16r20 (HF3.out _)).mono ?_); rintro e V17r20 ⟨rfl, hS17r20⟩))
            refine hK.out _ _ ?_ (fun hHeld => ?_)
            · exact HP.out _ (hS17r20.tl)
            clear hK K
            try simp only [Act.put, List.setIfInBounds_toArray, List.set_cons_zero, List.set_cons_succ]
            refine wpAnyH_take (i := 33) (oi := { dst := some 142, op := Op.binOp BinOp.add 3 (Operand.tmp 141) (Operand.const (Value.int IntKind.i64 1)) 3, type := 3, pos := "ref.go:170", after := #[{ on := 32, ground := Ground.data }], guard := none }) (v := ?_) rfl (by kernel_rfl) (by kernel_rfl) (by kernel_rfl) (fun _ _ _ h => h) (Or.inl ⟨by kernel_rfl, ?_⟩) (by assumption) ?_
            rotate_left 1
            focus (intro w hSw; (try dsimp only at hSw); go_simp; (try with_reducible rfl))
            try simp only [Act.put, List.setIfInBounds_toArray, List.set_cons_zero, List.set_cons_succ]
            refine wpAnyH_take (i := 34) (oi := { dst := some 143, op := Op.build 51 #[(0, Operand.tmp 116), (1, Operand.tmp 124), (2, Operand.tmp 133), (3, Operand.tmp 142)], type := 51, pos := "ref.go:170", after := #[{ on := 7, ground := Ground.data }, { on := 15, ground := Ground.data }, { on := 24, ground := Ground.data }, { on := 33, ground := Ground.data }], guard := none }) (v := ?_) rfl (by kernel_rfl) (by kernel_rfl) (by kernel_rfl) (fun _ _ _ h => h) (Or.inl ⟨by kernel_rfl, ?_⟩) (by assumption) ?_
            rotate_left 1
            focus (intro w hSw; (try dsimp only at hSw); go_simp; (try with_reducible rfl))
            try simp only [Act.put, List.setIfInBounds_toArray, List.set_cons_zero, List.set_cons_succ]
            refine wpAnyH_ready (rs := [36]) (by kernel_rfl) (by simp) (AllReadyH.cons (o := { dst := none, op := Op.store 51 (Operand.tmp 16) (Operand.tmp 143), type := 0, pos := "ref.go:170", after := #[{ on := 35, ground := Ground.data }, { on := 34, ground := Ground.data }, { on := 32, ground := Ground.chain }, { on := 0, ground := Ground.phase }, { on := 1, ground := Ground.phase }, { on := 2, ground := Ground.phase }, { on := 3, ground := Ground.phase }, { on := 4, ground := Ground.phase }, { on := 5, ground := Ground.phase }, { on := 6, ground := Ground.phase }, { on := 7, ground := Ground.phase }, { on := 8, ground := Ground.phase }, { on := 9, ground := Ground.phase }, { on := 10, ground := Ground.phase }, { on := 11, ground := Ground.phase }, { on := 12, ground := Ground.phase }, { on := 13, ground := Ground.phase }, { on := 14, ground := Ground.phase }, { on := 15, ground := Ground.phase }, { on := 16, ground := Ground.phase }, { on := 17, ground := Ground.phase }, { on := 18, ground := Ground.phase }, { on := 19, ground := Ground.phase }, { on := 20, ground := Ground.phase }, { on := 21, ground := Ground.phase }, { on := 22, ground := Ground.phase }, { on := 23, ground := Ground.phase }, { on := 24, ground := Ground.phase }, { on := 25, ground := Ground.phase }, { on := 26, ground := Ground.phase }, { on := 27, ground := Ground.phase }, { on := 28, ground := Ground.phase }, { on := 29, ground := Ground.phase }, { on := 30, ground := Ground.phase }, { on := 31, ground := Ground.phase }, { on := 32, ground := Ground.phase }, { on := 33, ground := Ground.phase }, { on := 34, ground := Ground.phase }, { on := 35, ground := Ground.phase }], guard := none }) rfl (fun K hK => ?_) AllReadyH.nil)
            have hS18r20 := hS17r20.rowset (ds := #[.int .i64 c0, .int .i64 c1, .int .i64 (c2 + 1), .int .i64 (c3 + 1)]) hle35r20 hne35r20
            refine wp_store_of 51 _ _ rfl (store_row 51 (cs := #[.int .i64 0, .int .i64 0, .int .i64 0, .int .i64 0]) (ds := #[.int .i64 c0, .int .i64 c1, .int .i64 (c2 + 1), .int .i64 (c3 + 1)]) (by kernel_rfl) rfl (by simp [Value.oneCell']) hS17r20.hd) ?_
            refine hK.out _ _ ?_ (fun hHeld => ?_)
            · exact HP.out _ (hS18r20.tl)
            clear hK K
            try simp only [Act.put]
            refine wpAnyH_done (by kernel_rfl) ?_ _
            have h9 := hS18r20
            go_wp2_with fail
            go_meet
            case rel => exact ⟨_, rfl, hne35r20 (b0 + 1 + 1, b5o 0 0 0 0 0) (by simp), h9.sub (by intro x hx; simp at hx ⊢; rcases hx with rfl | rfl <;> simp)⟩
        · have hne35r20 := hS0.ne
          have hle35r20 := hS0.below.size
          have hlt35r20 := fun (b : Nat) (o : Obj) (hm : (b, o) ∈ _) => hS0.lt hm
          have hS19r20 := hS0.alloc (.cells #[.int .i64 0, .int .i64 0, .int .i64 0, .int .i64 0] 51)
          refine wp_alloc_of 51 rfl _ (zero_rect _) ?_
          refine hK.out _ _ ?_ (fun hHeld => ?_)
          · exact HP.out _ (hS19r20.tl)
          clear hK K
          try simp only [Act.put, List.setIfInBounds_toArray, List.set_cons_zero, List.set_cons_succ]
          refine wpAnyH_ready (rs := [7]) (by kernel_rfl) (by simp) (AllReadyH.cons (o := { dst := some 116, op := Op.call { callee := Callee.value (Operand.func 66), args := #[Operand.tmp 114, Operand.tmp 115], argTypes := #[3, 3] }, type := 3, pos := "ref.go:170", after := #[{ on := 5, ground := Ground.data }, { on := 6, ground := Ground.data }], guard := none }) rfl (fun K hK => ?_) AllReadyH.nil)
          (go_simp; (go_at_call 66; (refine (St.call hS19r20 (HF0.out _)).mono ?_); rintro e V20r20 ⟨rfl, hS20r20⟩))
          refine hK.out _ _ ?_ (fun hHeld => ?_)
          · exact HP.out _ (hS20r20.tl)
          clear hK K
          try simp only [Act.put, List.setIfInBounds_toArray, List.set_cons_zero, List.set_cons_succ]
          refine wpAnyH_ready (rs := [15]) (by kernel_rfl) (by simp) (AllReadyH.cons (o := { dst := some 124, op := Op.call { callee := Callee.value (Operand.func 66), args := #[Operand.tmp 122, Operand.tmp 123], argTypes := #[3, 3] }, type := 3, pos := "ref.go:170", after := #[{ on := 13, ground := Ground.data }, { on := 14, ground := Ground.data }, { on := 7, ground := Ground.chain }], guard := none }) rfl (fun K hK => ?_) AllReadyH.nil)
          (go_simp; (go_at_call 66; (refine (St.call hS20r20 (HF1.out _)).mono ?_); rintro e V21r20 ⟨rfl, hS21r20⟩))
          refine hK.out _ _ ?_ (fun hHeld => ?_)
          · exact HP.out _ (hS21r20.tl)
          clear hK K
          try simp only [Act.put, List.setIfInBounds_toArray, List.set_cons_zero, List.set_cons_succ]
          refine wpAnyH_ready (rs := [23]) (by kernel_rfl) (by simp) (AllReadyH.cons (o := { dst := some 132, op := Op.call { callee := Callee.value (Operand.func 67), args := #[Operand.tmp 130, Operand.tmp 131], argTypes := #[3, 3] }, type := 3, pos := "ref.go:170", after := #[{ on := 21, ground := Ground.data }, { on := 22, ground := Ground.data }, { on := 15, ground := Ground.chain }], guard := none }) rfl (fun K hK => ?_) AllReadyH.nil)
          (go_simp; (go_at_call 67; (refine (St.call hS21r20 (HF2.out _)).mono ?_); rintro e V22r20 ⟨rfl, hS22r20⟩))
          refine hK.out _ _ ?_ (fun hHeld => ?_)
          · exact HP.out _ (hS22r20.tl)
          clear hK K
          try simp only [Act.put, List.setIfInBounds_toArray, List.set_cons_zero, List.set_cons_succ]
          refine wpAnyH_take (i := 24) (oi := { dst := some 133, op := Op.binOp BinOp.add 3 (Operand.tmp 132) (Operand.const (Value.int IntKind.i64 1)) 3, type := 3, pos := "ref.go:170", after := #[{ on := 23, ground := Ground.data }], guard := none }) (v := ?_) rfl (by kernel_rfl) (by kernel_rfl) (by kernel_rfl) (fun _ _ _ h => h) (Or.inl ⟨by kernel_rfl, ?_⟩) (by assumption) ?_
          rotate_left 1
          focus (intro w hSw; (try dsimp only at hSw); go_simp; (try with_reducible rfl))
          try simp only [Act.put, List.setIfInBounds_toArray, List.set_cons_zero, List.set_cons_succ]
          refine wpAnyH_ready (rs := [32]) (by kernel_rfl) (by simp) (AllReadyH.cons (o := { dst := some 141, op := Op.call { callee := Callee.value (Operand.func 67), args := #[Operand.tmp 139, Operand.tmp 140], argTypes := #[3, 3] }, type := 3, pos := "ref.go:170", after := #[{ on := 30, ground := Ground.data }, { on := 31, ground := Ground.data }, { on := 23, ground := Ground.chain }], guard := none }) rfl (fun K hK => ?_) AllReadyH.nil)
          (go_simp; (go_at_call 67; (refine (St.call hS22r20 (HF3.out _)).mono ?_); rintro e V23r20 ⟨rfl, hS23r20⟩))
          refine hK.out _ _ ?_ (fun hHeld => ?_)
          · exact HP.out _ (hS23r20.tl)
          clear hK K
          try simp only [Act.put, List.setIfInBounds_toArray, List.set_cons_zero, List.set_cons_succ]
          refine wpAnyH_take (i := 33) (oi := { dst := some 142, op := Op.binOp BinOp.add 3 (Operand.tmp 141) (Operand.const (Value.int IntKind.i64 1)) 3, type := 3, pos := "ref.go:170", after := #[{ on := 32, ground := Ground.data }], guard := none }) (v := ?_) rfl (by kernel_rfl) (by kernel_rfl) (by kernel_rfl) (fun _ _ _ h => h) (Or.inl ⟨by kernel_rfl, ?_⟩) (by assumption) ?_
          rotate_left 1
          focus (intro w hSw; (try dsimp only at hSw); go_simp; (try with_reducible rfl))
          try simp only [Act.put, List.setIfInBounds_toArray, List.set_cons_zero, List.set_cons_succ]
          refine wpAnyH_take (i := 34) (oi := { dst := some 143, op := Op.build 51 #[(0, Operand.tmp 116), (1, Operand.tmp 124), (2, Operand.tmp 133), (3, Operand.tmp 142)], type := 51, pos := "ref.go:170", after := #[{ on := 7, ground := Ground.data }, { on := 15, ground := Ground.data }, { on := 24, ground := Ground.data }, { on := 33, ground := Ground.data }], guard := none }) (v := ?_) rfl (by kernel_rfl) (by kernel_rfl) (by kernel_rfl) (fun _ _ _ h => h) (Or.inl ⟨by kernel_rfl, ?_⟩) (by assumption) ?_
          rotate_left 1
          focus (intro w hSw; (try dsimp only at hSw); go_simp; (try with_reducible rfl))
          try simp only [Act.put, List.setIfInBounds_toArray, List.set_cons_zero, List.set_cons_succ]
          refine wpAnyH_ready (rs := [36]) (by kernel_rfl) (by simp) (AllReadyH.cons (o := { dst := none, op := Op.store 51 (Operand.tmp 16) (Operand.tmp 143), type := 0, pos := "ref.go:170", after := #[{ on := 35, ground := Ground.data }, { on := 34, ground := Ground.data }, { on := 32, ground := Ground.chain }, { on := 0, ground := Ground.phase }, { on := 1, ground := Ground.phase }, { on := 2, ground := Ground.phase }, { on := 3, ground := Ground.phase }, { on := 4, ground := Ground.phase }, { on := 5, ground := Ground.phase }, { on := 6, ground := Ground.phase }, { on := 7, ground := Ground.phase }, { on := 8, ground := Ground.phase }, { on := 9, ground := Ground.phase }, { on := 10, ground := Ground.phase }, { on := 11, ground := Ground.phase }, { on := 12, ground := Ground.phase }, { on := 13, ground := Ground.phase }, { on := 14, ground := Ground.phase }, { on := 15, ground := Ground.phase }, { on := 16, ground := Ground.phase }, { on := 17, ground := Ground.phase }, { on := 18, ground := Ground.phase }, { on := 19, ground := Ground.phase }, { on := 20, ground := Ground.phase }, { on := 21, ground := Ground.phase }, { on := 22, ground := Ground.phase }, { on := 23, ground := Ground.phase }, { on := 24, ground := Ground.phase }, { on := 25, ground := Ground.phase }, { on := 26, ground := Ground.phase }, { on := 27, ground := Ground.phase }, { on := 28, ground := Ground.phase }, { on := 29, ground := Ground.phase }, { on := 30, ground := Ground.phase }, { on := 31, ground := Ground.phase }, { on := 32, ground := Ground.phase }, { on := 33, ground := Ground.phase }, { on := 34, ground := Ground.phase }, { on := 35, ground := Ground.phase }], guard := none }) rfl (fun K hK => ?_) AllReadyH.nil)
          have hS24r20 := hS23r20.rowset (ds := #[.int .i64 c0, .int .i64 c1, .int .i64 (c2 + 1), .int .i64 (c3 + 1)]) hle35r20 hne35r20
          refine wp_store_of 51 _ _ rfl (store_row 51 (cs := #[.int .i64 0, .int .i64 0, .int .i64 0, .int .i64 0]) (ds := #[.int .i64 c0, .int .i64 c1, .int .i64 (c2 + 1), .int .i64 (c3 + 1)]) (by kernel_rfl) rfl (by simp [Value.oneCell']) hS23r20.hd) ?_
          refine hK.out _ _ ?_ (fun hHeld => ?_)
          · exact HP.out _ (hS24r20.tl)
          clear hK K
          try simp only [Act.put]
          refine wpAnyH_done (by kernel_rfl) ?_ _
          have h9 := hS24r20
          go_wp2_with fail
          go_meet
          case rel => exact ⟨_, rfl, hne35r20 (b0 + 1 + 1, b5o 0 0 0 0 0) (by simp), h9.sub (by intro x hx; simp at hx ⊢; rcases hx with rfl | rfl <;> simp)⟩
      case rest =>
        obtain ⟨b7, rfl, hn8, HQ⟩ := hcut
        have h9 := HQ.out
        clear HQ
        obtain ⟨_, _, _, _⟩ := St.rect h9 (b := b7) (x0 := c0) (x1 := c1) (x2 := (c2 + 1)) (x3 := (c3 + 1)) (by simp)
        go_wp2_with (first | (go_at_call 68; (with_reducible refine (St.call h9 (HI.out _)).mono ?_); rintro en w10 ⟨rfl, h10⟩; obtain ⟨_, _, _, _, _⟩ := St.b5 h10 (b := b0 + 1 + 1) (x0 := 0) (x1 := 0) (x2 := 0) (x3 := 0) (x4 := 0) (t := 66) (by simp); have : ∀ j, _ = false := h10.frozen (b := b0 + 1 + 1) (cs := #[.int .i64 0, .int .i64 0, .int .i64 0, .int .i64 0, .int .i64 0]) (t := 66) (by simp)))
        subst hb0; exact bodyPost_ret (v := .agg #[.int .i64 t0, .int .i64 t1, .int .i64 t2, .int .i64 t3, .int .i64 0]) (by simp [results, Try.results35, go_sem, *]) rfl ⟨rfl, below_set5 h10.below (by omega) _ _ _ _ _⟩
end Go.Proofs.Ytgipfcpkphmbpaa.F
