/-
  Bounds of affine.
-/
import Derived.Test.YtgipfcpkphmbpaaANeed
import Derived.Deep.DeepCutAuto
namespace Go.Proofs.Ytgipfcpkphmbpaa.F
open Go.RowKit
set_option maxRecDepth 100000

def ux (a : Af) (x y : Int) : Int := a.a * x + a.b * y + a.c
def uy (a : Af) (x y : Int) : Int := a.d * x + a.e * y + a.f
def bl0 (a : Af) (r0 r1 r2 r3 : Int) : Int := mn (mn (mn (ux a r0 r1) (ux a r2 r1)) (ux a r0 r3)) (ux a r2 r3)
def bl1 (a : Af) (r0 r1 r2 r3 : Int) : Int := mn (mn (mn (uy a r0 r1) (uy a r2 r1)) (uy a r0 r3)) (uy a r2 r3)
def bl2 (a : Af) (r0 r1 r2 r3 : Int) : Int := mx (mx (mx (ux a r0 r1) (ux a r2 r1)) (ux a r0 r3)) (ux a r2 r3)
def bl3 (a : Af) (r0 r1 r2 r3 : Int) : Int := mx (mx (mx (uy a r0 r1) (uy a r2 r1)) (uy a r0 r3)) (uy a r2 r3)
def bndR (a : Af) (r0 r1 r2 r3 : Int) : Rc := nrm (mx (fCe (bl0 a r0 r1 r2 r3) a.n) (-65536)) (mx (fCe (bl1 a r0 r1 r2 r3) a.n) (-65536)) (mn (lCe (bl2 a r0 r1 r2 r3) a.n + 1) 65536) (mn (lCe (bl3 a r0 r1 r2 r3) a.n + 1) 65536)
def boundsT (a : Af) (r0 r1 r2 r3 : Int) : Box := if chkE a r0 r1 r2 r3 = 0 then (if emp r0 r1 r2 r3 = true then ⟨0, 0, 0, 0, 0⟩ else ⟨(bndR a r0 r1 r2 r3).x0, (bndR a r0 r1 r2 r3).y0, (bndR a r0 r1 r2 r3).x1, (bndR a r0 r1 r2 r3).y1, 0⟩) else ⟨0, 0, 0, 0, 1⟩
theorem uxy_bd {a : Af} {x y : Int} (h : Bd a) (hx : Cb x) (hy : Cb y) : (-2000000000 ≤ ux a x y ∧ ux a x y ≤ 2000000000) ∧ (-2000000000 ≤ uy a x y ∧ uy a x y ≤ 2000000000) := by
  obtain ⟨_, ha, hb, hd, he, hc, hf⟩ := h
  unfold Cb at hx hy
  have m1 := mul_le_of ha hx; have m2 := mul_le_of hb hy; have m3 := mul_le_of hd hx; have m4 := mul_le_of he hy
  unfold ux uy
  omega
theorem lCe_bd {n den : Int} (hd : 1 ≤ den ∧ den ≤ 4096) (hn : -10000000000 ≤ n ∧ n ≤ 10000000000) : wrap64 (lCe n den + 1) = lCe n den + 1 := by
  have := (flo_fl (n := 2 * n - den) (d := 2 * den) (by omega) ⟨by omega, by omega⟩).2
  unfold lCe; exact w64 ⟨by omega, by omega⟩
theorem zero_rect (w : World) : (zeroValue 51).run Try.prog w = .ok (rv 0 0 0 0) w := by kernel_rfl
set_option maxHeartbeats 8000000 in
theorem boundsT_any (p0 p1 p2 p3 p4 p5 p6 r0 r1 r2 r3 : Int) (w : World) : Calls Try.prog 32 #[av p0 p1 p2 p3 p4 p5 p6, rv r0 r1 r2 r3] w fun en w' => en = .returned (boundsT ⟨p0, p1, p2, p3, p4, p5, p6⟩ r0 r1 r2 r3).v ∧ Below w.heap.size w w' := by
  have HC : Hid (∀ W, Calls Try.prog 53 #[av p0 p1 p2 p3 p4 p5 p6, rv r0 r1 r2 r3] W fun en w' => en = .returned ((.int .i64 (chkE ⟨p0, p1, p2, p3, p4, p5, p6⟩ r0 r1 r2 r3))) ∧ Below W.heap.size W w') := fun W => check_any p0 p1 p2 p3 p4 p5 p6 r0 r1 r2 r3 W
  have HE : Hid (∀ W, Calls Try.prog 54 #[rv r0 r1 r2 r3] W fun en w' => en = .returned ((.bool (emp r0 r1 r2 r3))) ∧ Below W.heap.size W w') := fun W => empty_any r0 r1 r2 r3 W
  have hce := chkE_01 ⟨p0, p1, p2, p3, p4, p5, p6⟩ r0 r1 r2 r3
  have HO : Hid (chkE ⟨p0, p1, p2, p3, p4, p5, p6⟩ r0 r1 r2 r3 = 0 → emp r0 r1 r2 r3 = false → Ok ⟨p0, p1, p2, p3, p4, p5, p6⟩ ∧ (-65536 ≤ r0 ∧ r0 < r2 ∧ r2 ≤ 65536) ∧ (-65536 ≤ r1 ∧ r1 < r3 ∧ r3 ≤ 65536)) := chkE_ok
  unfold boundsT
  generalize chkE ⟨p0, p1, p2, p3, p4, p5, p6⟩ r0 r1 r2 r3 = ce at HC HO hce ⊢
  generalize emp r0 r1 r2 r3 = s2 at HE HO ⊢
  obtain rfl | rfl := hce.symm
  · go_enter Try.func32, Try.ntmps32
    go_upto_region 1 with fail
    have hs := (((St.start w).alloc (ao p0 p1 p2 p3 p4 p5 p6)).alloc (ro r0 r1 r2 r3)).alloc (ro 0 0 0 0)
    simp only [World.size_alloc] at hs
    generalize hb0 : w.heap.size = b0 at hs ⊢
    generalize ((w.alloc (ao p0 p1 p2 p3 p4 p5 p6)).alloc (ro r0 r1 r2 r3)).alloc (ro 0 0 0 0) = w1 at hs ⊢
    obtain ⟨_, _, _, _, _, _, _⟩ := St.aff hs (b := b0) (a := p0) (b' := p1) (c := p2) (d := p3) (e := p4) (f := p5) (n := p6) (by simp)
    obtain ⟨_, _, _, _⟩ := St.rect hs (b := b0 + 1) (x0 := r0) (x1 := r1) (x2 := r2) (x3 := r3) (by simp)
    go_wp2_with (first | (go_at_call 53; (with_reducible refine (St.call hs (HC.out _)).mono ?_); rintro en w2 ⟨rfl, h2⟩; obtain ⟨_, _, _, _⟩ := St.rect h2 (b := b0 + 1 + 1) (x0 := 0) (x1 := 0) (x2 := 0) (x3 := 0) (by simp); have : ∀ j, _ = false := h2.frozen (b := b0 + 1 + 1) (cs := #[.int .i64 0, .int .i64 0, .int .i64 0, .int .i64 0]) (t := 51) (by simp)))
    subst hb0; exact bodyPost_ret (v := .tuple #[rv 0 0 0 0, .int .i64 1]) (by simp [results, Try.results32, go_sem, *]) rfl ⟨rfl, below_set4 h2.below (by omega) _ _ _ _⟩
  cases s2
  case true =>
    go_enter Try.func32, Try.ntmps32
    go_upto_region 1 with fail
    have hs := (((St.start w).alloc (ao p0 p1 p2 p3 p4 p5 p6)).alloc (ro r0 r1 r2 r3)).alloc (ro 0 0 0 0)
    simp only [World.size_alloc] at hs
    generalize hb0 : w.heap.size = b0 at hs ⊢
    generalize ((w.alloc (ao p0 p1 p2 p3 p4 p5 p6)).alloc (ro r0 r1 r2 r3)).alloc (ro 0 0 0 0) = w1 at hs ⊢
    obtain ⟨_, _, _, _, _, _, _⟩ := St.aff hs (b := b0) (a := p0) (b' := p1) (c := p2) (d := p3) (e := p4) (f := p5) (n := p6) (by simp)
    obtain ⟨_, _, _, _⟩ := St.rect hs (b := b0 + 1) (x0 := r0) (x1 := r1) (x2 := r2) (x3 := r3) (by simp)
    go_wp2_with (first | (go_at_call 53; (with_reducible refine (St.call hs (HC.out _)).mono ?_); rintro en w2 ⟨rfl, h2⟩; obtain ⟨_, _, _, _⟩ := St.rect h2 (b := b0 + 1) (x0 := r0) (x1 := r1) (x2 := r2) (x3 := r3) (by simp)) | (go_at_call 54; (with_reducible refine (St.call h2 (HE.out _)).mono ?_); rintro en w3 ⟨rfl, h3⟩; obtain ⟨_, _, _, _⟩ := St.rect h3 (b := b0 + 1 + 1) (x0 := 0) (x1 := 0) (x2 := 0) (x3 := 0) (by simp); have : ∀ j, _ = false := h3.frozen (b := b0 + 1 + 1) (cs := #[.int .i64 0, .int .i64 0, .int .i64 0, .int .i64 0]) (t := 51) (by simp)))
    subst hb0; exact bodyPost_ret (v := .tuple #[rv 0 0 0 0, .int .i64 0]) (by simp [results, Try.results32, go_sem, *]) rfl ⟨rfl, below_set4 h3.below (by omega) _ _ _ _⟩
  obtain ⟨hok, hx, hy⟩ := HO.out rfl rfl
  clear HO hce
  have k0 : Cb r0 := by unfold Cb; omega
  have k1 : Cb r1 := by unfold Cb; omega
  have k2 : Cb r2 := by unfold Cb; omega
  have k3 : Cb r3 := by unfold Cb; omega
  have s0 := uxy_bd hok.1 k0 k1
  have s1 := uxy_bd hok.1 k2 k1
  have s2 := uxy_bd hok.1 k0 k3
  have s3 := uxy_bd hok.1 k2 k3
  have hn : 1 ≤ p6 ∧ p6 ≤ 4096 := hok.1.1
  have w0 : -10000000000 ≤ bl0 ⟨p0, p1, p2, p3, p4, p5, p6⟩ r0 r1 r2 r3 ∧ bl0 ⟨p0, p1, p2, p3, p4, p5, p6⟩ r0 r1 r2 r3 ≤ 10000000000 := by unfold bl0; simp only [mn_eq]; omega
  have w1 : -10000000000 ≤ bl1 ⟨p0, p1, p2, p3, p4, p5, p6⟩ r0 r1 r2 r3 ∧ bl1 ⟨p0, p1, p2, p3, p4, p5, p6⟩ r0 r1 r2 r3 ≤ 10000000000 := by unfold bl1; simp only [mn_eq]; omega
  have w2 : -10000000000 ≤ bl2 ⟨p0, p1, p2, p3, p4, p5, p6⟩ r0 r1 r2 r3 ∧ bl2 ⟨p0, p1, p2, p3, p4, p5, p6⟩ r0 r1 r2 r3 ≤ 10000000000 := by unfold bl2; simp only [mx_eq]; omega
  have w3 : -10000000000 ≤ bl3 ⟨p0, p1, p2, p3, p4, p5, p6⟩ r0 r1 r2 r3 ∧ bl3 ⟨p0, p1, p2, p3, p4, p5, p6⟩ r0 r1 r2 r3 ≤ 10000000000 := by unfold bl3; simp only [mx_eq]; omega
  have HX : Hid (∀ (ba : Nat) (V : World), ba < V.heap.size → AB V ba p0 p1 p2 p3 p4 p5 p6 → Calls Try.prog 55 #[.agg #[.int .i64 r0, .int .i64 r1, .int .i64 r2, .int .i64 r1, .int .i64 r0, .int .i64 r3, .int .i64 r2, .int .i64 r3], .func (.func 58) #[] #[.pointer (some ⟨ba, 0, none⟩)]] V fun en w' => en = .returned (.tuple #[tv (bl0 ⟨p0, p1, p2, p3, p4, p5, p6⟩ r0 r1 r2 r3) (bl1 ⟨p0, p1, p2, p3, p4, p5, p6⟩ r0 r1 r2 r3), tv (bl2 ⟨p0, p1, p2, p3, p4, p5, p6⟩ r0 r1 r2 r3) (bl3 ⟨p0, p1, p2, p3, p4, p5, p6⟩ r0 r1 r2 r3)]) ∧ Below V.heap.size V w') := fun ba V hlt hA => by
    have hB : ∀ W, Below V.heap.size V W → ba < W.heap.size ∧ AB W ba p0 p1 p2 p3 p4 p5 p6 := fun W hW => by
      obtain ⟨a0, a1, a2, a3, a4, a5, a6⟩ := hA
      exact ⟨Nat.lt_of_lt_of_le hlt hW.size, by rw [← a0]; exact hW.cell (p := ⟨ba, 0, none⟩) hlt, by rw [← a1]; exact hW.cell (p := ⟨ba, 1, none⟩) hlt, by rw [← a2]; exact hW.cell (p := ⟨ba, 2, none⟩) hlt, by rw [← a3]; exact hW.cell (p := ⟨ba, 3, none⟩) hlt, by rw [← a4]; exact hW.cell (p := ⟨ba, 4, none⟩) hlt, by rw [← a5]; exact hW.cell (p := ⟨ba, 5, none⟩) hlt, by rw [← a6]; exact hW.cell (p := ⟨ba, 6, none⟩) hlt⟩
    have hU : ∀ x y, Cb x → Cb y → ∀ W, Below V.heap.size V W → Calls Try.prog 58 #[tv x y, .pointer (some ⟨ba, 0, none⟩)] W fun en w' => en = .returned (tv (ux ⟨p0, p1, p2, p3, p4, p5, p6⟩ x y) (uy ⟨p0, p1, p2, p3, p4, p5, p6⟩ x y)) ∧ Below W.heap.size W w' := fun x y hx hy W hW => by
      have h1 := bounds1_any p0 p1 p2 p3 p4 p5 p6 x y ba W (hB W hW).1 (hB W hW).2
      have h2 := uxy_bd hok.1 hx hy
      rw [show wrap64 (p0 * x + p1 * y + p2) = ux ⟨p0, p1, p2, p3, p4, p5, p6⟩ x y from w64 (x := ux ⟨p0, p1, p2, p3, p4, p5, p6⟩ x y) ⟨by omega, by omega⟩, show wrap64 (p3 * x + p4 * y + p5) = uy ⟨p0, p1, p2, p3, p4, p5, p6⟩ x y from w64 (x := uy ⟨p0, p1, p2, p3, p4, p5, p6⟩ x y) ⟨by omega, by omega⟩] at h1
      exact h1
    exact extBounds_any _ _ _ _ _ _ _ _ _ _ _ _ _ _ _ _ ba V (hU _ _ k0 k1) (hU _ _ k2 k1) (hU _ _ k0 k3) (hU _ _ k2 k3)
  have HF0 : Hid (∀ W, Calls Try.prog 59 #[.int .i64 (bl0 ⟨p0, p1, p2, p3, p4, p5, p6⟩ r0 r1 r2 r3), .int .i64 p6] W fun en w' => en = .returned (.int .i64 (fCe (bl0 ⟨p0, p1, p2, p3, p4, p5, p6⟩ r0 r1 r2 r3) p6)) ∧ Below W.heap.size W w') := fun W => (firstC_any _ _ W hn w0).mono fun _ _ ⟨u, v⟩ => ⟨u, v ▸ Below.refl _ _⟩
  have HF1 : Hid (∀ W, Calls Try.prog 59 #[.int .i64 (bl1 ⟨p0, p1, p2, p3, p4, p5, p6⟩ r0 r1 r2 r3), .int .i64 p6] W fun en w' => en = .returned (.int .i64 (fCe (bl1 ⟨p0, p1, p2, p3, p4, p5, p6⟩ r0 r1 r2 r3) p6)) ∧ Below W.heap.size W w') := fun W => (firstC_any _ _ W hn w1).mono fun _ _ ⟨u, v⟩ => ⟨u, v ▸ Below.refl _ _⟩
  have HF2 : Hid (∀ W, Calls Try.prog 60 #[.int .i64 (bl2 ⟨p0, p1, p2, p3, p4, p5, p6⟩ r0 r1 r2 r3), .int .i64 p6] W fun en w' => en = .returned (.int .i64 (lCe (bl2 ⟨p0, p1, p2, p3, p4, p5, p6⟩ r0 r1 r2 r3) p6)) ∧ Below W.heap.size W w') := fun W => (lastC_any _ _ W hn w2).mono fun _ _ ⟨u, v⟩ => ⟨u, v ▸ Below.refl _ _⟩
  have HF3 : Hid (∀ W, Calls Try.prog 60 #[.int .i64 (bl3 ⟨p0, p1, p2, p3, p4, p5, p6⟩ r0 r1 r2 r3), .int .i64 p6] W fun en w' => en = .returned (.int .i64 (lCe (bl3 ⟨p0, p1, p2, p3, p4, p5, p6⟩ r0 r1 r2 r3) p6)) ∧ Below W.heap.size W w') := fun W => (lastC_any _ _ W hn w3).mono fun _ _ ⟨u, v⟩ => ⟨u, v ▸ Below.refl _ _⟩
  have f2 := lCe_bd hn w2
  have f3 := lCe_bd hn w3
  have hR : bndR ⟨p0, p1, p2, p3, p4, p5, p6⟩ r0 r1 r2 r3 = nrm (mx (fCe (bl0 ⟨p0, p1, p2, p3, p4, p5, p6⟩ r0 r1 r2 r3) p6) (-65536)) (mx (fCe (bl1 ⟨p0, p1, p2, p3, p4, p5, p6⟩ r0 r1 r2 r3) p6) (-65536)) (mn (lCe (bl2 ⟨p0, p1, p2, p3, p4, p5, p6⟩ r0 r1 r2 r3) p6 + 1) 65536) (mn (lCe (bl3 ⟨p0, p1, p2, p3, p4, p5, p6⟩ r0 r1 r2 r3) p6 + 1) 65536) := rfl
  have HI : Hid (∀ W, Calls Try.prog 61 #[rv (fCe (bl0 ⟨p0, p1, p2, p3, p4, p5, p6⟩ r0 r1 r2 r3) p6) (fCe (bl1 ⟨p0, p1, p2, p3, p4, p5, p6⟩ r0 r1 r2 r3) p6) (lCe (bl2 ⟨p0, p1, p2, p3, p4, p5, p6⟩ r0 r1 r2 r3) p6 + 1) (lCe (bl3 ⟨p0, p1, p2, p3, p4, p5, p6⟩ r0 r1 r2 r3) p6 + 1), rv (-65536) (-65536) 65536 65536] W fun en w' => en = .returned (bndR ⟨p0, p1, p2, p3, p4, p5, p6⟩ r0 r1 r2 r3).v ∧ Below W.heap.size W w') := fun W => by
    rw [hR]; exact inter_any _ _ _ _ _ _ _ _ W
  clear s0 s1 s2 s3 k0 k1 k2 k3 hok hx hy w0 w1 w2 w3 hn hR
  generalize bndR ⟨p0, p1, p2, p3, p4, p5, p6⟩ r0 r1 r2 r3 = rr at HI ⊢
  obtain ⟨t0, t1, t2, t3⟩ := rr
  generalize fCe (bl0 ⟨p0, p1, p2, p3, p4, p5, p6⟩ r0 r1 r2 r3) p6 = c0 at HF0 HI
  generalize fCe (bl1 ⟨p0, p1, p2, p3, p4, p5, p6⟩ r0 r1 r2 r3) p6 = c1 at HF1 HI
  generalize lCe (bl2 ⟨p0, p1, p2, p3, p4, p5, p6⟩ r0 r1 r2 r3) p6 = c2 at HF2 HI f2
  generalize lCe (bl3 ⟨p0, p1, p2, p3, p4, p5, p6⟩ r0 r1 r2 r3) p6 = c3 at HF3 HI f3
  generalize bl0 ⟨p0, p1, p2, p3, p4, p5, p6⟩ r0 r1 r2 r3 = d0 at HX HF0
  generalize bl1 ⟨p0, p1, p2, p3, p4, p5, p6⟩ r0 r1 r2 r3 = d1 at HX HF1
  generalize bl2 ⟨p0, p1, p2, p3, p4, p5, p6⟩ r0 r1 r2 r3 = d2 at HX HF2
  generalize bl3 ⟨p0, p1, p2, p3, p4, p5, p6⟩ r0 r1 r2 r3 = d3 at HX HF3
  have g2 : IntKind.i64.wrap (c2 + 1) = c2 + 1 := by rw [wrapI]; exact f2
  have g3 : IntKind.i64.wrap (c3 + 1) = c3 + 1 := by rw [wrapI]; exact f3
  go_enter Try.func32, Try.ntmps32
  go_upto_region 1 with fail
  have hs := (((St.start w).alloc (ao p0 p1 p2 p3 p4 p5 p6)).alloc (ro r0 r1 r2 r3)).alloc (ro 0 0 0 0)
  simp only [World.size_alloc] at hs
  generalize hb0 : w.heap.size = b0 at hs ⊢
  generalize ((w.alloc (ao p0 p1 p2 p3 p4 p5 p6)).alloc (ro r0 r1 r2 r3)).alloc (ro 0 0 0 0) = w1 at hs ⊢
  obtain ⟨_, _, _, _, _, _, _⟩ := St.aff hs (b := b0) (a := p0) (b' := p1) (c := p2) (d := p3) (e := p4) (f := p5) (n := p6) (by simp)
  obtain ⟨_, _, _, _⟩ := St.rect hs (b := b0 + 1) (x0 := r0) (x1 := r1) (x2 := r2) (x3 := r3) (by simp)
  go_upto_region 4 with (first | (go_at_call 53; (with_reducible refine (St.call hs (HC.out _)).mono ?_); rintro en w2 ⟨rfl, h2⟩; obtain ⟨_, _, _, _⟩ := St.rect h2 (b := b0 + 1) (x0 := r0) (x1 := r1) (x2 := r2) (x3 := r3) (by simp)) | (go_at_call 54; (with_reducible refine (St.call h2 (HE.out _)).mono ?_); rintro en w3 ⟨rfl, h3⟩; obtain ⟨_, _, _, _⟩ := St.rect h3 (b := b0 + 1) (x0 := r0) (x1 := r1) (x2 := r2) (x3 := r3) (by simp)))
  go_upto_region 5 with (first | (go_at_call 56; (with_reducible refine (St.call h3 (corners_any _ _ _ _ _)).mono ?_); rintro en w5 ⟨rfl, h5⟩) | (go_at_call 55; (with_reducible refine (St.call h5 (HX.out _ _ ?_ ?_)).mono ?_); (focus exact h5.lt (b := b0) (o := ao p0 p1 p2 p3 p4 p5 p6) (by simp)); (focus exact St.aff h5 (by simp)); rintro en w6 ⟨rfl, h6⟩))
  have h8 := (h6.alloc (pob d0 d1)).alloc (pob d2 d3)
  rw [World.size_alloc] at h8
  generalize w6.heap.size = b6 at h8 ⊢
  generalize (w6.alloc (pob d0 d1)).alloc (pob d2 d3) = w8 at h8 ⊢
  have HP : Hid (∀ V9, St w [(b6 + 1, pob d2 d3), (b6, pob d0 d1), (b0 + 1 + 1, ro 0 0 0 0), (b0 + 1, ro r0 r1 r2 r3), (b0, ao p0 p1 p2 p3 p4 p5 p6)] V9 → St w [(b6 + 1, pob d2 d3), (b6, pob d0 d1), (b0 + 1 + 1, ro 0 0 0 0), (b0 + 1, ro r0 r1 r2 r3), (b0, ao p0 p1 p2 p3 p4 p5 p6)] V9 ∧ AB V9 b0 p0 p1 p2 p3 p4 p5 p6 ∧ TB V9 b6 d0 d1 ∧ TB V9 (b6 + 1) d2 d3) := fun V hV => ⟨hV, St.aff hV (by simp), St.pt hV (by simp), St.pt hV (by simp)⟩
  go_cut [9] (fun v9 wx => ∃ b9, v9 = .pointer (some ⟨b9, 0, none⟩) ∧ b9 ≠ b0 + 1 + 1 ∧ Hid (St w [(b0 + 1 + 1, ro 0 0 0 0), (b9, ro c0 c1 (c2 + 1) (c3 + 1))] wx))
  case first =>
    refine wp_region_held_drew (S := fun V9 => St w [(b6 + 1, pob d2 d3), (b6, pob d0 d1), (b0 + 1 + 1, ro 0 0 0 0), (b0 + 1, ro r0 r1 r2 r3), (b0, ao p0 p1 p2 p3 p4 p5 p6)] V9 ∧ AB V9 b0 p0 p1 p2 p3 p4 p5 p6 ∧ TB V9 b6 d0 d1 ∧ TB V9 (b6 + 1) d2 d3) (by kernel_rfl) ?_ (fun hHeld => ?_)
    · exact HP.out _ (h8.drew)
    have h80 := h8.drew
    refine wpAnyH_take (i := 0) (oi := { dst := some 28, op := Op.fieldAddr 49 (Operand.tmp 7) 0, type := 0, pos := "sample.go:58", after := #[], guard := none }) (v := ?_) rfl (by kernel_rfl) (by kernel_rfl) (by kernel_rfl) (fun _ _ _ h => h) (Or.inl ⟨by kernel_rfl, ?_⟩) (by assumption) ?_
    rotate_left 1
    focus (intro w hSw; (try dsimp only at hSw); go_simp; (try with_reducible rfl))
    try simp only [Act.put, List.setIfInBounds_toArray, List.set_cons_zero, List.set_cons_succ]
    refine wpAnyH_take (i := 1) (oi := { dst := some 29, op := Op.load 3 (Operand.tmp 28), type := 3, pos := "sample.go:58", after := #[{ on := 0, ground := Ground.data }], guard := none }) (v := ?_) rfl (by kernel_rfl) (by kernel_rfl) (by kernel_rfl) (fun _ _ _ h => h) (Or.inl ⟨by kernel_rfl, ?_⟩) (by assumption) ?_
    rotate_left 1
    focus (intro w hSw; (try dsimp only at hSw); go_simp; (try with_reducible rfl))
    try simp only [Act.put, List.setIfInBounds_toArray, List.set_cons_zero, List.set_cons_succ]
    refine wpAnyH_take (i := 2) (oi := { dst := some 30, op := Op.fieldAddr 23 (Operand.tmp 2) 6, type := 0, pos := "sample.go:58", after := #[], guard := none }) (v := ?_) rfl (by kernel_rfl) (by kernel_rfl) (by kernel_rfl) (fun _ _ _ h => h) (Or.inl ⟨by kernel_rfl, ?_⟩) (by assumption) ?_
    rotate_left 1
    focus (intro w hSw; (try dsimp only at hSw); go_simp; (try with_reducible rfl))
    try simp only [Act.put, List.setIfInBounds_toArray, List.set_cons_zero, List.set_cons_succ]
    refine wpAnyH_take (i := 3) (oi := { dst := some 31, op := Op.load 3 (Operand.tmp 30), type := 3, pos := "sample.go:58", after := #[{ on := 2, ground := Ground.data }], guard := none }) (v := ?_) rfl (by kernel_rfl) (by kernel_rfl) (by kernel_rfl) (fun _ _ _ h => h) (Or.inl ⟨by kernel_rfl, ?_⟩) (by assumption) ?_
    rotate_left 1
    focus (intro w hSw; (try dsimp only at hSw); go_simp; (try with_reducible rfl))
    try simp only [Act.put, List.setIfInBounds_toArray, List.set_cons_zero, List.set_cons_succ]
    refine wpAnyH_take (i := 5) (oi := { dst := some 33, op := Op.fieldAddr 49 (Operand.tmp 7) 1, type := 0, pos := "sample.go:58", after := #[], guard := none }) (v := ?_) rfl (by kernel_rfl) (by kernel_rfl) (by kernel_rfl) (fun _ _ _ h => h) (Or.inl ⟨by kernel_rfl, ?_⟩) (by assumption) ?_
    rotate_left 1
    focus (intro w hSw; (try dsimp only at hSw); go_simp; (try with_reducible rfl))
    try simp only [Act.put, List.setIfInBounds_toArray, List.set_cons_zero, List.set_cons_succ]
    refine wpAnyH_take (i := 6) (oi := { dst := some 34, op := Op.load 3 (Operand.tmp 33), type := 3, pos := "sample.go:58", after := #[{ on := 5, ground := Ground.data }], guard := none }) (v := ?_) rfl (by kernel_rfl) (by kernel_rfl) (by kernel_rfl) (fun _ _ _ h => h) (Or.inl ⟨by kernel_rfl, ?_⟩) (by assumption) ?_
    rotate_left 1
    focus (intro w hSw; (try dsimp only at hSw); go_simp; (try with_reducible rfl))
    try simp only [Act.put, List.setIfInBounds_toArray, List.set_cons_zero, List.set_cons_succ]
    refine wpAnyH_take (i := 7) (oi := { dst := some 35, op := Op.fieldAddr 23 (Operand.tmp 2) 6, type := 0, pos := "sample.go:58", after := #[], guard := none }) (v := ?_) rfl (by kernel_rfl) (by kernel_rfl) (by kernel_rfl) (fun _ _ _ h => h) (Or.inl ⟨by kernel_rfl, ?_⟩) (by assumption) ?_
    rotate_left 1
    focus (intro w hSw; (try dsimp only at hSw); go_simp; (try with_reducible rfl))
    try simp only [Act.put, List.setIfInBounds_toArray, List.set_cons_zero, List.set_cons_succ]
    refine wpAnyH_take (i := 8) (oi := { dst := some 36, op := Op.load 3 (Operand.tmp 35), type := 3, pos := "sample.go:58", after := #[{ on := 7, ground := Ground.data }], guard := none }) (v := ?_) rfl (by kernel_rfl) (by kernel_rfl) (by kernel_rfl) (fun _ _ _ h => h) (Or.inl ⟨by kernel_rfl, ?_⟩) (by assumption) ?_
    rotate_left 1
    focus (intro w hSw; (try dsimp only at hSw); go_simp; (try with_reducible rfl))
    try simp only [Act.put, List.setIfInBounds_toArray, List.set_cons_zero, List.set_cons_succ]
    refine wpAnyH_take (i := 10) (oi := { dst := some 38, op := Op.fieldAddr 49 (Operand.tmp 8) 0, type := 0, pos := "sample.go:58", after := #[], guard := none }) (v := ?_) rfl (by kernel_rfl) (by kernel_rfl) (by kernel_rfl) (fun _ _ _ h => h) (Or.inl ⟨by kernel_rfl, ?_⟩) (by assumption) ?_
    rotate_left 1
    focus (intro w hSw; (try dsimp only at hSw); go_simp; (try with_reducible rfl))
    try simp only [Act.put, List.setIfInBounds_toArray, List.set_cons_zero, List.set_cons_succ]
    refine wpAnyH_take (i := 11) (oi := { dst := some 39, op := Op.load 3 (Operand.tmp 38), type := 3, pos := "sample.go:58", after := #[{ on := 10, ground := Ground.data }], guard := none }) (v := ?_) rfl (by kernel_rfl) (by kernel_rfl) (by kernel_rfl) (fun _ _ _ h => h) (Or.inl ⟨by kernel_rfl, ?_⟩) (by assumption) ?_
    rotate_left 1
    focus (intro w hSw; (try dsimp only at hSw); go_simp; (try with_reducible rfl))
    try simp only [Act.put, List.setIfInBounds_toArray, List.set_cons_zero, List.set_cons_succ]
    refine wpAnyH_take (i := 12) (oi := { dst := some 40, op := Op.fieldAddr 23 (Operand.tmp 2) 6, type := 0, pos := "sample.go:58", after := #[], guard := none }) (v := ?_) rfl (by kernel_rfl) (by kernel_rfl) (by kernel_rfl) (fun _ _ _ h => h) (Or.inl ⟨by kernel_rfl, ?_⟩) (by assumption) ?_
    rotate_left 1
    focus (intro w hSw; (try dsimp only at hSw); go_simp; (try with_reducible rfl))
    try simp only [Act.put, List.setIfInBounds_toArray, List.set_cons_zero, List.set_cons_succ]
    refine wpAnyH_take (i := 13) (oi := { dst := some 41, op := Op.load 3 (Operand.tmp 40), type := 3, pos := "sample.go:58", after := #[{ on := 12, ground := Ground.data }], guard := none }) (v := ?_) rfl (by kernel_rfl) (by kernel_rfl) (by kernel_rfl) (fun _ _ _ h => h) (Or.inl ⟨by kernel_rfl, ?_⟩) (by assumption) ?_
    rotate_left 1
    focus (intro w hSw; (try dsimp only at hSw); go_simp; (try with_reducible rfl))
    try simp only [Act.put, List.setIfInBounds_toArray, List.set_cons_zero, List.set_cons_succ]
    refine wpAnyH_take (i := 16) (oi := { dst := some 44, op := Op.fieldAddr 49 (Operand.tmp 8) 1, type := 0, pos := "sample.go:58", after := #[], guard := none }) (v := ?_) rfl (by kernel_rfl) (by kernel_rfl) (by kernel_rfl) (fun _ _ _ h => h) (Or.inl ⟨by kernel_rfl, ?_⟩) (by assumption) ?_
    rotate_left 1
    focus (intro w hSw; (try dsimp only at hSw); go_simp; (try with_reducible rfl))
    try simp only [Act.put, List.setIfInBounds_toArray, List.set_cons_zero, List.set_cons_succ]
    refine wpAnyH_take (i := 17) (oi := { dst := some 45, op := Op.load 3 (Operand.tmp 44), type := 3, pos := "sample.go:58", after := #[{ on := 16, ground := Ground.data }], guard := none }) (v := ?_) rfl (by kernel_rfl) (by kernel_rfl) (by kernel_rfl) (fun _ _ _ h => h) (Or.inl ⟨by kernel_rfl, ?_⟩) (by assumption) ?_
    rotate_left 1
    focus (intro w hSw; (try dsimp only at hSw); go_simp; (try with_reducible rfl))
    try simp only [Act.put, List.setIfInBounds_toArray, List.set_cons_zero, List.set_cons_succ]
    refine wpAnyH_take (i := 18) (oi := { dst := some 46, op := Op.fieldAddr 23 (Operand.tmp 2) 6, type := 0, pos := "sample.go:58", after := #[], guard := none }) (v := ?_) rfl (by kernel_rfl) (by kernel_rfl) (by kernel_rfl) (fun _ _ _ h => h) (Or.inl ⟨by kernel_rfl, ?_⟩) (by assumption) ?_
    rotate_left 1
    focus (intro w hSw; (try dsimp only at hSw); go_simp; (try with_reducible rfl))
    try simp only [Act.put, List.setIfInBounds_toArray, List.set_cons_zero, List.set_cons_succ]
    refine wpAnyH_take (i := 19) (oi := { dst := some 47, op := Op.load 3 (Operand.tmp 46), type := 3, pos := "sample.go:58", after := #[{ on := 18, ground := Ground.data }], guard := none }) (v := ?_) rfl (by kernel_rfl) (by kernel_rfl) (by kernel_rfl) (fun _ _ _ h => h) (Or.inl ⟨by kernel_rfl, ?_⟩) (by assumption) ?_
    rotate_left 1
    focus (intro w hSw; (try dsimp only at hSw); go_simp; (try with_reducible rfl))
    try simp only [Act.put, List.setIfInBounds_toArray, List.set_cons_zero, List.set_cons_succ]
    refine wpAnyH_ready (rs := [4, 23]) (by kernel_rfl) (by simp) (AllReadyH.cons (o := { dst := some 32, op := Op.call { callee := Callee.value (Operand.func 59), args := #[Operand.tmp 29, Operand.tmp 31], argTypes := #[3, 3] }, type := 3, pos := "sample.go:59", after := #[{ on := 1, ground := Ground.data }, { on := 3, ground := Ground.data }], guard := none }) rfl (fun K hK => ?_) (AllReadyH.cons (o := { dst := some 9, op := Op.alloc 51, type := 0, pos := "sample.go:58", after := #[], guard := none }) rfl (fun K hK => ?_) AllReadyH.nil))
    · (go_simp; (go_at_call 59; (refine (St.call h80 (HF0.out _)).mono ?_); rintro e V1r5 ⟨rfl, h81r5⟩))
      refine hK.out _ _ ?_ (fun hHeld => ?_)
      · exact HP.out _ (h81r5)
      clear hK K
      try simp only [Act.put, List.setIfInBounds_toArray, List.set_cons_zero, List.set_cons_succ]
      refine wpAnyH_ready (rs := [9, 23]) (by kernel_rfl) (by simp) (AllReadyH.cons (o := { dst := some 37, op := Op.call { callee := Callee.value (Operand.func 59), args := #[Operand.tmp 34, Operand.tmp 36], argTypes := #[3, 3] }, type := 3, pos := "sample.go:60", after := #[{ on := 6, ground := Ground.data }, { on := 8, ground := Ground.data }, { on := 4, ground := Ground.chain }], guard := none }) rfl (fun K hK => ?_) (AllReadyH.cons (o := { dst := some 9, op := Op.alloc 51, type := 0, pos := "sample.go:58", after := #[], guard := none }) rfl (fun K hK => ?_) AllReadyH.nil))
      · (go_simp; (go_at_call 59; (refine (St.call h81r5 (HF1.out _)).mono ?_); rintro e V2r5 ⟨rfl, h82r5⟩))
        refine hK.out _ _ ?_ (fun hHeld => ?_)
        · exact HP.out _ (h82r5)
        clear hK K
        try simp only [Act.put, List.setIfInBounds_toArray, List.set_cons_zero, List.set_cons_succ]
        refine wpAnyH_ready (rs := [14, 23]) (by kernel_rfl) (by simp) (AllReadyH.cons (o := { dst := some 42, op := Op.call { callee := Callee.value (Operand.func 60), args := #[Operand.tmp 39, Operand.tmp 41], argTypes := #[3, 3] }, type := 3, pos := "sample.go:61", after := #[{ on := 11, ground := Ground.data }, { on := 13, ground := Ground.data }, { on := 9, ground := Ground.chain }], guard := none }) rfl (fun K hK => ?_) (AllReadyH.cons (o := { dst := some 9, op := Op.alloc 51, type := 0, pos := "sample.go:58", after := #[], guard := none }) rfl (fun K hK => ?_) AllReadyH.nil))
        · (go_simp; (go_at_call 60; (refine (St.call h82r5 (HF2.out _)).mono ?_); rintro e V3r5 ⟨rfl, h83r5⟩))
          refine hK.out _ _ ?_ (fun hHeld => ?_)
          · exact HP.out _ (h83r5)
          clear hK K
          try simp only [Act.put, List.setIfInBounds_toArray, List.set_cons_zero, List.set_cons_succ]
          refine wpAnyH_take (i := 15) (oi := { dst := some 43, op := Op.binOp BinOp.add 3 (Operand.tmp 42) (Operand.const (Value.int IntKind.i64 1)) 3, type := 3, pos := "sample.go:58", after := #[{ on := 14, ground := Ground.data }], guard := none }) (v := ?_) rfl (by kernel_rfl) (by kernel_rfl) (by kernel_rfl) (fun _ _ _ h => h) (Or.inl ⟨by kernel_rfl, ?_⟩) (by assumption) ?_
          rotate_left 1
          focus (intro w hSw; (try dsimp only at hSw); go_simp; (try with_reducible rfl))
          try simp only [Act.put, List.setIfInBounds_toArray, List.set_cons_zero, List.set_cons_succ]
          refine wpAnyH_ready (rs := [20, 23]) (by kernel_rfl) (by simp) (AllReadyH.cons (o := { dst := some 48, op := Op.call { callee := Callee.value (Operand.func 60), args := #[Operand.tmp 45, Operand.tmp 47], argTypes := #[3, 3] }, type := 3, pos := "sample.go:62", after := #[{ on := 17, ground := Ground.data }, { on := 19, ground := Ground.data }, { on := 14, ground := Ground.chain }], guard := none }) rfl (fun K hK => ?_) (AllReadyH.cons (o := { dst := some 9, op := Op.alloc 51, type := 0, pos := "sample.go:58", after := #[], guard := none }) rfl (fun K hK => ?_) AllReadyH.nil))
          · (go_simp; (go_at_call 60; (refine (St.call h83r5 (HF3.out _)).mono ?_); rintro e V4r5 ⟨rfl, h84r5⟩))
            refine hK.out _ _ ?_ (fun hHeld => ?_)
            · exact HP.out _ (h84r5)
            clear hK K
            try simp only [Act.put, List.setIfInBounds_toArray, List.set_cons_zero, List.set_cons_succ]
            refine wpAnyH_take (i := 21) (oi := { dst := some 49, op := Op.binOp BinOp.add 3 (Operand.tmp 48) (Operand.const (Value.int IntKind.i64 1)) 3, type := 3, pos := "sample.go:58", after := #[{ on := 20, ground := Ground.data }], guard := none }) (v := ?_) rfl (by kernel_rfl) (by kernel_rfl) (by kernel_rfl) (fun _ _ _ h => h) (Or.inl ⟨by kernel_rfl, ?_⟩) (by assumption) ?_
            rotate_left 1
            focus (intro w hSw; (try dsimp only at hSw); go_simp; (try with_reducible rfl))
            try simp only [Act.put, List.setIfInBounds_toArray, List.set_cons_zero, List.set_cons_succ]
            refine wpAnyH_take (i := 22) (oi := { dst := some 50, op := Op.build 51 #[(0, Operand.tmp 32), (1, Operand.tmp 37), (2, Operand.tmp 43), (3, Operand.tmp 49)], type := 51, pos := "sample.go:58", after := #[{ on := 4, ground := Ground.data }, { on := 9, ground := Ground.data }, { on := 15, ground := Ground.data }, { on := 21, ground := Ground.data }], guard := none }) (v := ?_) rfl (by kernel_rfl) (by kernel_rfl) (by kernel_rfl) (fun _ _ _ h => h) (Or.inl ⟨by kernel_rfl, ?_⟩) (by assumption) ?_
            rotate_left 1
            focus (intro w hSw; (try dsimp only at hSw); go_simp; (try with_reducible rfl))
            try simp only [Act.put, List.setIfInBounds_toArray, List.set_cons_zero, List.set_cons_succ]
            refine wpAnyH_ready (rs := [23]) (by kernel_rfl) (by simp) (AllReadyH.cons (o := { dst := some 9, op := Op.alloc 51, type := 0, pos := "sample.go:58", after := #[], guard := none }) rfl (fun K hK => ?_) AllReadyH.nil)
            have hne23r5 := h84r5.ne
            have hle23r5 := h84r5.below.size
            have h85r5 := h84r5.alloc (.cells #[.int .i64 0, .int .i64 0, .int .i64 0, .int .i64 0] 51)
            refine wp_alloc_of 51 rfl _ (zero_rect _) ?_
            refine hK.out _ _ ?_ (fun hHeld => ?_)
            · exact HP.out _ (h85r5.tl)
            clear hK K
            try simp only [Act.put, List.setIfInBounds_toArray, List.set_cons_zero, List.set_cons_succ]
            refine wpAnyH_ready (rs := [24]) (by kernel_rfl) (by simp) (AllReadyH.cons (o := { dst := none, op := Op.store 51 (Operand.tmp 9) (Operand.tmp 50), type := 0, pos := "sample.go:58", after := #[{ on := 23, ground := Ground.data }, { on := 22, ground := Ground.data }, { on := 20, ground := Ground.chain }, { on := 0, ground := Ground.phase }, { on := 1, ground := Ground.phase }, { on := 2, ground := Ground.phase }, { on := 3, ground := Ground.phase }, { on := 4, ground := Ground.phase }, { on := 5, ground := Ground.phase }, { on := 6, ground := Ground.phase }, { on := 7, ground := Ground.phase }, { on := 8, ground := Ground.phase }, { on := 9, ground := Ground.phase }, { on := 10, ground := Ground.phase }, { on := 11, ground := Ground.phase }, { on := 12, ground := Ground.phase }, { on := 13, ground := Ground.phase }, { on := 14, ground := Ground.phase }, { on := 15, ground := Ground.phase }, { on := 16, ground := Ground.phase }, { on := 17, ground := Ground.phase }, { on := 18, ground := Ground.phase }, { on := 19, ground := Ground.phase }, { on := 20, ground := Ground.phase }, { on := 21, ground := Ground.phase }, { on := 22, ground := Ground.phase }, { on := 23, ground := Ground.phase }], guard := none }) rfl (fun K hK => ?_) AllReadyH.nil)
            have h86r5 := h85r5.rowset (ds := #[.int .i64 c0, .int .i64 c1, .int .i64 (c2 + 1), .int .i64 (c3 + 1)]) hle23r5 hne23r5
            refine wp_store_of 51 _ _ rfl (store_row 51 (cs := #[.int .i64 0, .int .i64 0, .int .i64 0, .int .i64 0]) (ds := #[.int .i64 c0, .int .i64 c1, .int .i64 (c2 + 1), .int .i64 (c3 + 1)]) (by kernel_rfl) rfl (by simp [Value.oneCell']) h85r5.hd) ?_
            refine hK.out _ _ ?_ (fun hHeld => ?_)
            · exact HP.out _ (h86r5.tl)
            clear hK K
            try simp only [Act.put]
            refine wpAnyH_done (by kernel_rfl) ?_ _
            have h9 := h86r5
            go_wp2_with fail
            go_meet
            case rel => exact ⟨_, rfl, fun hh => hne23r5 (b0 + 1 + 1, ro 0 0 0 0) (by simp) hh.symm, h9.sub (by intro x hx; simp at hx ⊢; rcases hx with rfl | rfl <;> simp)⟩
          · have hne23r5 := h83r5.ne
            have hle23r5 := h83r5.below.size
            have h87r5 := h83r5.alloc (.cells #[.int .i64 0, .int .i64 0, .int .i64 0, .int .i64 0] 51)
            refine wp_alloc_of 51 rfl _ (zero_rect _) ?_
            refine hK.out _ _ ?_ (fun hHeld => ?_)
            · exact HP.out _ (h87r5.tl)
            clear hK K
            try simp only [Act.put, List.setIfInBounds_toArray, List.set_cons_zero, List.set_cons_succ]
            refine wpAnyH_ready (rs := [20]) (by kernel_rfl) (by simp) (AllReadyH.cons (o := { dst := some 48, op := Op.call { callee := Callee.value (Operand.func 60), args := #[Operand.tmp 45, Operand.tmp 47], argTypes := #[3, 3] }, type := 3, pos := "sample.go:62", after := #[{ on := 17, ground := Ground.data }, { on := 19, ground := Ground.data }, { on := 14, ground := Ground.chain }], guard := none }) rfl (fun K hK => ?_) AllReadyH.nil)
            (go_simp; (go_at_call 60; (refine (St.call h87r5 (HF3.out _)).mono ?_); rintro e V8r5 ⟨rfl, h88r5⟩))
            refine hK.out _ _ ?_ (fun hHeld => ?_)
            · exact HP.out _ (h88r5.tl)
            clear hK K
            try simp only [Act.put, List.setIfInBounds_toArray, List.set_cons_zero, List.set_cons_succ]
            refine wpAnyH_take (i := 21) (oi := { dst := some 49, op := Op.binOp BinOp.add 3 (Operand.tmp 48) (Operand.const (Value.int IntKind.i64 1)) 3, type := 3, pos := "sample.go:58", after := #[{ on := 20, ground := Ground.data }], guard := none }) (v := ?_) rfl (by kernel_rfl) (by kernel_rfl) (by kernel_rfl) (fun _ _ _ h => h) (Or.inl ⟨by kernel_rfl, ?_⟩) (by assumption) ?_
            rotate_left 1
            focus (intro w hSw; (try dsimp only at hSw); go_simp; (try with_reducible rfl))
            try simp only [Act.put, List.setIfInBounds_toArray, List.set_cons_zero, List.set_cons_succ]
            refine wpAnyH_take (i := 22) (oi := { dst := some 50, op := Op.build 51 #[(0, Operand.tmp 32), (1, Operand.tmp 37), (2, Operand.tmp 43), (3, Operand.tmp 49)], type := 51, pos := "sample.go:58", after := #[{ on := 4, ground := Ground.data }, { on := 9, ground := Ground.data }, { on := 15, ground := Ground.data }, { on := 21, ground := Ground.data }], guard := none }) (v := ?_) rfl (by kernel_rfl) (by kernel_rfl) (by kernel_rfl) (fun _ _ _ h => h) (Or.inl ⟨by kernel_rfl, ?_⟩) (by assumption) ?_
            rotate_left 1
            focus (intro w hSw; (try dsimp only at hSw); go_simp; (try with_reducible rfl))
            try simp only [Act.put, List.setIfInBounds_toArray, List.set_cons_zero, List.set_cons_succ]
            refine wpAnyH_ready (rs := [24]) (by kernel_rfl) (by simp) (AllReadyH.cons (o := { dst := none, op := Op.store 51 (Operand.tmp 9) (Operand.tmp 50), type := 0, pos := "sample.go:58", after := #[{ on := 23, ground := Ground.data }, { on := 22, ground := Ground.data }, { on := 20, ground := Ground.chain }, { on := 0, ground := Ground.phase }, { on := 1, ground := Ground.phase }, { on := 2, ground := Ground.phase }, { on := 3, ground := Ground.phase }, { on := 4, ground := Ground.phase }, { on := 5, ground := Ground.phase }, { on := 6, ground := Ground.phase }, { on := 7, ground := Ground.phase }, { on := 8, ground := Ground.phase }, { on := 9, ground := Ground.phase }, { on := 10, ground := Ground.phase }, { on := 11, ground := Ground.phase }, { on := 12, ground := Ground.phase }, { on := 13, ground := Ground.phase }, { on := 14, ground := Ground.phase }, { on := 15, ground := Ground.phase }, { on := 16, ground := Ground.phase }, { on := 17, ground := Ground.phase }, { on := 18, ground := Ground.phase }, { on := 19, ground := Ground.phase }, { on := 20, ground := Ground.phase }, { on := 21, ground := Ground.phase }, { on := 22, ground := Ground.phase }, { on := 23, ground := Ground.phase }], guard := none }) rfl (fun K hK => ?_) AllReadyH.nil)
            have h89r5 := h88r5.rowset (ds := #[.int .i64 c0, .int .i64 c1, .int .i64 (c2 + 1), .int .i64 (c3 + 1)]) hle23r5 hne23r5
            refine wp_store_of 51 _ _ rfl (store_row 51 (cs := #[.int .i64 0, .int .i64 0, .int .i64 0, .int .i64 0]) (ds := #[.int .i64 c0, .int .i64 c1, .int .i64 (c2 + 1), .int .i64 (c3 + 1)]) (by kernel_rfl) rfl (by simp [Value.oneCell']) h88r5.hd) ?_
            refine hK.out _ _ ?_ (fun hHeld => ?_)
            · exact HP.out _ (h89r5.tl)
            clear hK K
            try simp only [Act.put]
            refine wpAnyH_done (by kernel_rfl) ?_ _
            have h9 := h89r5
            go_wp2_with fail
            go_meet
            case rel => exact ⟨_, rfl, fun hh => hne23r5 (b0 + 1 + 1, ro 0 0 0 0) (by simp) hh.symm, h9.sub (by intro x hx; simp at hx ⊢; rcases hx with rfl | rfl <;> simp)⟩
        · have hne23r5 := h82r5.ne
          have hle23r5 := h82r5.below.size
          have h810r5 := h82r5.alloc (.cells #[.int .i64 0, .int .i64 0, .int .i64 0, .int .i64 0] 51)
          refine wp_alloc_of 51 rfl _ (zero_rect _) ?_
          refine hK.out _ _ ?_ (fun hHeld => ?_)
          · exact HP.out _ (h810r5.tl)
          clear hK K
          try simp only [Act.put, List.setIfInBounds_toArray, List.set_cons_zero, List.set_cons_succ]
          refine wpAnyH_ready (rs := [14]) (by kernel_rfl) (by simp) (AllReadyH.cons (o := { dst := some 42, op := Op.call { callee := Callee.value (Operand.func 60), args := #[Operand.tmp 39, Operand.tmp 41], argTypes := #[3, 3] }, type := 3, pos := "sample.go:61", after := #[{ on := 11, ground := Ground.data }, { on := 13, ground := Ground.data }, { on := 9, ground := Ground.chain }], guard := none }) rfl (fun K hK => ?_) AllReadyH.nil)
          (go_simp; (go_at_call 60; (refine (St.call h810r5 (HF2.out _)).mono ?_); rintro e V11r5 ⟨rfl, h811r5⟩))
          refine hK.out _ _ ?_ (fun hHeld => ?_)
          · exact HP.out _ (h811r5.tl)
          clear hK K
          try simp only [Act.put, List.setIfInBounds_toArray, List.set_cons_zero, List.set_cons_succ]
          refine wpAnyH_take (i := 15) (oi := { dst := some 43, op := Op.binOp BinOp.add 3 (Operand.tmp 42) (Operand.const (Value.int IntKind.i64 1)) 3, type := 3, pos := "sample.go:58", after := #[{ on := 14, ground := Ground.data }], guard := none }) (v := ?_) rfl (by kernel_rfl) (by kernel_rfl) (by kernel_rfl) (fun _ _ _ h => h) (Or.inl ⟨by kernel_rfl, ?_⟩) (by assumption) ?_
          rotate_left 1
          focus (intro w hSw; (try dsimp only at hSw); go_simp; (try with_reducible rfl))
          try simp only [Act.put, List.setIfInBounds_toArray, List.set_cons_zero, List.set_cons_succ]
          refine wpAnyH_ready (rs := [20]) (by kernel_rfl) (by simp) (AllReadyH.cons (o := { dst := some 48, op := Op.call { callee := Callee.value (Operand.func 60), args := #[Operand.tmp 45, Operand.tmp 47], argTypes := #[3, 3] }, type := 3, pos := "sample.go:62", after := #[{ on := 17, ground := Ground.data }, { on := 19, ground := Ground.data }, { on := 14, ground := Ground.chain }], guard := none }) rfl (fun K hK => ?_) AllReadyH.nil)
          (go_simp; (go_at_call 60; (refine (St.call h811r5 (HF3.out _)).mono ?_); rintro e V12r5 ⟨rfl, h812r5⟩))
          refine hK.out _ _ ?_ (fun hHeld => ?_)
          · exact HP.out _ (h812r5.tl)
          clear hK K
          try simp only [Act.put, List.setIfInBounds_toArray, List.set_cons_zero, List.set_cons_succ]
          refine wpAnyH_take (i := 21) (oi := { dst := some 49, op := Op.binOp BinOp.add 3 (Operand.tmp 48) (Operand.const (Value.int IntKind.i64 1)) 3, type := 3, pos := "sample.go:58", after := #[{ on := 20, ground := Ground.data }], guard := none }) (v := ?_) rfl (by kernel_rfl) (by kernel_rfl) (by kernel_rfl) (fun _ _ _ h => h) (Or.inl ⟨by kernel_rfl, ?_⟩) (by assumption) ?_
          rotate_left 1
          focus (intro w hSw; (try dsimp only at hSw); go_simp; (try with_reducible rfl))
          try simp only [Act.put, List.setIfInBounds_toArray, List.set_cons_zero, List.set_cons_succ]
          refine wpAnyH_take (i := 22) (oi := { dst := some 50, op := Op.build 51 #[(0, Operand.tmp 32), (1, Operand.tmp 37), (2, Operand.tmp 43), (3, Operand.tmp 49)], type := 51, pos := "sample.go:58", after := #[{ on := 4, ground := Ground.data }, { on := 9, ground := Ground.data }, { on := 15, ground := Ground.data }, { on := 21, ground := Ground.data }], guard := none }) (v := ?_) rfl (by kernel_rfl) (by kernel_rfl) (by kernel_rfl) (fun _ _ _ h => h) (Or.inl ⟨by kernel_rfl, ?_⟩) (by assumption) ?_
          rotate_left 1
          focus (intro w hSw; (try dsimp only at hSw); go_simp; (try with_reducible rfl))
          try simp only [Act.put, List.setIfInBounds_toArray, List.set_cons_zero, List.set_cons_succ]
          refine wpAnyH_ready (rs := [24]) (by kernel_rfl) (by simp) (AllReadyH.cons (o := { dst := none, op := Op.store 51 (Operand.tmp 9) (Operand.tmp 50), type := 0, pos := "sample.go:58", after := #[{ on := 23, ground := Ground.data }, { on := 22, ground := Ground.data }, { on := 20, ground := Ground.chain }, { on := 0, ground := Ground.phase }, { on := 1, ground := Ground.phase }, { on := 2, ground := Ground.phase }, { on := 3, ground := Ground.phase }, { on := 4, ground := Ground.phase }, { on := 5, ground := Ground.phase }, { on := 6, ground := Ground.phase }, { on := 7, ground := Ground.phase }, { on := 8, ground := Ground.phase }, { on := 9, ground := Ground.phase }, { on := 10, ground := Ground.phase }, { on := 11, ground := Ground.phase }, { on := 12, ground := Ground.phase }, { on := 13, ground := Ground.phase }, { on := 14, ground := Ground.phase }, { on := 15, ground := Ground.phase }, { on := 16, ground := Ground.phase }, { on := 17, ground := Ground.phase }, { on := 18, ground := Ground.phase }, { on := 19, ground := Ground.phase }, { on := 20, ground := Ground.phase }, { on := 21, ground := Ground.phase }, { on := 22, ground := Ground.phase }, { on := 23, ground := Ground.phase }], guard := none }) rfl (fun K hK => ?_) AllReadyH.nil)
          have h813r5 := h812r5.rowset (ds := #[.int .i64 c0, .int .i64 c1, .int .i64 (c2 + 1), .int .i64 (c3 + 1)]) hle23r5 hne23r5
          refine wp_store_of 51 _ _ rfl (store_row 51 (cs := #[.int .i64 0, .int .i64 0, .int .i64 0, .int .i64 0]) (ds := #[.int .i64 c0, .int .i64 c1, .int .i64 (c2 + 1), .int .i64 (c3 + 1)]) (by kernel_rfl) rfl (by simp [Value.oneCell']) h812r5.hd) ?_
          refine hK.out _ _ ?_ (fun hHeld => ?_)
          · exact HP.out _ (h813r5.tl)
          clear hK K
          try simp only [Act.put]
          refine wpAnyH_done (by kernel_rfl) ?_ _
          have h9 := h813r5
          go_wp2_with fail
          go_meet
          case rel => exact ⟨_, rfl, fun hh => hne23r5 (b0 + 1 + 1, ro 0 0 0 0) (by simp) hh.symm, h9.sub (by intro x hx; simp at hx ⊢; rcases hx with rfl | rfl <;> simp)⟩
      · have hne23r5 := h81r5.ne
        have hle23r5 := h81r5.below.size
        have h814r5 := h81r5.alloc (.cells #[.int .i64 0, .int .i64 0, .int .i64 0, .int .i64 0] 51)
        refine wp_alloc_of 51 rfl _ (zero_rect _) ?_
        refine hK.out _ _ ?_ (fun hHeld => ?_)
        · exact HP.out _ (h814r5.tl)
        clear hK K
        try simp only [Act.put, List.setIfInBounds_toArray, List.set_cons_zero, List.set_cons_succ]
        refine wpAnyH_ready (rs := [9]) (by kernel_rfl) (by simp) (AllReadyH.cons (o := { dst := some 37, op := Op.call { callee := Callee.value (Operand.func 59), args := #[Operand.tmp 34, Operand.tmp 36], argTypes := #[3, 3] }, type := 3, pos := "sample.go:60", after := #[{ on := 6, ground := Ground.data }, { on := 8, ground := Ground.data }, { on := 4, ground := Ground.chain }], guard := none }) rfl (fun K hK => ?_) AllReadyH.nil)
        (go_simp; (go_at_call 59; (refine (St.call h814r5 (HF1.out _)).mono ?_); rintro e V15r5 ⟨rfl, h815r5⟩))
        refine hK.out _ _ ?_ (fun hHeld => ?_)
        · exact HP.out _ (h815r5.tl)
        clear hK K
        try simp only [Act.put, List.setIfInBounds_toArray, List.set_cons_zero, List.set_cons_succ]
        refine wpAnyH_ready (rs := [14]) (by kernel_rfl) (by simp) (AllReadyH.cons (o := { dst := some 42, op := Op.call { callee := Callee.value (Operand.func 60), args := #[Operand.tmp 39, Operand.tmp 41], argTypes := #[3, 3] }, type := 3, pos := "sample.go:61", after := #[{ on := 11, ground := Ground.data }, { on := 13, ground := Ground.data }, { on := 9, ground := Ground.chain }], guard := none }) rfl (fun K hK => ?_) AllReadyH.nil)
        (go_simp; (go_at_call 60; (refine (St.call h815r5 (HF2.out _)).mono ?_); rintro e V16r5 ⟨rfl, h816r5⟩))
        refine hK.out _ _ ?_ (fun hHeld => ?_)
        · exact HP.out _ (h816r5.tl)
        clear hK K
        try simp only [Act.put, List.setIfInBounds_toArray, List.set_cons_zero, List.set_cons_succ]
        refine wpAnyH_take (i := 15) (oi := { dst := some 43, op := Op.binOp BinOp.add 3 (Operand.tmp 42) (Operand.const (Value.int IntKind.i64 1)) 3, type := 3, pos := "sample.go:58", after := #[{ on := 14, ground := Ground.data }], guard := none }) (v := ?_) rfl (by kernel_rfl) (by kernel_rfl) (by kernel_rfl) (fun _ _ _ h => h) (Or.inl ⟨by kernel_rfl, ?_⟩) (by assumption) ?_
        rotate_left 1
        focus (intro w hSw; (try dsimp only at hSw); go_simp; (try with_reducible rfl))
        try simp only [Act.put, List.setIfInBounds_toArray, List.set_cons_zero, List.set_cons_succ]
        refine wpAnyH_ready (rs := [20]) (by kernel_rfl) (by simp) (AllReadyH.cons (o := { dst := some 48, op := Op.call { callee := Callee.value (Operand.func 60), args := #[Operand.tmp 45, Operand.tmp 47], argTypes := #[3, 3] }, type := 3, pos := "sample.go:62", after := #[{ on := 17, ground := Ground.data }, { on := 19, ground := Ground.data }, { on := 14, ground := Ground.chain }], guard := none }) rfl (fun K hK => ?_) AllReadyH.nil)
        (go_simp; (go_at_call 60; (refine (St.call h816r5 (HF3.out _)).mono ?_); rintro e V17r5 ⟨rfl, h817r5⟩))
        refine hK.out _ _ ?_ (fun hHeld => ?_)
        · exact HP.out _ (h817r5.tl)
        clear hK K
        try simp only [Act.put, List.setIfInBounds_toArray, List.set_cons_zero, List.set_cons_succ]
        refine wpAnyH_take (i := 21) (oi := { dst := some 49, op := Op.binOp BinOp.add 3 (Operand.tmp 48) (Operand.const (Value.int IntKind.i64 1)) 3, type := 3, pos := "sample.go:58", after := #[{ on := 20, ground := Ground.data }], guard := none }) (v := ?_) rfl (by kernel_rfl) (by kernel_rfl) (by kernel_rfl) (fun _ _ _ h => h) (Or.inl ⟨by kernel_rfl, ?_⟩) (by assumption) ?_
        rotate_left 1
        focus (intro w hSw; (try dsimp only at hSw); go_simp; (try with_reducible rfl))
        try simp only [Act.put, List.setIfInBounds_toArray, List.set_cons_zero, List.set_cons_succ]
        refine wpAnyH_take (i := 22) (oi := { dst := some 50, op := Op.build 51 #[(0, Operand.tmp 32), (1, Operand.tmp 37), (2, Operand.tmp 43), (3, Operand.tmp 49)], type := 51, pos := "sample.go:58", after := #[{ on := 4, ground := Ground.data }, { on := 9, ground := Ground.data }, { on := 15, ground := Ground.data }, { on := 21, ground := Ground.data }], guard := none }) (v := ?_) rfl (by kernel_rfl) (by kernel_rfl) (by kernel_rfl) (fun _ _ _ h => h) (Or.inl ⟨by kernel_rfl, ?_⟩) (by assumption) ?_
        rotate_left 1
        focus (intro w hSw; (try dsimp only at hSw); go_simp; (try with_reducible rfl))
        try simp only [Act.put, List.setIfInBounds_toArray, List.set_cons_zero, List.set_cons_succ]
        refine wpAnyH_ready (rs := [24]) (by kernel_rfl) (by simp) (AllReadyH.cons (o := { dst := none, op := Op.store 51 (Operand.tmp 9) (Operand.tmp 50), type := 0, pos := "sample.go:58", after := #[{ on := 23, ground := Ground.data }, { on := 22, ground := Ground.data }, { on := 20, ground := Ground.chain }, { on := 0, ground := Ground.phase }, { on := 1, ground := Ground.phase }, { on := 2, ground := Ground.phase }, { on := 3, ground := Ground.phase }, { on := 4, ground := Ground.phase }, { on := 5, ground := Ground.phase }, { on := 6, ground := Ground.phase }, { on := 7, ground := Ground.phase }, { on := 8, ground := Ground.phase }, { on := 9, ground := Ground.phase }, { on := 10, ground := Ground.phase }, { on := 11, ground := Ground.phase }, { on := 12, ground := Ground.phase }, { on := 13, ground := Ground.phase }, { on := 14, ground := Ground.phase }, { on := 15, ground := Ground.phase }, { on := 16, ground := Ground.phase }, { on := 17, ground := Ground.phase }, { on := 18, ground := Ground.phase }, { on := 19, ground := Ground.phase }, { on := 20, ground := Ground.phase }, { on := 21, ground := Ground.phase }, { on := 22, ground := Ground.phase }, { on := 23, ground := Ground.phase }], guard := none }) rfl (fun K hK => ?_) AllReadyH.nil)
        have h818r5 := h817r5.rowset (ds := #[.int .i64 c0, .int .i64 c1, .int .i64 (c2 + 1), .int .i64 (c3 + 1)]) hle23r5 hne23r5
        refine wp_store_of 51 _ _ rfl (store_row 51 (cs := #[.int .i64 0, .int .i64 0, .int .i64 0, .int .i64 0]) (ds := #[.int .i64 c0, .int .i64 c1, .int .i64 (c2 + 1), .int .i64 (c3 + 1)]) (by kernel_rfl) rfl (by simp [Value.oneCell']) h817r5.hd) ?_
        refine hK.out _ _ ?_ (fun hHeld => ?_)
        · exact HP.out _ (h818r5.tl)
        clear hK K
        try simp only [Act.put]
        refine wpAnyH_done (by kernel_rfl) ?_ _
        have h9 := h818r5
        go_wp2_with fail
        go_meet
        case rel => exact ⟨_, rfl, fun hh => hne23r5 (b0 + 1 + 1, ro 0 0 0 0) (by simp) hh.symm, h9.sub (by intro x hx; simp at hx ⊢; rcases hx with rfl | rfl <;> simp)⟩
    · have hne23r5 := h80.ne
      have hle23r5 := h80.below.size
      have h819r5 := h80.alloc (.cells #[.int .i64 0, .int .i64 0, .int .i64 0, .int .i64 0] 51)
      refine wp_alloc_of 51 rfl _ (zero_rect _) ?_
      refine hK.out _ _ ?_ (fun hHeld => ?_)
      · exact HP.out _ (h819r5.tl)
      clear hK K
      try simp only [Act.put, List.setIfInBounds_toArray, List.set_cons_zero, List.set_cons_succ]
      refine wpAnyH_ready (rs := [4]) (by kernel_rfl) (by simp) (AllReadyH.cons (o := { dst := some 32, op := Op.call { callee := Callee.value (Operand.func 59), args := #[Operand.tmp 29, Operand.tmp 31], argTypes := #[3, 3] }, type := 3, pos := "sample.go:59", after := #[{ on := 1, ground := Ground.data }, { on := 3, ground := Ground.data }], guard := none }) rfl (fun K hK => ?_) AllReadyH.nil)
      (go_simp; (go_at_call 59; (refine (St.call h819r5 (HF0.out _)).mono ?_); rintro e V20r5 ⟨rfl, h820r5⟩))
      refine hK.out _ _ ?_ (fun hHeld => ?_)
      · exact HP.out _ (h820r5.tl)
      clear hK K
      try simp only [Act.put, List.setIfInBounds_toArray, List.set_cons_zero, List.set_cons_succ]
      refine wpAnyH_ready (rs := [9]) (by kernel_rfl) (by simp) (AllReadyH.cons (o := { dst := some 37, op := Op.call { callee := Callee.value (Operand.func 59), args := #[Operand.tmp 34, Operand.tmp 36], argTypes := #[3, 3] }, type := 3, pos := "sample.go:60", after := #[{ on := 6, ground := Ground.data }, { on := 8, ground := Ground.data }, { on := 4, ground := Ground.chain }], guard := none }) rfl (fun K hK => ?_) AllReadyH.nil)
      (go_simp; (go_at_call 59; (refine (St.call h820r5 (HF1.out _)).mono ?_); rintro e V21r5 ⟨rfl, h821r5⟩))
      refine hK.out _ _ ?_ (fun hHeld => ?_)
      · exact HP.out _ (h821r5.tl)
      clear hK K
      try simp only [Act.put, List.setIfInBounds_toArray, List.set_cons_zero, List.set_cons_succ]
      refine wpAnyH_ready (rs := [14]) (by kernel_rfl) (by simp) (AllReadyH.cons (o := { dst := some 42, op := Op.call { callee := Callee.value (Operand.func 60), args := #[Operand.tmp 39, Operand.tmp 41], argTypes := #[3, 3] }, type := 3, pos := "sample.go:61", after := #[{ on := 11, ground := Ground.data }, { on := 13, ground := Ground.data }, { on := 9, ground := Ground.chain }], guard := none }) rfl (fun K hK => ?_) AllReadyH.nil)
      (go_simp; (go_at_call 60; (refine (St.call h821r5 (HF2.out _)).mono ?_); rintro e V22r5 ⟨rfl, h822r5⟩))
      refine hK.out _ _ ?_ (fun hHeld => ?_)
      · exact HP.out _ (h822r5.tl)
      clear hK K
      try simp only [Act.put, List.setIfInBounds_toArray, List.set_cons_zero, List.set_cons_succ]
      refine wpAnyH_take (i := 15) (oi := { dst := some 43, op := Op.binOp BinOp.add 3 (Operand.tmp 42) (Operand.const (Value.int IntKind.i64 1)) 3, type := 3, pos := "sample.go:58", after := #[{ on := 14, ground := Ground.data }], guard := none }) (v := ?_) rfl (by kernel_rfl) (by kernel_rfl) (by kernel_rfl) (fun _ _ _ h => h) (Or.inl ⟨by kernel_rfl, ?_⟩) (by assumption) ?_
      rotate_left 1
      focus (intro w hSw; (try dsimp only at hSw); go_simp; (try with_reducible rfl))
      try simp only [Act.put, List.setIfInBounds_toArray, List.set_cons_zero, List.set_cons_succ]
      refine wpAnyH_ready (rs := [20]) (by kernel_rfl) (by simp) (AllReadyH.cons (o := { dst := some 48, op := Op.call { callee := Callee.value (Operand.func 60), args := #[Operand.tmp 45, Operand.tmp 47], argTypes := #[3, 3] }, type := 3, pos := "sample.go:62", after := #[{ on := 17, ground := Ground.data }, { on := 19, ground := Ground.data }, { on := 14, ground := Ground.chain }], guard := none }) rfl (fun K hK => ?_) AllReadyH.nil)
      (go_simp; (go_at_call 60; (refine (St.call h822r5 (HF3.out _)).mono ?_); rintro e V23r5 ⟨rfl, h823r5⟩))
      refine hK.out _ _ ?_ (fun hHeld => ?_)
      · exact HP.out _ (h823r5.tl)
      clear hK K
      try simp only [Act.put, List.setIfInBounds_toArray, List.set_cons_zero, List.set_cons_succ]
      refine wpAnyH_take (i := 21) (oi := { dst := some 49, op := Op.binOp BinOp.add 3 (Operand.tmp 48) (Operand.const (Value.int IntKind.i64 1)) 3, type := 3, pos := "sample.go:58", after := #[{ on := 20, ground := Ground.data }], guard := none }) (v := ?_) rfl (by kernel_rfl) (by kernel_rfl) (by kernel_rfl) (fun _ _ _ h => h) (Or.inl ⟨by kernel_rfl, ?_⟩) (by assumption) ?_
      rotate_left 1
      focus (intro w hSw; (try dsimp only at hSw); go_simp; (try with_reducible rfl))
      try simp only [Act.put, List.setIfInBounds_toArray, List.set_cons_zero, List.set_cons_succ]
      refine wpAnyH_take (i := 22) (oi := { dst := some 50, op := Op.build 51 #[(0, Operand.tmp 32), (1, Operand.tmp 37), (2, Operand.tmp 43), (3, Operand.tmp 49)], type := 51, pos := "sample.go:58", after := #[{ on := 4, ground := Ground.data }, { on := 9, ground := Ground.data }, { on := 15, ground := Ground.data }, { on := 21, ground := Ground.data }], guard := none }) (v := ?_) rfl (by kernel_rfl) (by kernel_rfl) (by kernel_rfl) (fun _ _ _ h => h) (Or.inl ⟨by kernel_rfl, ?_⟩) (by assumption) ?_
      rotate_left 1
      focus (intro w hSw; (try dsimp only at hSw); go_simp; (try with_reducible rfl))
      try simp only [Act.put, List.setIfInBounds_toArray, List.set_cons_zero, List.set_cons_succ]
      refine wpAnyH_ready (rs := [24]) (by kernel_rfl) (by simp) (AllReadyH.cons (o := { dst := none, op := Op.store 51 (Operand.tmp 9) (Operand.tmp 50), type := 0, pos := "sample.go:58", after := #[{ on := 23, ground := Ground.data }, { on := 22, ground := Ground.data }, { on := 20, ground := Ground.chain }, { on := 0, ground := Ground.phase }, { on := 1, ground := Ground.phase }, { on := 2, ground := Ground.phase }, { on := 3, ground := Ground.phase }, { on := 4, ground := Ground.phase }, { on := 5, ground := Ground.phase }, { on := 6, ground := Ground.phase }, { on := 7, ground := Ground.phase }, { on := 8, ground := Ground.phase }, { on := 9, ground := Ground.phase }, { on := 10, ground := Ground.phase }, { on := 11, ground := Ground.phase }, { on := 12, ground := Ground.phase }, { on := 13, ground := Ground.phase }, { on := 14, ground := Ground.phase }, { on := 15, ground := Ground.phase }, { on := 16, ground := Ground.phase }, { on := 17, ground := Ground.phase }, { on := 18, ground := Ground.phase }, { on := 19, ground := Ground.phase }, { on := 20, ground := Ground.phase }, { on := 21, ground := Ground.phase }, { on := 22, ground := Ground.phase }, { on := 23, ground := Ground.phase }], guard := none }) rfl (fun K hK => ?_) AllReadyH.nil)
      have h824r5 := h823r5.rowset (ds := #[.int .i64 c0, .int .i64 c1, .int .i64 (c2 + 1), .int .i64 (c3 + 1)]) hle23r5 hne23r5
      refine wp_store_of 51 _ _ rfl (store_row 51 (cs := #[.int .i64 0, .int .i64 0, .int .i64 0, .int .i64 0]) (ds := #[.int .i64 c0, .int .i64 c1, .int .i64 (c2 + 1), .int .i64 (c3 + 1)]) (by kernel_rfl) rfl (by simp [Value.oneCell']) h823r5.hd) ?_
      refine hK.out _ _ ?_ (fun hHeld => ?_)
      · exact HP.out _ (h824r5.tl)
      clear hK K
      try simp only [Act.put]
      refine wpAnyH_done (by kernel_rfl) ?_ _
      have h9 := h824r5
      go_wp2_with fail
      go_meet
      case rel => exact ⟨_, rfl, fun hh => hne23r5 (b0 + 1 + 1, ro 0 0 0 0) (by simp) hh.symm, h9.sub (by intro x hx; simp at hx ⊢; rcases hx with rfl | rfl <;> simp)⟩
  case rest =>
    obtain ⟨b9, rfl, hn9, HQ⟩ := hcut
    clear h8 HP HF0 HF1 HF2 HF3 HX HE HC
    have h9 := HQ.out
    clear HQ
    go_upto_region 6 with fail
    have HP : Hid (∀ V9, St w [(b9, ro c0 c1 (c2 + 1) (c3 + 1))] V9 → St w [(b9, ro c0 c1 (c2 + 1) (c3 + 1))] V9 ∧ RB V9 b9 c0 c1 (c2 + 1) (c3 + 1)) := fun V hV => ⟨hV, St.rect hV (by simp)⟩
    refine wp_region_held_drew (S := fun V9 => St w [(b9, ro c0 c1 (c2 + 1) (c3 + 1))] V9 ∧ RB V9 b9 c0 c1 (c2 + 1) (c3 + 1)) (by kernel_rfl) ?_ (fun hHeld => ?_)
    · exact HP.out _ (h9.drew.tl)
    have h90 := h9.drew
    refine wpAnyH_take (i := 0) (oi := { dst := some 51, op := Op.load 51 (Operand.tmp 9), type := 51, pos := "sample.go:64", after := #[], guard := none }) (v := ?_) rfl (by kernel_rfl) (by kernel_rfl) (by kernel_rfl) (fun _ _ _ h => h) (Or.inl ⟨by kernel_rfl, ?_⟩) (by assumption) ?_
    rotate_left 1
    focus (intro w hSw; (try dsimp only at hSw); go_simp; (try with_reducible rfl))
    try simp only [Act.put, List.setIfInBounds_toArray, List.set_cons_zero, List.set_cons_succ]
    refine wpAnyH_ready (rs := [1]) (by kernel_rfl) (by simp) (AllReadyH.cons (o := { dst := some 52, op := Op.call { callee := Callee.value (Operand.func 51), args := #[], argTypes := #[] }, type := 51, pos := "sample.go:64", after := #[], guard := none }) rfl (fun K hK => ?_) AllReadyH.nil)
    (go_simp; (go_at_call 51; (refine (St.call h90 (canvas_any _)).mono ?_); rintro e V1r6 ⟨rfl, h91r6⟩))
    refine hK.out _ _ ?_ (fun hHeld => ?_)
    · exact HP.out _ (h91r6.tl)
    clear hK K
    try simp only [Act.put, List.setIfInBounds_toArray, List.set_cons_zero, List.set_cons_succ]
    refine wpAnyH_ready (rs := [2]) (by kernel_rfl) (by simp) (AllReadyH.cons (o := { dst := some 53, op := Op.call { callee := Callee.value (Operand.func 61), args := #[Operand.tmp 51, Operand.tmp 52], argTypes := #[51, 51] }, type := 51, pos := "sample.go:64", after := #[{ on := 0, ground := Ground.data }, { on := 1, ground := Ground.data }, { on := 1, ground := Ground.chain }], guard := none }) rfl (fun K hK => ?_) AllReadyH.nil)
    (go_simp; (go_at_call 61; (refine (St.call h91r6 (HI.out _)).mono ?_); rintro e V2r6 ⟨rfl, h92r6⟩))
    refine hK.out _ _ ?_ (fun hHeld => ?_)
    · exact HP.out _ (h92r6.tl)
    clear hK K
    try simp only [Act.put, List.setIfInBounds_toArray, List.set_cons_zero, List.set_cons_succ]
    refine wpAnyH_ready (rs := [3]) (by kernel_rfl) (by simp) (AllReadyH.cons (o := { dst := none, op := Op.store 51 (Operand.tmp 4) (Operand.tmp 53), type := 0, pos := "sample.go:64", after := #[{ on := 2, ground := Ground.data }, { on := 2, ground := Ground.chain }, { on := 0, ground := Ground.phase }, { on := 1, ground := Ground.phase }, { on := 2, ground := Ground.phase }], guard := none }) rfl (fun K hK => ?_) AllReadyH.nil)
    have h93r6 := h92r6.rowset (ds := #[.int .i64 t0, .int .i64 t1, .int .i64 t2, .int .i64 t3]) (by omega) (by simp; try omega)
    refine wp_store_of 51 _ _ rfl (store_row 51 (cs := #[.int .i64 0, .int .i64 0, .int .i64 0, .int .i64 0]) (ds := #[.int .i64 t0, .int .i64 t1, .int .i64 t2, .int .i64 t3]) (by kernel_rfl) rfl (by simp [Value.oneCell']) h92r6.hd) ?_
    refine hK.out _ _ ?_ (fun hHeld => ?_)
    · exact HP.out _ (h93r6.tl)
    clear hK K
    try simp only [Act.put]
    refine wpAnyH_take (i := 4) (oi := { dst := some 5, op := Op.assign (Operand.const (Value.int IntKind.i64 0)), type := 39, pos := "sample.go:64", after := #[{ on := 3, ground := Ground.chain }, { on := 0, ground := Ground.phase }, { on := 1, ground := Ground.phase }, { on := 2, ground := Ground.phase }, { on := 3, ground := Ground.phase }], guard := none }) (v := ?_) rfl (by kernel_rfl) (by kernel_rfl) (by kernel_rfl) (fun _ _ _ h => h) (Or.inl ⟨by kernel_rfl, ?_⟩) (by assumption) ?_
    rotate_left 1
    focus (intro w hSw; (try dsimp only at hSw); go_simp; (try with_reducible rfl))
    try simp only [Act.put, List.setIfInBounds_toArray, List.set_cons_zero, List.set_cons_succ]
    refine wpAnyH_done (by kernel_rfl) ?_ _
    have h7 := h93r6
    obtain ⟨_, _, _, _⟩ := St.rect h7 (b := b0 + 1 + 1) (x0 := t0) (x1 := t1) (x2 := t2) (x3 := t3) (by simp)
    generalize World.setRow _ _ _ = w9 at *
    go_wp2
    subst hb0; exact bodyPost_ret (v := .tuple #[rv t0 t1 t2 t3, .int .i64 0]) (by simp [results, Try.results32, go_sem, *]) rfl ⟨rfl, h7.below⟩
end Go.Proofs.Ytgipfcpkphmbpaa.F
