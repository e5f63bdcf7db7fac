/-
  Lowest terms: of the reference.
-/
import Derived.Test.YtgipfcpkphmbpaaALow
namespace Go.Proofs.Ytgipfcpkphmbpaa.F
open Go.RowKit
set_option maxRecDepth 100000

set_option maxHeartbeats 4000000 in
theorem refLowest_any (a b c d e f n : Int) (w : World) (h : LmA ⟨a, b, c, d, e, f, n⟩) (h0 : n ≠ 0) : Calls Try.prog 47 #[av a b c d e f n] w fun e' w' => e' = .returned (low ⟨a, b, c, d, e, f, n⟩).v ∧ Below w.heap.size w w' := by
  have HQ := Lib.hid (lowest_q h h0)
  have hg := g7_pos (x := ⟨a, b, c, d, e, f, n⟩) h0
  have hgz : ((g7 ⟨a, b, c, d, e, f, n⟩ : Int) == 0) = false := by simp; omega
  have hgz2 : ((g7 ⟨a, b, c, d, e, f, n⟩ : Int) = 0) = False := by simp; omega
  have la : Lm a := h a (by simp [Af.l])
  have lb : Lm b := h b (by simp [Af.l])
  have lc : Lm c := h c (by simp [Af.l])
  have ld : Lm d := h d (by simp [Af.l])
  have le : Lm e := h e (by simp [Af.l])
  have lf : Lm f := h f (by simp [Af.l])
  have ln : Lm n := h n (by simp [Af.l])
  have lgcd : ∀ x y : Int, Lm x → Lm y → Lm (Nat.gcd x.natAbs y.natAbs : Int) := fun x y hx hy => by
    unfold Lm at *
    by_cases hz : x = 0
    · subst hz; rw [Int.natAbs_zero, Nat.gcd_zero_left]; omega
    · have := Nat.gcd_le_left y.natAbs (Int.natAbs_pos.2 hz); omega
  obtain ⟨g1, e1⟩ : ∃ g1, g1 = (Nat.gcd a.natAbs b.natAbs : Int) := ⟨_, rfl⟩
  have l1 : Lm g1 := e1 ▸ lgcd _ _ la lb
  obtain ⟨g2, e2⟩ : ∃ g2, g2 = (Nat.gcd g1.natAbs c.natAbs : Int) := ⟨_, rfl⟩
  have l2 : Lm g2 := e2 ▸ lgcd _ _ l1 lc
  obtain ⟨g3, e3⟩ : ∃ g3, g3 = (Nat.gcd g2.natAbs d.natAbs : Int) := ⟨_, rfl⟩
  have l3 : Lm g3 := e3 ▸ lgcd _ _ l2 ld
  obtain ⟨g4, e4⟩ : ∃ g4, g4 = (Nat.gcd g3.natAbs e.natAbs : Int) := ⟨_, rfl⟩
  have l4 : Lm g4 := e4 ▸ lgcd _ _ l3 le
  obtain ⟨g5, e5⟩ : ∃ g5, g5 = (Nat.gcd g4.natAbs f.natAbs : Int) := ⟨_, rfl⟩
  have l5 : Lm g5 := e5 ▸ lgcd _ _ l4 lf
  have e6 : (g7 ⟨a, b, c, d, e, f, n⟩ : Int) = (Nat.gcd g5.natAbs n.natAbs : Int) := by
    have : g7 ⟨a, b, c, d, e, f, n⟩ = Nat.gcd (Nat.gcd (Nat.gcd (Nat.gcd (Nat.gcd (Nat.gcd (Nat.gcd 0 a.natAbs) b.natAbs) c.natAbs) d.natAbs) e.natAbs) f.natAbs) n.natAbs := by
      unfold g7 gl Af.l; simp only [List.foldl_cons, List.foldl_nil]
    rw [this, e5, e4, e3, e2, e1, Nat.gcd_zero_left]; simp only [Int.natAbs_natCast]
  have G1 : Hid (∀ W, Calls Try.prog 71 #[.int .i64 a, .int .i64 b] W fun en w' => en = .returned (.int .i64 g1) ∧ Below W.heap.size W w') := fun W => (gcd_any a b W la lb g1 e1).mono fun _ _ ⟨x, y⟩ => ⟨x, y ▸ Below.refl _ _⟩
  have G2 : Hid (∀ W, Calls Try.prog 71 #[.int .i64 g1, .int .i64 c] W fun en w' => en = .returned (.int .i64 g2) ∧ Below W.heap.size W w') := fun W => (gcd_any g1 c W l1 lc g2 e2).mono fun _ _ ⟨x, y⟩ => ⟨x, y ▸ Below.refl _ _⟩
  have G3 : Hid (∀ W, Calls Try.prog 71 #[.int .i64 g2, .int .i64 d] W fun en w' => en = .returned (.int .i64 g3) ∧ Below W.heap.size W w') := fun W => (gcd_any g2 d W l2 ld g3 e3).mono fun _ _ ⟨x, y⟩ => ⟨x, y ▸ Below.refl _ _⟩
  have G4 : Hid (∀ W, Calls Try.prog 71 #[.int .i64 g3, .int .i64 e] W fun en w' => en = .returned (.int .i64 g4) ∧ Below W.heap.size W w') := fun W => (gcd_any g3 e W l3 le g4 e4).mono fun _ _ ⟨x, y⟩ => ⟨x, y ▸ Below.refl _ _⟩
  have G5 : Hid (∀ W, Calls Try.prog 71 #[.int .i64 g4, .int .i64 f] W fun en w' => en = .returned (.int .i64 g5) ∧ Below W.heap.size W w') := fun W => (gcd_any g4 f W l4 lf g5 e5).mono fun _ _ ⟨x, y⟩ => ⟨x, y ▸ Below.refl _ _⟩
  have G6 : Hid (∀ W, Calls Try.prog 71 #[.int .i64 g5, .int .i64 n] W fun en w' => en = .returned (.int .i64 (g7 ⟨a, b, c, d, e, f, n⟩ : Int)) ∧ Below W.heap.size W w') := fun W => (gcd_any g5 n W l5 ln _ e6).mono fun _ _ ⟨x, y⟩ => ⟨x, y ▸ Below.refl _ _⟩
  clear e1 e2 e3 e4 e5 e6 l1 l2 l3 l4 l5 la lb lc ld le lf ln lgcd
  obtain ⟨ra, rb, rc, rd, re, rf, rn, hlow⟩ : ∃ ra rb rc rd re rf rn, low ⟨a, b, c, d, e, f, n⟩ = ⟨ra, rb, rc, rd, re, rf, rn⟩ := ⟨_, _, _, _, _, _, _, rfl⟩
  have hl2 := hlow
  unfold low at hl2
  simp only [Af.mk.injEq] at hl2
  generalize (g7 ⟨a, b, c, d, e, f, n⟩ : Int) = g at HQ hgz hgz2 G6 hl2
  have q : ∀ v r, v ∈ Af.l ⟨a, b, c, d, e, f, n⟩ → v / g = r → wrap64 (v.tdiv g) = r := fun v r hv he => by
    rw [(HQ.out v hv).1, he]; have := (HQ.out v hv).2; rw [he] at this; unfold Lm at this; exact w64 ⟨by omega, by omega⟩
  have q0 := q a ra (by simp [Af.l]) hl2.1
  have q1 := q b rb (by simp [Af.l]) hl2.2.1
  have q2 := q c rc (by simp [Af.l]) hl2.2.2.1
  have q3 := q d rd (by simp [Af.l]) hl2.2.2.2.1
  have q4 := q e re (by simp [Af.l]) hl2.2.2.2.2.1
  have q5 := q f rf (by simp [Af.l]) hl2.2.2.2.2.2.1
  have q6 := q n rn (by simp [Af.l]) hl2.2.2.2.2.2.2
  rw [hlow]
  clear q hl2 hlow HQ h h0 hg
  go_enter Try.func47, Try.ntmps47
  go_upto_region 1 with fail
  have hs := ((St.start w).alloc (ao a b c d e f n)).alloc (ao 0 0 0 0 0 0 0)
  rw [World.size_alloc] at hs
  generalize hb0 : w.heap.size = b0 at hs ⊢
  generalize (w.alloc (ao a b c d e f n)).alloc (ao 0 0 0 0 0 0 0) = w1 at hs ⊢
  obtain ⟨L, hL⟩ : ∃ L, L = [(b0 + 1, ao 0 0 0 0 0 0 0), (b0, ao a b c d e f n)] := ⟨_, rfl⟩
  rw [← hL] at hs
  have HP : Hid (∀ V, St w L V → St w L V ∧ AB V b0 a b c d e f n) := fun V hV => ⟨hV, by subst hL; exact St.aff hV (by simp)⟩
  have HL := Lib.hid hL; clear hL
  have hs1 := hs.drew
  clear hs
  go_region_held3 (fun V => St w L V ∧ AB V b0 a b c d e f n) ((refine HP.out _ ?_; assumption)) (first | (go_at_call 71; (with_reducible refine (St.call (W := w) (L := L) ?_ (G1.out _)).mono ?_); (focus assumption); rintro en w2 ⟨rfl, h2⟩) | (go_at_call 71; (with_reducible refine (St.call (W := w) (L := L) ?_ (G2.out _)).mono ?_); (focus assumption); rintro en w2 ⟨rfl, h2⟩) | (go_at_call 71; (with_reducible refine (St.call (W := w) (L := L) ?_ (G3.out _)).mono ?_); (focus assumption); rintro en w2 ⟨rfl, h2⟩) | (go_at_call 71; (with_reducible refine (St.call (W := w) (L := L) ?_ (G4.out _)).mono ?_); (focus assumption); rintro en w2 ⟨rfl, h2⟩) | (go_at_call 71; (with_reducible refine (St.call (W := w) (L := L) ?_ (G5.out _)).mono ?_); (focus assumption); rintro en w2 ⟨rfl, h2⟩) | (go_at_call 71; (with_reducible refine (St.call (W := w) (L := L) ?_ (G6.out _)).mono ?_); (focus assumption); rintro en w2 ⟨rfl, h2⟩))
  have hL := HL.out
  subst hL
  clear G1 G2 G3 G4 G5 G6 HP HL hs1
  go_upto_region 4 with fail
  have hd := h2.drew
  refine wp_region_still_tail 29 (by kernel_rfl) (by kernel_rfl) ?_
  rw [drew_eq w2]
  generalize w2.drew = w3 at hd ⊢
  simp only [List.take_succ_cons, List.take_zero, List.drop_succ_cons, List.drop_zero]
  obtain ⟨a0, a1, a2, a3, a4, a5, a6⟩ := St.aff hd (b := b0) (a := a) (b' := b) (c := c) (d := d) (e := e) (f := f) (n := n) (by simp)
  obtain ⟨b0', b1', b2', b3', b4', b5', b6'⟩ := St.aff hd (b := b0 + 1) (a := 0) (b' := 0) (c := 0) (d := 0) (e := 0) (f := 0) (n := 0) (by simp)
  have hf1 : ∀ j, w3.frozen? ⟨b0 + 1, j, none⟩ = false := hd.frozen (b := b0 + 1) (cs := #[.int .i64 0, .int .i64 0, .int .i64 0, .int .i64 0, .int .i64 0, .int .i64 0, .int .i64 0]) (t := 23) (by simp)
  iterate 29 still_step
  refine wpStill_nil ?_
  go_wp2
  exact bodyPost_ret (v := Af.v ⟨ra, rb, rc, rd, re, rf, rn⟩) (by simp [results, Try.results47, go_sem, *]) rfl ⟨rfl, below_set7 hd.below (by omega) _ _ _ _ _ _ _⟩
end Go.Proofs.Ytgipfcpkphmbpaa.F
