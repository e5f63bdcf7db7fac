/-
  Lowest terms: of affine and of the reference.
-/
import Derived.Test.YtgipfcpkphmbpaaADiv
namespace Go.Proofs.Ytgipfcpkphmbpaa.F
open Go.RowKit
set_option maxRecDepth 100000

theorem below_set7 {n b : Nat} {w w' : World} (h : Below n w w') (hb : n ≤ b) (x0 x1 x2 x3 x4 x5 x6 : Value) :
    Below n w (((((((w'.setCell ⟨b, 0, none⟩ x0).setCell ⟨b, 1, none⟩ x1).setCell ⟨b, 2, none⟩ x2).setCell ⟨b, 3, none⟩ x3).setCell ⟨b, 4, none⟩ x4).setCell ⟨b, 5, none⟩ x5).setCell ⟨b, 6, none⟩ x6) :=
  ((((((h.setCell (p := ⟨b, 0, none⟩) hb _).setCell (p := ⟨b, 1, none⟩) hb _).setCell (p := ⟨b, 2, none⟩) hb _).setCell (p := ⟨b, 3, none⟩) hb _).setCell (p := ⟨b, 4, none⟩) hb _).setCell (p := ⟨b, 5, none⟩) hb _).setCell (p := ⟨b, 6, none⟩) hb _
def LmA (x : Af) : Prop := ∀ v ∈ x.l, Lm v
theorem lowest_q {x : Af} (h : LmA x) (h0 : x.n ≠ 0) : ∀ v ∈ x.l, v.tdiv (g7 x : Int) = v / (g7 x : Int) ∧ Lm (v / (g7 x : Int)) := fun v hv => by
  have hd := g7_dvd x v hv
  have hg := g7_pos h0
  refine ⟨Int.tdiv_eq_ediv_of_dvd hd, ?_⟩
  exact ediv_bd (h v hv) (by omega) hd
set_option maxHeartbeats 4000000 in
theorem lowest_any (a b c d e f n : Int) (w : World) (h : LmA ⟨a, b, c, d, e, f, n⟩) (h0 : n ≠ 0) : Calls Try.prog 46 #[av a b c d e f n] w fun e' w' => e' = .returned (low ⟨a, b, c, d, e, f, n⟩).v ∧ Below w.heap.size w w' := by
  have HL := Lib.hid h
  have HQ := Lib.hid (lowest_q h h0)
  have hg := g7_pos (x := ⟨a, b, c, d, e, f, n⟩) h0
  have hgz : ((g7 ⟨a, b, c, d, e, f, n⟩ : Int) == 0) = false := by simp; omega
  have hgz2 : ((g7 ⟨a, b, c, d, e, f, n⟩ : Int) = 0) = False := by simp; omega
  have HD : Hid (∀ (bk : Nat) (V : World), bk < V.heap.size → V.heap[bk]? = some (.cells #[.int .i64 a, .int .i64 b, .int .i64 c, .int .i64 d, .int .i64 e, .int .i64 f, .int .i64 n] 3) →
      Calls Try.prog 70 #[.slice (some ⟨bk, 0, none⟩) 7 7] V fun en w' => en = .returned (.int .i64 (g7 ⟨a, b, c, d, e, f, n⟩ : Int)) ∧ Below V.heap.size V w') := fun bk V hlt hb =>
    divisor_any [a, b, c, d, e, f, n] 7 bk V rfl (by omega) hlt (fun i hi => by
      rw [cell_of_row _ _ i _ _ _ hb]
      match i, hi with
      | 0, _ => rfl
      | 1, _ => rfl
      | 2, _ => rfl
      | 3, _ => rfl
      | 4, _ => rfl
      | 5, _ => rfl
      | 6, _ => rfl) HL.out _ rfl
  obtain ⟨ra, rb, rc, rd, re, rf, rn, hlow⟩ : ∃ ra rb rc rd re rf rn, low ⟨a, b, c, d, e, f, n⟩ = ⟨ra, rb, rc, rd, re, rf, rn⟩ := ⟨_, _, _, _, _, _, _, rfl⟩
  have hl2 := hlow
  unfold low at hl2
  simp only [Af.mk.injEq] at hl2
  generalize (g7 ⟨a, b, c, d, e, f, n⟩ : Int) = g at HQ hgz hgz2 HD hl2
  have q : ∀ v r, v ∈ Af.l ⟨a, b, c, d, e, f, n⟩ → v / g = r → wrap64 (v.tdiv g) = r := fun v r hv he => by
    rw [(HQ.out v hv).1, he]; have := (HQ.out v hv).2; rw [he] at this; unfold Lm at this; exact w64 ⟨by omega, by omega⟩
  have q0 := q a ra (by simp [Af.l]) hl2.1
  have q1 := q b rb (by simp [Af.l]) hl2.2.1
  have q2 := q c rc (by simp [Af.l]) hl2.2.2.1
  have q3 := q d rd (by simp [Af.l]) hl2.2.2.2.1
  have q4 := q e re (by simp [Af.l]) hl2.2.2.2.2.1
  have q5 := q f rf (by simp [Af.l]) hl2.2.2.2.2.2.1
  have q6 := q n rn (by simp [Af.l]) hl2.2.2.2.2.2.2
  rw [hlow]
  clear q hl2 hlow HQ h h0 hg
  go_enter Try.func46, Try.ntmps46
  go_upto_region 1 with fail
  have hs := ((St.start w).alloc (ao a b c d e f n)).alloc (ao 0 0 0 0 0 0 0)
  rw [World.size_alloc] at hs
  generalize hb0 : w.heap.size = b0 at hs ⊢
  generalize (w.alloc (ao a b c d e f n)).alloc (ao 0 0 0 0 0 0 0) = w1 at hs ⊢
  obtain ⟨a0, a1, a2, a3, a4, a5, a6⟩ := St.aff hs (b := b0) (a := a) (b' := b) (c := c) (d := d) (e := e) (f := f) (n := n) (by simp)
  go_upto_region 2 with (go_at_call 70; (with_reducible refine (St.call (St.alloc hs _) (HD.out _ _ ?_ (heap_new _ _))).mono ?_); (focus simp); rintro e w2 ⟨rfl, h2⟩)
  clear a0 a1 a2 a3 a4 a5 a6 hs
  have hd := h2.drew
  clear HD HL
  refine wp_region_still_tail 29 (by kernel_rfl) (by kernel_rfl) ?_
  rw [drew_eq w2]
  generalize w2.drew = w3 at hd ⊢
  simp only [List.take_succ_cons, List.take_zero, List.drop_succ_cons, List.drop_zero]
  obtain ⟨a0, a1, a2, a3, a4, a5, a6⟩ := St.aff hd (b := b0) (a := a) (b' := b) (c := c) (d := d) (e := e) (f := f) (n := n) (by simp)
  obtain ⟨b0', b1', b2', b3', b4', b5', b6'⟩ := St.aff hd (b := b0 + 1) (a := 0) (b' := 0) (c := 0) (d := 0) (e := 0) (f := 0) (n := 0) (by simp)
  have hf1 : ∀ j, w3.frozen? ⟨b0 + 1, j, none⟩ = false := hd.frozen (b := b0 + 1) (cs := #[.int .i64 0, .int .i64 0, .int .i64 0, .int .i64 0, .int .i64 0, .int .i64 0, .int .i64 0]) (t := 23) (by simp)
  iterate 29 still_step
  refine wpStill_nil ?_
  go_wp2
  exact bodyPost_ret (v := Af.v ⟨ra, rb, rc, rd, re, rf, rn⟩) (by simp [results, Try.results46, go_sem, *]) rfl ⟨rfl, below_set7 hd.below (by omega) _ _ _ _ _ _ _⟩

end Go.Proofs.Ytgipfcpkphmbpaa.F
