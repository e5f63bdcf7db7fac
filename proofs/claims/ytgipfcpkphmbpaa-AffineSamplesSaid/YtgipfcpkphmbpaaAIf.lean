/-
  Reduce and lowestIfValid of affine; Reduce and checked of the reference; shifts and the identity.
-/
import Derived.Test.YtgipfcpkphmbpaaARLow
namespace Go.Proofs.Ytgipfcpkphmbpaa.F
open Go.RowKit
set_option maxRecDepth 100000

abbrev zA : Af := ⟨0, 0, 0, 0, 0, 0, 0⟩
/-- a placement or an error -/
structure Got where
  (x : Af) (e : Int)
abbrev Got.v (g : Got) : Value := .tuple #[g.x.v, .int .i64 g.e]
abbrev gv (a b c d e f n k : Int) : Value := .agg #[.int .i64 a, .int .i64 b, .int .i64 c, .int .i64 d, .int .i64 e, .int .i64 f, .int .i64 n, .int .i64 k]
abbrev Got.r (g : Got) : Value := gv g.x.a g.x.b g.x.c g.x.d g.x.e g.x.f g.x.n g.e
/-- the result in lowest terms, if it is valid -/
def chk (x : Af) : Got := if okA (low x) = true then ⟨low x, 0⟩ else ⟨zA, 2⟩
def red (x : Af) : Af := if okA x = true then low x else x
theorem ok_lm {x : Af} (h : Ok x) : LmA x ∧ x.n ≠ 0 := by
  obtain ⟨⟨hn, ha, hb, hd, he, hc, hf⟩, h0⟩ := h
  refine ⟨fun v hv => ?_, by omega⟩
  simp only [Af.l, List.mem_cons, List.not_mem_nil, or_false] at hv
  unfold Lm
  rcases hv with rfl | rfl | rfl | rfl | rfl | rfl | rfl <;> omega
theorem shift_any (x y : Int) (w : World) : Calls Try.prog 22 #[.int .i64 x, .int .i64 y] w fun en w' => en = .returned (av 1 0 x 0 1 y 1) ∧ Below w.heap.size w w' := by
  go_enter Try.func22, Try.ntmps22
  go_wp2
  exact bodyPost_ret (v := av 1 0 x 0 1 y 1) (by simp [results, Try.results22, go_sem, *]) rfl ⟨rfl, below1⟩
theorem refShift_any (x y : Int) (w : World) : Calls Try.prog 23 #[.int .i64 x, .int .i64 y] w fun en w' => en = .returned (av 1 0 x 0 1 y 1) ∧ Below w.heap.size w w' := by
  go_enter Try.func23, Try.ntmps23
  go_wp2
  exact bodyPost_ret (v := av 1 0 x 0 1 y 1) (by simp [results, Try.results23, go_sem, *]) rfl ⟨rfl, below1⟩
theorem ident_any (w : World) : Calls Try.prog 24 #[] w fun en w' => en = .returned (av 1 0 0 0 1 0 1) ∧ Below w.heap.size w w' := by
  go_enter Try.func24, Try.ntmps24
  go_upto_region 1 with fail
  have hs := (St.start w).alloc (ao 0 0 0 0 0 0 0)
  generalize hb0 : w.heap.size = b0 at hs ⊢
  generalize w.alloc (ao 0 0 0 0 0 0 0) = w1 at hs ⊢
  go_wp2_with (go_at_call 22; (with_reducible refine (St.call hs (shift_any _ _ _)).mono ?_); rintro en w2 ⟨rfl, h2⟩; obtain ⟨_, _, _, _, _, _, _⟩ := St.aff h2 (b := b0) (a := 0) (b' := 0) (c := 0) (d := 0) (e := 0) (f := 0) (n := 0) (by simp); have _ : ∀ j, _ = false := h2.frozen (b := b0) (cs := #[.int .i64 0, .int .i64 0, .int .i64 0, .int .i64 0, .int .i64 0, .int .i64 0, .int .i64 0]) (t := 23) (by simp))
  subst hb0
  exact bodyPost_ret (v := av 1 0 0 0 1 0 1) (by simp [results, Try.results24, go_sem, *]) rfl ⟨rfl, below_set7 h2.below (by omega) _ _ _ _ _ _ _⟩
set_option maxHeartbeats 1000000 in
theorem reduce_any (a b c d e f n : Int) (w : World) : Calls Try.prog 20 #[av a b c d e f n] w fun en w' => en = .returned (red ⟨a, b, c, d, e, f, n⟩).v ∧ Below w.heap.size w w' := by
  have HV : Hid (∀ W, Calls Try.prog 16 #[av a b c d e f n] W fun en w' => en = .returned (.bool (okA ⟨a, b, c, d, e, f, n⟩)) ∧ Below W.heap.size W w') := fun W => valid_any a b c d e f n W
  obtain ⟨ra, rb, rc, rd, re, rf, rn, hlow⟩ : ∃ ra rb rc rd re rf rn, low ⟨a, b, c, d, e, f, n⟩ = ⟨ra, rb, rc, rd, re, rf, rn⟩ := ⟨_, _, _, _, _, _, _, rfl⟩
  have HC : Hid (okA ⟨a, b, c, d, e, f, n⟩ = true → ∀ W, Calls Try.prog 46 #[av a b c d e f n] W fun en w' => en = .returned (av ra rb rc rd re rf rn) ∧ Below W.heap.size W w') := fun ho W => by
    have hk := ok_lm ((okA_iff _).1 ho)
    have := lowest_any a b c d e f n W hk.1 hk.2; rw [hlow] at this; exact this
  unfold red
  rw [hlow]
  generalize hok : okA ⟨a, b, c, d, e, f, n⟩ = s at HV HC
  clear hok hlow
  cases s
  all_goals
    go_enter Try.func20, Try.ntmps20
    go_upto_region 1 with fail
    have hs := ((St.start w).alloc (ao a b c d e f n)).alloc (ao 0 0 0 0 0 0 0)
    rw [World.size_alloc] at hs
    generalize hb0 : w.heap.size = b0 at hs ⊢
    generalize (w.alloc (ao a b c d e f n)).alloc (ao 0 0 0 0 0 0 0) = w1 at hs ⊢
    obtain ⟨_, _, _, _, _, _, _⟩ := St.aff hs (b := b0) (a := a) (b' := b) (c := c) (d := d) (e := e) (f := f) (n := n) (by simp)
  · go_wp2_with (first | (go_at_call 16; (with_reducible refine (St.call hs (HV.out _)).mono ?_); rintro en w2 ⟨rfl, h2⟩; obtain ⟨_, _, _, _, _, _, _⟩ := St.aff h2 (b := b0) (a := a) (b' := b) (c := c) (d := d) (e := e) (f := f) (n := n) (by simp); obtain ⟨_, _, _, _, _, _, _⟩ := St.aff h2 (b := b0 + 1) (a := 0) (b' := 0) (c := 0) (d := 0) (e := 0) (f := 0) (n := 0) (by simp); have _ : ∀ j, _ = false := h2.frozen (b := b0 + 1) (cs := #[.int .i64 0, .int .i64 0, .int .i64 0, .int .i64 0, .int .i64 0, .int .i64 0, .int .i64 0]) (t := 23) (by simp)))
    subst hb0; exact bodyPost_ret (v := av a b c d e f n) (by simp [results, Try.results20, go_sem, *]) rfl ⟨rfl, below_set7 h2.below (by omega) _ _ _ _ _ _ _⟩
  · go_wp2_with (first | (go_at_call 16; (with_reducible refine (St.call hs (HV.out _)).mono ?_); rintro en w2 ⟨rfl, h2⟩; obtain ⟨_, _, _, _, _, _, _⟩ := St.aff h2 (b := b0) (a := a) (b' := b) (c := c) (d := d) (e := e) (f := f) (n := n) (by simp)) | (go_at_call 46; (with_reducible refine (St.call h2 (HC.out (by first | rfl | trivial) _)).mono ?_); rintro en w3 ⟨rfl, h3⟩; obtain ⟨_, _, _, _, _, _, _⟩ := St.aff h3 (b := b0 + 1) (a := 0) (b' := 0) (c := 0) (d := 0) (e := 0) (f := 0) (n := 0) (by simp); have _ : ∀ j, _ = false := h3.frozen (b := b0 + 1) (cs := #[.int .i64 0, .int .i64 0, .int .i64 0, .int .i64 0, .int .i64 0, .int .i64 0, .int .i64 0]) (t := 23) (by simp)))
    subst hb0; exact bodyPost_ret (v := av ra rb rc rd re rf rn) (by simp [results, Try.results20, go_sem, *]) rfl ⟨rfl, below_set7 h3.below (by omega) _ _ _ _ _ _ _⟩
set_option maxHeartbeats 1000000 in
theorem refReduce_any (a b c d e f n : Int) (w : World) : Calls Try.prog 21 #[av a b c d e f n] w fun en w' => en = .returned (red ⟨a, b, c, d, e, f, n⟩).v ∧ Below w.heap.size w w' := by
  have HV : Hid (∀ W, Calls Try.prog 17 #[av a b c d e f n] W fun en w' => en = .returned (.bool (okA ⟨a, b, c, d, e, f, n⟩)) ∧ Below W.heap.size W w') := fun W => refOk_any a b c d e f n W
  obtain ⟨ra, rb, rc, rd, re, rf, rn, hlow⟩ : ∃ ra rb rc rd re rf rn, low ⟨a, b, c, d, e, f, n⟩ = ⟨ra, rb, rc, rd, re, rf, rn⟩ := ⟨_, _, _, _, _, _, _, rfl⟩
  have HC : Hid (okA ⟨a, b, c, d, e, f, n⟩ = true → ∀ W, Calls Try.prog 47 #[av a b c d e f n] W fun en w' => en = .returned (av ra rb rc rd re rf rn) ∧ Below W.heap.size W w') := fun ho W => by
    have hk := ok_lm ((okA_iff _).1 ho)
    have := refLowest_any a b c d e f n W hk.1 hk.2; rw [hlow] at this; exact this
  unfold red
  rw [hlow]
  generalize hok : okA ⟨a, b, c, d, e, f, n⟩ = s at HV HC
  clear hok hlow
  cases s
  all_goals
    go_enter Try.func21, Try.ntmps21
    go_upto_region 1 with fail
    have hs := ((St.start w).alloc (ao a b c d e f n)).alloc (ao 0 0 0 0 0 0 0)
    rw [World.size_alloc] at hs
    generalize hb0 : w.heap.size = b0 at hs ⊢
    generalize (w.alloc (ao a b c d e f n)).alloc (ao 0 0 0 0 0 0 0) = w1 at hs ⊢
    obtain ⟨_, _, _, _, _, _, _⟩ := St.aff hs (b := b0) (a := a) (b' := b) (c := c) (d := d) (e := e) (f := f) (n := n) (by simp)
  · go_wp2_with (first | (go_at_call 17; (with_reducible refine (St.call hs (HV.out _)).mono ?_); rintro en w2 ⟨rfl, h2⟩; obtain ⟨_, _, _, _, _, _, _⟩ := St.aff h2 (b := b0) (a := a) (b' := b) (c := c) (d := d) (e := e) (f := f) (n := n) (by simp); obtain ⟨_, _, _, _, _, _, _⟩ := St.aff h2 (b := b0 + 1) (a := 0) (b' := 0) (c := 0) (d := 0) (e := 0) (f := 0) (n := 0) (by simp); have _ : ∀ j, _ = false := h2.frozen (b := b0 + 1) (cs := #[.int .i64 0, .int .i64 0, .int .i64 0, .int .i64 0, .int .i64 0, .int .i64 0, .int .i64 0]) (t := 23) (by simp)))
    subst hb0; exact bodyPost_ret (v := av a b c d e f n) (by simp [results, Try.results21, go_sem, *]) rfl ⟨rfl, below_set7 h2.below (by omega) _ _ _ _ _ _ _⟩
  · go_wp2_with (first | (go_at_call 17; (with_reducible refine (St.call hs (HV.out _)).mono ?_); rintro en w2 ⟨rfl, h2⟩; obtain ⟨_, _, _, _, _, _, _⟩ := St.aff h2 (b := b0) (a := a) (b' := b) (c := c) (d := d) (e := e) (f := f) (n := n) (by simp)) | (go_at_call 47; (with_reducible refine (St.call h2 (HC.out (by first | rfl | trivial) _)).mono ?_); rintro en w3 ⟨rfl, h3⟩; obtain ⟨_, _, _, _, _, _, _⟩ := St.aff h3 (b := b0 + 1) (a := 0) (b' := 0) (c := 0) (d := 0) (e := 0) (f := 0) (n := 0) (by simp); have _ : ∀ j, _ = false := h3.frozen (b := b0 + 1) (cs := #[.int .i64 0, .int .i64 0, .int .i64 0, .int .i64 0, .int .i64 0, .int .i64 0, .int .i64 0]) (t := 23) (by simp)))
    subst hb0; exact bodyPost_ret (v := av ra rb rc rd re rf rn) (by simp [results, Try.results21, go_sem, *]) rfl ⟨rfl, below_set7 h3.below (by omega) _ _ _ _ _ _ _⟩
set_option maxHeartbeats 1000000 in
theorem lowIf_any (a b c d e f n : Int) (w : World) (h : LmA ⟨a, b, c, d, e, f, n⟩) (h0 : n ≠ 0) : Calls Try.prog 48 #[av a b c d e f n] w fun en w' => en = .returned (chk ⟨a, b, c, d, e, f, n⟩).v ∧ Below w.heap.size w w' := by
  obtain ⟨ra, rb, rc, rd, re, rf, rn, hlow⟩ : ∃ ra rb rc rd re rf rn, low ⟨a, b, c, d, e, f, n⟩ = ⟨ra, rb, rc, rd, re, rf, rn⟩ := ⟨_, _, _, _, _, _, _, rfl⟩
  unfold chk
  rw [hlow]
  have HC : Hid (∀ W, Calls Try.prog 46 #[av a b c d e f n] W fun en w' => en = .returned (av ra rb rc rd re rf rn) ∧ Below W.heap.size W w') := fun W => by
    have := lowest_any a b c d e f n W h h0; rw [hlow] at this; exact this
  have HV : Hid (∀ W, Calls Try.prog 16 #[av ra rb rc rd re rf rn] W fun en w' => en = .returned (.bool (okA ⟨ra, rb, rc, rd, re, rf, rn⟩)) ∧ Below W.heap.size W w') := fun W => valid_any ra rb rc rd re rf rn W
  clear hlow h h0
  generalize okA ⟨ra, rb, rc, rd, re, rf, rn⟩ = s at HV
  cases s
  all_goals
    go_enter Try.func48, Try.ntmps48
    go_upto_region 1 with fail
    have hs := ((St.start w).alloc (ao a b c d e f n)).alloc (ao 0 0 0 0 0 0 0)
    rw [World.size_alloc] at hs
    generalize hb0 : w.heap.size = b0 at hs ⊢
    generalize (w.alloc (ao a b c d e f n)).alloc (ao 0 0 0 0 0 0 0) = w1 at hs ⊢
    obtain ⟨_, _, _, _, _, _, _⟩ := St.aff hs (b := b0) (a := a) (b' := b) (c := c) (d := d) (e := e) (f := f) (n := n) (by simp)
    go_upto_region 2 with (first | (go_at_call 46; (with_reducible refine (St.call hs (HC.out _)).mono ?_); rintro en w2 ⟨rfl, h2⟩))
    have h4 := h2.alloc (ao ra rb rc rd re rf rn)
    generalize w2.heap.size = b1 at h4 ⊢
    generalize w2.alloc (ao ra rb rc rd re rf rn) = w4 at h4 ⊢
    obtain ⟨_, _, _, _, _, _, _⟩ := St.aff h4 (b := b1) (a := ra) (b' := rb) (c := rc) (d := rd) (e := re) (f := rf) (n := rn) (by simp)
    go_wp2_with (first | (go_at_call 16; (with_reducible refine (St.call h4 (HV.out _)).mono ?_); rintro en w5 ⟨rfl, h5⟩; obtain ⟨_, _, _, _, _, _, _⟩ := St.aff h5 (b := b1) (a := ra) (b' := rb) (c := rc) (d := rd) (e := re) (f := rf) (n := rn) (by simp); obtain ⟨_, _, _, _, _, _, _⟩ := St.aff h5 (b := b0 + 1) (a := 0) (b' := 0) (c := 0) (d := 0) (e := 0) (f := 0) (n := 0) (by simp); have _ : ∀ j, _ = false := h5.frozen (b := b0 + 1) (cs := #[.int .i64 0, .int .i64 0, .int .i64 0, .int .i64 0, .int .i64 0, .int .i64 0, .int .i64 0]) (t := 23) (by simp)))
  · subst hb0; exact bodyPost_ret (v := .tuple #[av 0 0 0 0 0 0 0, .int .i64 2]) (by simp [results, Try.results48, go_sem, *]) rfl ⟨rfl, below_set7 h5.below (by omega) _ _ _ _ _ _ _⟩
  · subst hb0; exact bodyPost_ret (v := .tuple #[av ra rb rc rd re rf rn, .int .i64 0]) (by simp [results, Try.results48, go_sem, *]) rfl ⟨rfl, below_set7 h5.below (by omega) _ _ _ _ _ _ _⟩
end Go.Proofs.Ytgipfcpkphmbpaa.F
