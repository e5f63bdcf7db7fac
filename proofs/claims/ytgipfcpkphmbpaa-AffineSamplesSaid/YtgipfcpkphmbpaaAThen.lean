/-
  Composition: of affine.
-/
import Derived.Test.YtgipfcpkphmbpaaAIf
import Derived.Test.YtgipfcpkphmbpaaAWrap
namespace Go.Proofs.Ytgipfcpkphmbpaa.F
open Go.RowKit
set_option maxRecDepth 100000

def thn (x y : Af) : Got := if (okA x && okA y) = true then chk (cmp x y) else ⟨zA, 1⟩
def ivt (x : Af) : Got := if okA x = true then chk (inv x) else ⟨zA, 1⟩
theorem far_lm {x : Af} (h : Far x) : LmA x := fun v hv => by have := h v hv; unfold Lm; omega
theorem far_eq {x : Af} (h : Far x) : (⟨wrap64 x.a, wrap64 x.b, wrap64 x.c, wrap64 x.d, wrap64 x.e, wrap64 x.f, wrap64 x.n⟩ : Af) = x := by
  rw [far_w h (v := x.a) (by simp [Af.l]), far_w h (v := x.b) (by simp [Af.l]), far_w h (v := x.c) (by simp [Af.l]), far_w h (v := x.d) (by simp [Af.l]), far_w h (v := x.e) (by simp [Af.l]), far_w h (v := x.f) (by simp [Af.l]), far_w h (v := x.n) (by simp [Af.l])]
set_option maxHeartbeats 4000000 in
theorem then_any (p0 p1 p2 p3 p4 p5 p6 q0 q1 q2 q3 q4 q5 q6 : Int) (w : World) : Calls Try.prog 25 #[av p0 p1 p2 p3 p4 p5 p6, av q0 q1 q2 q3 q4 q5 q6] w fun en w' => en = .returned (thn ⟨p0, p1, p2, p3, p4, p5, p6⟩ ⟨q0, q1, q2, q3, q4, q5, q6⟩).v ∧ Below w.heap.size w w' := by
  have HV : Hid (∀ W, Calls Try.prog 16 #[av p0 p1 p2 p3 p4 p5 p6] W fun en w' => en = .returned ((.bool (okA ⟨p0, p1, p2, p3, p4, p5, p6⟩))) ∧ Below W.heap.size W w') := fun W => valid_any p0 p1 p2 p3 p4 p5 p6 W
  have HU : Hid (∀ W, Calls Try.prog 16 #[av q0 q1 q2 q3 q4 q5 q6] W fun en w' => en = .returned ((.bool (okA ⟨q0, q1, q2, q3, q4, q5, q6⟩))) ∧ Below W.heap.size W w') := fun W => valid_any q0 q1 q2 q3 q4 q5 q6 W
  have HC : Hid (okA ⟨p0, p1, p2, p3, p4, p5, p6⟩ = true → okA ⟨q0, q1, q2, q3, q4, q5, q6⟩ = true → ∀ x0 x1 x2 x3 x4 x5 x6 W, (⟨x0, x1, x2, x3, x4, x5, x6⟩ : Af) = cmp ⟨p0, p1, p2, p3, p4, p5, p6⟩ ⟨q0, q1, q2, q3, q4, q5, q6⟩ → Calls Try.prog 48 #[av x0 x1 x2 x3 x4 x5 x6] W fun en w' => en = .returned (chk (cmp ⟨p0, p1, p2, p3, p4, p5, p6⟩ ⟨q0, q1, q2, q3, q4, q5, q6⟩)).v ∧ Below W.heap.size W w') := fun h1 h2 x0 x1 x2 x3 x4 x5 x6 W he => by
    have k1 := (okA_iff _).1 h1; have k2 := (okA_iff _).1 h2
    have k3 := cmp_far k1.1 k2.1
    have k4 := cmp_n k1.1.1.1 k2.1.1.1
    rw [← he] at k3 k4 ⊢
    exact lowIf_any x0 x1 x2 x3 x4 x5 x6 W (far_lm k3) (by have : 1 ≤ x6 := k4; omega)
  have HE : Hid (okA ⟨p0, p1, p2, p3, p4, p5, p6⟩ = true → okA ⟨q0, q1, q2, q3, q4, q5, q6⟩ = true → (⟨wrap64 (cmp ⟨p0, p1, p2, p3, p4, p5, p6⟩ ⟨q0, q1, q2, q3, q4, q5, q6⟩).a, wrap64 (cmp ⟨p0, p1, p2, p3, p4, p5, p6⟩ ⟨q0, q1, q2, q3, q4, q5, q6⟩).b, wrap64 (cmp ⟨p0, p1, p2, p3, p4, p5, p6⟩ ⟨q0, q1, q2, q3, q4, q5, q6⟩).c, wrap64 (cmp ⟨p0, p1, p2, p3, p4, p5, p6⟩ ⟨q0, q1, q2, q3, q4, q5, q6⟩).d, wrap64 (cmp ⟨p0, p1, p2, p3, p4, p5, p6⟩ ⟨q0, q1, q2, q3, q4, q5, q6⟩).e, wrap64 (cmp ⟨p0, p1, p2, p3, p4, p5, p6⟩ ⟨q0, q1, q2, q3, q4, q5, q6⟩).f, wrap64 (cmp ⟨p0, p1, p2, p3, p4, p5, p6⟩ ⟨q0, q1, q2, q3, q4, q5, q6⟩).n⟩ : Af) = cmp ⟨p0, p1, p2, p3, p4, p5, p6⟩ ⟨q0, q1, q2, q3, q4, q5, q6⟩) := fun h1 h2 =>
    far_eq (cmp_far ((okA_iff _).1 h1).1 ((okA_iff _).1 h2).1)
  unfold thn
  obtain ⟨k0, k1, k2, k3, k4, k5, k6, k7, hk⟩ : ∃ k0 k1 k2 k3 k4 k5 k6 k7, chk (cmp ⟨p0, p1, p2, p3, p4, p5, p6⟩ ⟨q0, q1, q2, q3, q4, q5, q6⟩) = ⟨⟨k0, k1, k2, k3, k4, k5, k6⟩, k7⟩ := ⟨_, _, _, _, _, _, _, _, rfl⟩
  rw [hk] at HC ⊢
  clear hk
  generalize hs1 : okA ⟨p0, p1, p2, p3, p4, p5, p6⟩ = s1 at HV HC HE ⊢
  generalize hs2 : okA ⟨q0, q1, q2, q3, q4, q5, q6⟩ = s2 at HU HC HE ⊢
  clear hs1 hs2
  cases s1
  · go_enter Try.func25, Try.ntmps25
    go_upto_region 1 with fail
    have hs := (((St.start w).alloc (ao p0 p1 p2 p3 p4 p5 p6)).alloc (ao q0 q1 q2 q3 q4 q5 q6)).alloc (ao 0 0 0 0 0 0 0)
    simp only [World.size_alloc] at hs
    generalize hb0 : w.heap.size = b0 at hs ⊢
    generalize ((w.alloc (ao p0 p1 p2 p3 p4 p5 p6)).alloc (ao q0 q1 q2 q3 q4 q5 q6)).alloc (ao 0 0 0 0 0 0 0) = w1 at hs ⊢
    obtain ⟨_, _, _, _, _, _, _⟩ := St.aff hs (b := b0) (a := p0) (b' := p1) (c := p2) (d := p3) (e := p4) (f := p5) (n := p6) (by simp)
    go_wp2_with (first | (go_at_call 16; (with_reducible refine (St.call hs (HV.out _)).mono ?_); rintro en w2 ⟨rfl, h2⟩; obtain ⟨_, _, _, _, _, _, _⟩ := St.aff h2 (b := b0 + 1 + 1) (a := 0) (b' := 0) (c := 0) (d := 0) (e := 0) (f := 0) (n := 0) (by simp); have _ : ∀ j, _ = false := h2.frozen (b := b0 + 1 + 1) (cs := #[.int .i64 0, .int .i64 0, .int .i64 0, .int .i64 0, .int .i64 0, .int .i64 0, .int .i64 0]) (t := 23) (by simp)))
    subst hb0; exact bodyPost_ret (v := .tuple #[av 0 0 0 0 0 0 0, .int .i64 1]) (by simp [results, Try.results25, go_sem, *]) rfl ⟨rfl, below_set7 h2.below (by omega) _ _ _ _ _ _ _⟩
  cases s2
  · go_enter Try.func25, Try.ntmps25
    go_upto_region 1 with fail
    have hs := (((St.start w).alloc (ao p0 p1 p2 p3 p4 p5 p6)).alloc (ao q0 q1 q2 q3 q4 q5 q6)).alloc (ao 0 0 0 0 0 0 0)
    simp only [World.size_alloc] at hs
    generalize hb0 : w.heap.size = b0 at hs ⊢
    generalize ((w.alloc (ao p0 p1 p2 p3 p4 p5 p6)).alloc (ao q0 q1 q2 q3 q4 q5 q6)).alloc (ao 0 0 0 0 0 0 0) = w1 at hs ⊢
    obtain ⟨_, _, _, _, _, _, _⟩ := St.aff hs (b := b0) (a := p0) (b' := p1) (c := p2) (d := p3) (e := p4) (f := p5) (n := p6) (by simp)
    go_wp2_with (first | (go_at_call 16; (with_reducible refine (St.call hs (HV.out _)).mono ?_); rintro en w2 ⟨rfl, h2⟩; obtain ⟨_, _, _, _, _, _, _⟩ := St.aff h2 (b := b0 + 1) (a := q0) (b' := q1) (c := q2) (d := q3) (e := q4) (f := q5) (n := q6) (by simp)) | (go_at_call 16; (with_reducible refine (St.call h2 (HU.out _)).mono ?_); rintro en w3 ⟨rfl, h3⟩; obtain ⟨_, _, _, _, _, _, _⟩ := St.aff h3 (b := b0 + 1 + 1) (a := 0) (b' := 0) (c := 0) (d := 0) (e := 0) (f := 0) (n := 0) (by simp); have _ : ∀ j, _ = false := h3.frozen (b := b0 + 1 + 1) (cs := #[.int .i64 0, .int .i64 0, .int .i64 0, .int .i64 0, .int .i64 0, .int .i64 0, .int .i64 0]) (t := 23) (by simp)))
    subst hb0; exact bodyPost_ret (v := .tuple #[av 0 0 0 0 0 0 0, .int .i64 1]) (by simp [results, Try.results25, go_sem, *]) rfl ⟨rfl, below_set7 h3.below (by omega) _ _ _ _ _ _ _⟩
  have HC2 := Lib.hid (HC.out rfl rfl)
  have HE2 := Lib.hid (HE.out rfl rfl)
  clear HC HE
  go_enter Try.func25, Try.ntmps25
  go_upto_region 1 with fail
  have hs := (((St.start w).alloc (ao p0 p1 p2 p3 p4 p5 p6)).alloc (ao q0 q1 q2 q3 q4 q5 q6)).alloc (ao 0 0 0 0 0 0 0)
  simp only [World.size_alloc] at hs
  generalize hb0 : w.heap.size = b0 at hs ⊢
  generalize ((w.alloc (ao p0 p1 p2 p3 p4 p5 p6)).alloc (ao q0 q1 q2 q3 q4 q5 q6)).alloc (ao 0 0 0 0 0 0 0) = w1 at hs ⊢
  obtain ⟨_, _, _, _, _, _, _⟩ := St.aff hs (b := b0) (a := p0) (b' := p1) (c := p2) (d := p3) (e := p4) (f := p5) (n := p6) (by simp)
  go_wp2_with (first | (go_at_call 16; (with_reducible refine (St.call hs (HV.out _)).mono ?_); rintro en w2 ⟨rfl, h2⟩; obtain ⟨_, _, _, _, _, _, _⟩ := St.aff h2 (b := b0 + 1) (a := q0) (b' := q1) (c := q2) (d := q3) (e := q4) (f := q5) (n := q6) (by simp)) | (go_at_call 16; (with_reducible refine (St.call h2 (HU.out _)).mono ?_); rintro en w3 ⟨rfl, h3⟩; obtain ⟨_, _, _, _, _, _, _⟩ := St.aff h3 (b := b0) (a := p0) (b' := p1) (c := p2) (d := p3) (e := p4) (f := p5) (n := p6) (by simp); obtain ⟨_, _, _, _, _, _, _⟩ := St.aff h3 (b := b0 + 1) (a := q0) (b' := q1) (c := q2) (d := q3) (e := q4) (f := q5) (n := q6) (by simp)) | (go_at_call 48; (with_reducible refine (St.call h3 (HC2.out _ _ _ _ _ _ _ _ ?_)).mono ?_); (focus (simp only [wal, war]; exact HE2.out)); rintro en w4 ⟨rfl, h4⟩; obtain ⟨_, _, _, _, _, _, _⟩ := St.aff h4 (b := b0 + 1 + 1) (a := 0) (b' := 0) (c := 0) (d := 0) (e := 0) (f := 0) (n := 0) (by simp); have _ : ∀ j, _ = false := h4.frozen (b := b0 + 1 + 1) (cs := #[.int .i64 0, .int .i64 0, .int .i64 0, .int .i64 0, .int .i64 0, .int .i64 0, .int .i64 0]) (t := 23) (by simp)))
  subst hb0; exact bodyPost_ret (v := .tuple #[av k0 k1 k2 k3 k4 k5 k6, .int .i64 k7]) (by simp [results, Try.results25, go_sem, *]) rfl ⟨rfl, below_set7 h4.below (by omega) _ _ _ _ _ _ _⟩
end Go.Proofs.Ytgipfcpkphmbpaa.F
