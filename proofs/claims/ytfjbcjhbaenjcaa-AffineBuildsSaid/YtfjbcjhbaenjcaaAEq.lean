/-
  Equal of affine and of the reference.
-/
import Derived.Test.YtfjbcjhbaenjcaaAIf
namespace Go.Proofs.Ytfjbcjhbaenjcaa.F
open Go.RowKit
set_option maxRecDepth 100000

def eqf (x y : Af) : Bool := decide (wrap64 (x.a * y.n) = wrap64 (y.a * x.n)) && decide (wrap64 (x.b * y.n) = wrap64 (y.b * x.n)) && decide (wrap64 (x.c * y.n) = wrap64 (y.c * x.n)) && decide (wrap64 (x.d * y.n) = wrap64 (y.d * x.n)) && decide (wrap64 (x.e * y.n) = wrap64 (y.e * x.n)) && decide (wrap64 (x.f * y.n) = wrap64 (y.f * x.n))
theorem same_any (u v n m : Int) (bp bq : Nat) (w : World) (hp : w.cell? ⟨bq, 6, none⟩ = some (.int .i64 n)) (hq : w.cell? ⟨bp, 6, none⟩ = some (.int .i64 m)) :
    Calls Try.prog 45 #[.int .i64 u, .int .i64 v, .pointer (some ⟨bq, 0, none⟩), .pointer (some ⟨bp, 0, none⟩)] w fun en w' => en = .returned (.bool (wrap64 (u * n) == wrap64 (v * m))) ∧ w = w' := by
  go_enter Try.func45, Try.ntmps45
  go_wp2
  go_ret
  exact ⟨rfl, rfl⟩
set_option maxHeartbeats 4000000 in
theorem equalA_any (p0 p1 p2 p3 p4 p5 p6 q0 q1 q2 q3 q4 q5 q6 : Int) (w : World) : Calls Try.prog 18 #[av p0 p1 p2 p3 p4 p5 p6, av q0 q1 q2 q3 q4 q5 q6] w fun en w' => en = .returned (.bool (eqf ⟨p0, p1, p2, p3, p4, p5, p6⟩ ⟨q0, q1, q2, q3, q4, q5, q6⟩)) ∧ Below w.heap.size w w' := by
  go_enter Try.func18, Try.ntmps18
  go_upto_region 1 with fail
  have hs := ((St.start w).alloc (ao p0 p1 p2 p3 p4 p5 p6)).alloc (ao q0 q1 q2 q3 q4 q5 q6)
  rw [World.size_alloc] at hs
  generalize hb0 : w.heap.size = b0 at hs ⊢
  generalize (w.alloc (ao p0 p1 p2 p3 p4 p5 p6)).alloc (ao q0 q1 q2 q3 q4 q5 q6) = w1 at hs ⊢
  obtain ⟨a0, a1, a2, a3, a4, a5, a6⟩ := St.aff hs (b := b0) (a := p0) (b' := p1) (c := p2) (d := p3) (e := p4) (f := p5) (n := p6) (by simp)
  obtain ⟨c0, c1, c2, c3, c4, c5, c6⟩ := St.aff hs (b := b0 + 1) (a := q0) (b' := q1) (c := q2) (d := q3) (e := q4) (f := q5) (n := q6) (by simp)
  go_wp2_with (first | (go_at_call 45; (refine (same_any _ _ _ _ _ _ _ c6 a6).mono ?_); rintro en w4 ⟨rfl, rfl⟩))
  all_goals go_ret
  all_goals (subst hb0; exact ⟨ret_bool (by first | (simp [eqf, *]; done) | (simp [eqf, *]; rw [Bool.eq_iff_iff]; simp)), hs.below⟩)
set_option maxHeartbeats 4000000 in
theorem refEqual_any (p0 p1 p2 p3 p4 p5 p6 q0 q1 q2 q3 q4 q5 q6 : Int) (w : World) : Calls Try.prog 19 #[av p0 p1 p2 p3 p4 p5 p6, av q0 q1 q2 q3 q4 q5 q6] w fun en w' => en = .returned (.bool (eqf ⟨p0, p1, p2, p3, p4, p5, p6⟩ ⟨q0, q1, q2, q3, q4, q5, q6⟩)) ∧ Below w.heap.size w w' := by
  go_enter Try.func19, Try.ntmps19
  go_upto_region 1 with fail
  have hs := ((St.start w).alloc (ao p0 p1 p2 p3 p4 p5 p6)).alloc (ao q0 q1 q2 q3 q4 q5 q6)
  rw [World.size_alloc] at hs
  generalize hb0 : w.heap.size = b0 at hs ⊢
  generalize (w.alloc (ao p0 p1 p2 p3 p4 p5 p6)).alloc (ao q0 q1 q2 q3 q4 q5 q6) = w1 at hs ⊢
  obtain ⟨a0, a1, a2, a3, a4, a5, a6⟩ := St.aff hs (b := b0) (a := p0) (b' := p1) (c := p2) (d := p3) (e := p4) (f := p5) (n := p6) (by simp)
  obtain ⟨c0, c1, c2, c3, c4, c5, c6⟩ := St.aff hs (b := b0 + 1) (a := q0) (b' := q1) (c := q2) (d := q3) (e := q4) (f := q5) (n := q6) (by simp)
  go_wp2
  all_goals go_ret
  all_goals (subst hb0; exact ⟨ret_bool (by first | (simp [eqf, *]; done) | (simp [eqf, *]; rw [Bool.eq_iff_iff]; simp)), hs.below⟩)
end Go.Proofs.Ytfjbcjhbaenjcaa.F
