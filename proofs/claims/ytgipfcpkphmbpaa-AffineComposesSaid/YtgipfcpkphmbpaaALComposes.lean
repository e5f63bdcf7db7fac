/-
  AffineComposes: for all placements, Then and Inverse return what the reference returns. No conditions.
-/
import Derived.Laws.Tables
import Derived.Test.YtgipfcpkphmbpaaAOpen
import Derived.Test.YtgipfcpkphmbpaaARThen
import Derived.Test.YtgipfcpkphmbpaaARInv
namespace Go.Proofs.Ytgipfcpkphmbpaa.F.ALComposes
open Go.ChangeShapes Go.WideShapes Go.ChangeAt Go.RowKit
set_option maxRecDepth 100000

def z56 : Array Value := (.int .i64 0 :: .int .i64 0 :: .int .i64 0 :: .int .i64 0 :: .int .i64 0 :: .int .i64 0 :: .int .i64 0 :: .int .i64 0 :: .int .i64 0 :: .int .i64 0 :: .int .i64 0 :: .int .i64 0 :: .int .i64 0 :: .int .i64 0 :: .int .i64 0 :: .int .i64 0 :: .int .i64 0 :: .int .i64 0 :: .int .i64 0 :: .int .i64 0 :: .int .i64 0 :: .int .i64 0 :: .int .i64 0 :: .int .i64 0 :: .int .i64 0 :: .int .i64 0 :: .int .i64 0 :: .int .i64 0 :: .int .i64 0 :: .int .i64 0 :: .int .i64 0 :: .int .i64 0 :: .int .i64 0 :: .int .i64 0 :: .int .i64 0 :: .int .i64 0 :: .int .i64 0 :: .int .i64 0 :: .int .i64 0 :: .int .i64 0 :: .int .i64 0 :: .int .i64 0 :: .int .i64 0 :: .int .i64 0 :: .int .i64 0 :: .int .i64 0 :: .int .i64 0 :: .int .i64 0 :: .int .i64 0 :: .int .i64 0 :: .int .i64 0 :: .int .i64 0 :: .int .i64 0 :: .int .i64 0 :: .int .i64 0 :: .int .i64 0 :: [] : List Value).toArray
def big (p0 p1 p2 p3 p4 p5 p6 r0 r1 r2 r3 r4 r5 r6 s0 s1 s2 s3 s4 s5 s6 t0 t1 t2 t3 t4 t5 t6 : Int) : Array Value := (.int .i64 p0 :: .int .i64 p1 :: .int .i64 p2 :: .int .i64 p3 :: .int .i64 p4 :: .int .i64 p5 :: .int .i64 p6 :: .int .i64 r0 :: .int .i64 r1 :: .int .i64 r2 :: .int .i64 r3 :: .int .i64 r4 :: .int .i64 r5 :: .int .i64 r6 :: .int .i64 s0 :: .int .i64 s1 :: .int .i64 s2 :: .int .i64 s3 :: .int .i64 s4 :: .int .i64 s5 :: .int .i64 s6 :: .int .i64 t0 :: .int .i64 t1 :: .int .i64 t2 :: .int .i64 t3 :: .int .i64 t4 :: .int .i64 t5 :: .int .i64 t6 :: .int .i64 p0 :: .int .i64 p1 :: .int .i64 p2 :: .int .i64 p3 :: .int .i64 p4 :: .int .i64 p5 :: .int .i64 p6 :: .int .i64 s0 :: .int .i64 s1 :: .int .i64 s2 :: .int .i64 s3 :: .int .i64 s4 :: .int .i64 s5 :: .int .i64 s6 :: .int .i64 t0 :: .int .i64 t1 :: .int .i64 t2 :: .int .i64 t3 :: .int .i64 t4 :: .int .i64 t5 :: .int .i64 t6 :: .int .i64 t0 :: .int .i64 t1 :: .int .i64 t2 :: .int .i64 t3 :: .int .i64 t4 :: .int .i64 t5 :: .int .i64 t6 :: [] : List Value).toArray
def pr (x0 x1 x2 x3 x4 x5 x6 x7 x8 x9 x10 x11 x12 x13 : Int) : Array Value := #[.int .i64 x0, .int .i64 x1, .int .i64 x2, .int .i64 x3, .int .i64 x4, .int .i64 x5, .int .i64 x6, .int .i64 x7, .int .i64 x8, .int .i64 x9, .int .i64 x10, .int .i64 x11, .int .i64 x12, .int .i64 x13]
theorem zero_a42 (w : World) : (zeroValue 38).run Try.prog w = .ok (.agg z56) w := by kernel_rfl
theorem store_big (p0 p1 p2 p3 p4 p5 p6 r0 r1 r2 r3 r4 r5 r6 s0 s1 s2 s3 s4 s5 s6 t0 t1 t2 t3 t4 t5 t6 : Int) (b : Nat) (w : World) (h : w.heap[b]? = some (.cells z56 38)) : (Instr.storeAt 38 (.pointer (some ⟨b, 0, none⟩)) (.agg (big p0 p1 p2 p3 p4 p5 p6 r0 r1 r2 r3 r4 r5 r6 s0 s1 s2 s3 s4 s5 s6 t0 t1 t2 t3 t4 t5 t6))).run Try.prog w = .ok () (w.setRow b (big p0 p1 p2 p3 p4 p5 p6 r0 r1 r2 r3 r4 r5 r6 s0 s1 s2 s3 s4 s5 s6 t0 t1 t2 t3 t4 t5 t6)) := by
  have hz : (big p0 p1 p2 p3 p4 p5 p6 r0 r1 r2 r3 r4 r5 r6 s0 s1 s2 s3 s4 s5 s6 t0 t1 t2 t3 t4 t5 t6).all (·.oneCell') = true := by kernel_rfl
  have hs : z56.size = (big p0 p1 p2 p3 p4 p5 p6 r0 r1 r2 r3 r4 r5 r6 s0 s1 s2 s3 s4 s5 s6 t0 t1 t2 t3 t4 t5 t6).size := by kernel_rfl
  have hn := run_storeVar_row (P := Try.prog) w b 38 38 z56 (big p0 p1 p2 p3 p4 p5 p6 r0 r1 r2 r3 r4 r5 r6 s0 s1 s2 s3 s4 s5 s6 t0 t1 t2 t3 t4 t5 t6) h (by kernel_rfl) hs hz
  simp only [Instr.storeAt, Instr.sureAddr, Sem.run_bind, Sem.run_pure, Result.andThen_ok, hn]
theorem wpList_alloc_of {P : Program} {ops : Array Oper} {rest : List Oper} {o : Oper} {a : Act} {Q : Exit → Act → World → Prop} {w : World} (hg : o.guard = none) (t : TypeId) (ho : o.op = .alloc t) (cs : Array Value) (hz : (zeroValue t).run P w = .ok (.agg cs) w)
    (h : wpList P ops Q rest (a.put o.dst (.pointer (some ⟨w.heap.size, 0, none⟩))) (w.alloc (.cells cs t))) : wpList P ops Q (o :: rest) a w :=
  wpList_plain hg fun _ hK => by
    have hn : (newVar t (.agg cs)).run P w = .ok ⟨w.heap.size, 0, none⟩ (w.alloc (.cells cs t)) := rfl
    unfold Oper.wp execOp
    simp only [ho, Instr.alloc, Sem.run_bind, hz, hn, Result.andThen_ok, Sem.run_pure]
    exact hK _ _ h
theorem b2 (x0 x1 x2 x3 x4 x5 x6 x7 x8 x9 x10 x11 x12 x13 : Int) (w : World) : (Instr.build 37 #[(0, av x0 x1 x2 x3 x4 x5 x6), (1, av x7 x8 x9 x10 x11 x12 x13)]).run Try.prog w = .ok (.agg (pr x0 x1 x2 x3 x4 x5 x6 x7 x8 x9 x10 x11 x12 x13)) w := run_build w 37 _ _ (by kernel_rfl)
theorem b4 (p0 p1 p2 p3 p4 p5 p6 r0 r1 r2 r3 r4 r5 r6 s0 s1 s2 s3 s4 s5 s6 t0 t1 t2 t3 t4 t5 t6 : Int) (w : World) : (Instr.build 38 #[(0, .agg (pr p0 p1 p2 p3 p4 p5 p6 r0 r1 r2 r3 r4 r5 r6)), (1, .agg (pr s0 s1 s2 s3 s4 s5 s6 t0 t1 t2 t3 t4 t5 t6)), (2, .agg (pr p0 p1 p2 p3 p4 p5 p6 s0 s1 s2 s3 s4 s5 s6)), (3, .agg (pr t0 t1 t2 t3 t4 t5 t6 t0 t1 t2 t3 t4 t5 t6))]).run Try.prog w = .ok (.agg (big p0 p1 p2 p3 p4 p5 p6 r0 r1 r2 r3 r4 r5 r6 s0 s1 s2 s3 s4 s5 s6 t0 t1 t2 t3 t4 t5 t6)) w := run_build w 38 _ _ (by kernel_rfl)
theorem wpList_store_of {P : Program} {ops : Array Oper} {rest : List Oper} {o : Oper} {a : Act} {Q : Exit → Act → World → Prop} {w w' : World} (hg : o.guard = none) (ty : TypeId) (x y : Operand) (ho : o.op = .store ty x y)
    (hl : (Instr.storeAt ty (a.eval x) (a.eval y)).run P w = .ok () w') (h : wpList P ops Q rest (a.put o.dst undef) w') : wpList P ops Q (o :: rest) a w :=
  wpList_plain hg fun _ hK => by
    unfold Oper.wp execOp
    simp only [ho, Sem.run_bind, hl, Result.andThen_ok, Sem.run_pure]
    exact hK _ _ h
theorem wpList_build2 {P : Program} {ops : Array Oper} {rest : List Oper} {o : Oper} {a : Act} {Q : Exit → Act → World → Prop} {w : World} (hg : o.guard = none) (t : TypeId) (x y : Operand) (ho : o.op = .build t #[(0, x), (1, y)]) (v x' y' : Value) (hx : a.eval x = x') (hy : a.eval y = y')
    (hl : (Instr.build t #[(0, x'), (1, y')]).run P w = .ok v w) (h : wpList P ops Q rest (a.put o.dst v) w) : wpList P ops Q (o :: rest) a w :=
  wpList_plain hg fun _ hK => by
    unfold Oper.wp execOp
    have hl' : (Instr.build t ((#[(0, x), (1, y)] : Array (Nat × Operand)).map fun (i, x) => (i, a.eval x))).run P w = .ok v w := by subst hx hy; simpa using hl
    simp only [ho, Sem.run_bind, hl', Result.andThen_ok, Sem.run_pure]
    exact hK _ _ h
theorem wpList_build4 {P : Program} {ops : Array Oper} {rest : List Oper} {o : Oper} {a : Act} {Q : Exit → Act → World → Prop} {w : World} (hg : o.guard = none) (t : TypeId) (x y z u : Operand) (ho : o.op = .build t #[(0, x), (1, y), (2, z), (3, u)]) (v x' y' z' u' : Value) (hx : a.eval x = x') (hy : a.eval y = y') (hz : a.eval z = z') (hu : a.eval u = u')
    (hl : (Instr.build t #[(0, x'), (1, y'), (2, z'), (3, u')]).run P w = .ok v w) (h : wpList P ops Q rest (a.put o.dst v) w) : wpList P ops Q (o :: rest) a w :=
  wpList_plain hg fun _ hK => by
    unfold Oper.wp execOp
    have hl' : (Instr.build t ((#[(0, x), (1, y), (2, z), (3, u)] : Array (Nat × Operand)).map fun (i, x) => (i, a.eval x))).run P w = .ok v w := by subst hx hy hz hu; simpa using hl
    simp only [ho, Sem.run_bind, hl', Result.andThen_ok, Sem.run_pure]
    exact hK _ _ h
theorem zero_got (w : World) : (zeroValue 44).run Try.prog w = .ok (gv 0 0 0 0 0 0 0 0) w := by kernel_rfl

set_option maxHeartbeats 8000000 in
set_option maxRecDepth 100000 in
theorem walk (p0 p1 p2 p3 p4 p5 p6 r0 r1 r2 r3 r4 r5 r6 q0 q1 q2 q3 q4 q5 q6 q7 q8 q9 q10 q11 q12 q13 : Int) (w : World) : Calls Try.prog 4 #[.agg #[.int .i64 p0, .int .i64 p1, .int .i64 p2, .int .i64 p3, .int .i64 p4, .int .i64 p5, .int .i64 p6], .agg #[.int .i64 r0, .int .i64 r1, .int .i64 r2, .int .i64 r3, .int .i64 r4, .int .i64 r5, .int .i64 r6], .agg #[.int .i64 q0, .int .i64 q1, .int .i64 q2, .int .i64 q3, .int .i64 q4, .int .i64 q5, .int .i64 q6, .int .i64 q7, .int .i64 q8, .int .i64 q9, .int .i64 q10, .int .i64 q11, .int .i64 q12, .int .i64 q13]] w fun en w' => en = .returned (.bool true) ∧ Below w.heap.size w w' := by
  obtain ⟨s0, s1, s2, s3, s4, s5, s6, hsm⟩ : ∃ s0 s1 s2 s3 s4 s5 s6, sm7 q0 q1 q2 q3 q4 q5 q6 = ⟨s0, s1, s2, s3, s4, s5, s6⟩ := ⟨_, _, _, _, _, _, _, rfl⟩
  have hsl := sm7_sl q0 q1 q2 q3 q4 q5 q6
  rw [hsm] at hsl
  have HSM : Hid (∀ W, Calls Try.prog 14 #[.agg #[.int .i64 q0, .int .i64 q1, .int .i64 q2, .int .i64 q3, .int .i64 q4, .int .i64 q5, .int .i64 q6]] W fun en w' => en = .returned (av s0 s1 s2 s3 s4 s5 s6) ∧ Below W.heap.size W w') := fun W => by
    have := sm7_any q0 q1 q2 q3 q4 q5 q6 W; rw [hsm] at this; exact this
  clear hsm
  obtain ⟨t0, t1, t2, t3, t4, t5, t6, hsm⟩ : ∃ t0 t1 t2 t3 t4 t5 t6, sm7 q7 q8 q9 q10 q11 q12 q13 = ⟨t0, t1, t2, t3, t4, t5, t6⟩ := ⟨_, _, _, _, _, _, _, rfl⟩
  have hsk := sm7_sl q7 q8 q9 q10 q11 q12 q13
  rw [hsm] at hsk
  have HSN : Hid (∀ W, Calls Try.prog 14 #[.agg #[.int .i64 q7, .int .i64 q8, .int .i64 q9, .int .i64 q10, .int .i64 q11, .int .i64 q12, .int .i64 q13]] W fun en w' => en = .returned (av t0 t1 t2 t3 t4 t5 t6) ∧ Below W.heap.size W w') := fun W => by
    have := sm7_any q7 q8 q9 q10 q11 q12 q13 W; rw [hsm] at this; exact this
  clear hsm
  clear hsl hsk
  go_enter Try.func4, Try.ntmps4
  go_upto_region 1 with fail
  have h0 := ((((St.start w).alloc (ao p0 p1 p2 p3 p4 p5 p6)).alloc (ao r0 r1 r2 r3 r4 r5 r6)).alloc ((.cells #[.int .i64 q0, .int .i64 q1, .int .i64 q2, .int .i64 q3, .int .i64 q4, .int .i64 q5, .int .i64 q6, .int .i64 q7, .int .i64 q8, .int .i64 q9, .int .i64 q10, .int .i64 q11, .int .i64 q12, .int .i64 q13] 27 : Obj)))
  try simp only [World.size_alloc] at h0
  generalize hb0 : w.heap.size = b0 at h0 ⊢
  generalize ((w.alloc (ao p0 p1 p2 p3 p4 p5 p6)).alloc (ao r0 r1 r2 r3 r4 r5 r6)).alloc ((.cells #[.int .i64 q0, .int .i64 q1, .int .i64 q2, .int .i64 q3, .int .i64 q4, .int .i64 q5, .int .i64 q6, .int .i64 q7, .int .i64 q8, .int .i64 q9, .int .i64 q10, .int .i64 q11, .int .i64 q12, .int .i64 q13] 27 : Obj)) = w0 at h0 ⊢
  go_upto_region 2 with (first | (go_at_call 13; (with_reducible refine (St.call h0 (sane_any _)).mono ?_); rintro en w1 ⟨rfl, h1⟩))
  have zh10 := St.cell h1 (b := b0 + 1 + 1) (cs := #[.int .i64 q0, .int .i64 q1, .int .i64 q2, .int .i64 q3, .int .i64 q4, .int .i64 q5, .int .i64 q6, .int .i64 q7, .int .i64 q8, .int .i64 q9, .int .i64 q10, .int .i64 q11, .int .i64 q12, .int .i64 q13]) (t := 27) (by simp) 0; have zh11 := St.cell h1 (b := b0 + 1 + 1) (cs := #[.int .i64 q0, .int .i64 q1, .int .i64 q2, .int .i64 q3, .int .i64 q4, .int .i64 q5, .int .i64 q6, .int .i64 q7, .int .i64 q8, .int .i64 q9, .int .i64 q10, .int .i64 q11, .int .i64 q12, .int .i64 q13]) (t := 27) (by simp) 1; have zh12 := St.cell h1 (b := b0 + 1 + 1) (cs := #[.int .i64 q0, .int .i64 q1, .int .i64 q2, .int .i64 q3, .int .i64 q4, .int .i64 q5, .int .i64 q6, .int .i64 q7, .int .i64 q8, .int .i64 q9, .int .i64 q10, .int .i64 q11, .int .i64 q12, .int .i64 q13]) (t := 27) (by simp) 2; have zh13 := St.cell h1 (b := b0 + 1 + 1) (cs := #[.int .i64 q0, .int .i64 q1, .int .i64 q2, .int .i64 q3, .int .i64 q4, .int .i64 q5, .int .i64 q6, .int .i64 q7, .int .i64 q8, .int .i64 q9, .int .i64 q10, .int .i64 q11, .int .i64 q12, .int .i64 q13]) (t := 27) (by simp) 3; have zh14 := St.cell h1 (b := b0 + 1 + 1) (cs := #[.int .i64 q0, .int .i64 q1, .int .i64 q2, .int .i64 q3, .int .i64 q4, .int .i64 q5, .int .i64 q6, .int .i64 q7, .int .i64 q8, .int .i64 q9, .int .i64 q10, .int .i64 q11, .int .i64 q12, .int .i64 q13]) (t := 27) (by simp) 4; have zh15 := St.cell h1 (b := b0 + 1 + 1) (cs := #[.int .i64 q0, .int .i64 q1, .int .i64 q2, .int .i64 q3, .int .i64 q4, .int .i64 q5, .int .i64 q6, .int .i64 q7, .int .i64 q8, .int .i64 q9, .int .i64 q10, .int .i64 q11, .int .i64 q12, .int .i64 q13]) (t := 27) (by simp) 5; have zh16 := St.cell h1 (b := b0 + 1 + 1) (cs := #[.int .i64 q0, .int .i64 q1, .int .i64 q2, .int .i64 q3, .int .i64 q4, .int .i64 q5, .int .i64 q6, .int .i64 q7, .int .i64 q8, .int .i64 q9, .int .i64 q10, .int .i64 q11, .int .i64 q12, .int .i64 q13]) (t := 27) (by simp) 6; have zh17 := St.cell h1 (b := b0 + 1 + 1) (cs := #[.int .i64 q0, .int .i64 q1, .int .i64 q2, .int .i64 q3, .int .i64 q4, .int .i64 q5, .int .i64 q6, .int .i64 q7, .int .i64 q8, .int .i64 q9, .int .i64 q10, .int .i64 q11, .int .i64 q12, .int .i64 q13]) (t := 27) (by simp) 7; have zh18 := St.cell h1 (b := b0 + 1 + 1) (cs := #[.int .i64 q0, .int .i64 q1, .int .i64 q2, .int .i64 q3, .int .i64 q4, .int .i64 q5, .int .i64 q6, .int .i64 q7, .int .i64 q8, .int .i64 q9, .int .i64 q10, .int .i64 q11, .int .i64 q12, .int .i64 q13]) (t := 27) (by simp) 8; have zh19 := St.cell h1 (b := b0 + 1 + 1) (cs := #[.int .i64 q0, .int .i64 q1, .int .i64 q2, .int .i64 q3, .int .i64 q4, .int .i64 q5, .int .i64 q6, .int .i64 q7, .int .i64 q8, .int .i64 q9, .int .i64 q10, .int .i64 q11, .int .i64 q12, .int .i64 q13]) (t := 27) (by simp) 9; have zh110 := St.cell h1 (b := b0 + 1 + 1) (cs := #[.int .i64 q0, .int .i64 q1, .int .i64 q2, .int .i64 q3, .int .i64 q4, .int .i64 q5, .int .i64 q6, .int .i64 q7, .int .i64 q8, .int .i64 q9, .int .i64 q10, .int .i64 q11, .int .i64 q12, .int .i64 q13]) (t := 27) (by simp) 10; have zh111 := St.cell h1 (b := b0 + 1 + 1) (cs := #[.int .i64 q0, .int .i64 q1, .int .i64 q2, .int .i64 q3, .int .i64 q4, .int .i64 q5, .int .i64 q6, .int .i64 q7, .int .i64 q8, .int .i64 q9, .int .i64 q10, .int .i64 q11, .int .i64 q12, .int .i64 q13]) (t := 27) (by simp) 11; have zh112 := St.cell h1 (b := b0 + 1 + 1) (cs := #[.int .i64 q0, .int .i64 q1, .int .i64 q2, .int .i64 q3, .int .i64 q4, .int .i64 q5, .int .i64 q6, .int .i64 q7, .int .i64 q8, .int .i64 q9, .int .i64 q10, .int .i64 q11, .int .i64 q12, .int .i64 q13]) (t := 27) (by simp) 12; have zh113 := St.cell h1 (b := b0 + 1 + 1) (cs := #[.int .i64 q0, .int .i64 q1, .int .i64 q2, .int .i64 q3, .int .i64 q4, .int .i64 q5, .int .i64 q6, .int .i64 q7, .int .i64 q8, .int .i64 q9, .int .i64 q10, .int .i64 q11, .int .i64 q12, .int .i64 q13]) (t := 27) (by simp) 13; simp only [List.getElem?_toArray, List.getElem?_cons_zero, List.getElem?_cons_succ] at zh10 zh11 zh12 zh13 zh14 zh15 zh16 zh17 zh18 zh19 zh110 zh111 zh112 zh113
  go_upto_region 3 with (first | (go_at_call 14; (with_reducible refine (St.call h1 (HSM.out _)).mono ?_); rintro en w2 ⟨rfl, h2⟩))
  have h3 := h2.alloc (ao s0 s1 s2 s3 s4 s5 s6)
  generalize w2.heap.size = c1 at h3 ⊢
  generalize w2.alloc (ao s0 s1 s2 s3 s4 s5 s6) = w3 at h3 ⊢
  have zh30 := St.cell h3 (b := b0 + 1 + 1) (cs := #[.int .i64 q0, .int .i64 q1, .int .i64 q2, .int .i64 q3, .int .i64 q4, .int .i64 q5, .int .i64 q6, .int .i64 q7, .int .i64 q8, .int .i64 q9, .int .i64 q10, .int .i64 q11, .int .i64 q12, .int .i64 q13]) (t := 27) (by simp) 0; have zh31 := St.cell h3 (b := b0 + 1 + 1) (cs := #[.int .i64 q0, .int .i64 q1, .int .i64 q2, .int .i64 q3, .int .i64 q4, .int .i64 q5, .int .i64 q6, .int .i64 q7, .int .i64 q8, .int .i64 q9, .int .i64 q10, .int .i64 q11, .int .i64 q12, .int .i64 q13]) (t := 27) (by simp) 1; have zh32 := St.cell h3 (b := b0 + 1 + 1) (cs := #[.int .i64 q0, .int .i64 q1, .int .i64 q2, .int .i64 q3, .int .i64 q4, .int .i64 q5, .int .i64 q6, .int .i64 q7, .int .i64 q8, .int .i64 q9, .int .i64 q10, .int .i64 q11, .int .i64 q12, .int .i64 q13]) (t := 27) (by simp) 2; have zh33 := St.cell h3 (b := b0 + 1 + 1) (cs := #[.int .i64 q0, .int .i64 q1, .int .i64 q2, .int .i64 q3, .int .i64 q4, .int .i64 q5, .int .i64 q6, .int .i64 q7, .int .i64 q8, .int .i64 q9, .int .i64 q10, .int .i64 q11, .int .i64 q12, .int .i64 q13]) (t := 27) (by simp) 3; have zh34 := St.cell h3 (b := b0 + 1 + 1) (cs := #[.int .i64 q0, .int .i64 q1, .int .i64 q2, .int .i64 q3, .int .i64 q4, .int .i64 q5, .int .i64 q6, .int .i64 q7, .int .i64 q8, .int .i64 q9, .int .i64 q10, .int .i64 q11, .int .i64 q12, .int .i64 q13]) (t := 27) (by simp) 4; have zh35 := St.cell h3 (b := b0 + 1 + 1) (cs := #[.int .i64 q0, .int .i64 q1, .int .i64 q2, .int .i64 q3, .int .i64 q4, .int .i64 q5, .int .i64 q6, .int .i64 q7, .int .i64 q8, .int .i64 q9, .int .i64 q10, .int .i64 q11, .int .i64 q12, .int .i64 q13]) (t := 27) (by simp) 5; have zh36 := St.cell h3 (b := b0 + 1 + 1) (cs := #[.int .i64 q0, .int .i64 q1, .int .i64 q2, .int .i64 q3, .int .i64 q4, .int .i64 q5, .int .i64 q6, .int .i64 q7, .int .i64 q8, .int .i64 q9, .int .i64 q10, .int .i64 q11, .int .i64 q12, .int .i64 q13]) (t := 27) (by simp) 6; have zh37 := St.cell h3 (b := b0 + 1 + 1) (cs := #[.int .i64 q0, .int .i64 q1, .int .i64 q2, .int .i64 q3, .int .i64 q4, .int .i64 q5, .int .i64 q6, .int .i64 q7, .int .i64 q8, .int .i64 q9, .int .i64 q10, .int .i64 q11, .int .i64 q12, .int .i64 q13]) (t := 27) (by simp) 7; have zh38 := St.cell h3 (b := b0 + 1 + 1) (cs := #[.int .i64 q0, .int .i64 q1, .int .i64 q2, .int .i64 q3, .int .i64 q4, .int .i64 q5, .int .i64 q6, .int .i64 q7, .int .i64 q8, .int .i64 q9, .int .i64 q10, .int .i64 q11, .int .i64 q12, .int .i64 q13]) (t := 27) (by simp) 8; have zh39 := St.cell h3 (b := b0 + 1 + 1) (cs := #[.int .i64 q0, .int .i64 q1, .int .i64 q2, .int .i64 q3, .int .i64 q4, .int .i64 q5, .int .i64 q6, .int .i64 q7, .int .i64 q8, .int .i64 q9, .int .i64 q10, .int .i64 q11, .int .i64 q12, .int .i64 q13]) (t := 27) (by simp) 9; have zh310 := St.cell h3 (b := b0 + 1 + 1) (cs := #[.int .i64 q0, .int .i64 q1, .int .i64 q2, .int .i64 q3, .int .i64 q4, .int .i64 q5, .int .i64 q6, .int .i64 q7, .int .i64 q8, .int .i64 q9, .int .i64 q10, .int .i64 q11, .int .i64 q12, .int .i64 q13]) (t := 27) (by simp) 10; have zh311 := St.cell h3 (b := b0 + 1 + 1) (cs := #[.int .i64 q0, .int .i64 q1, .int .i64 q2, .int .i64 q3, .int .i64 q4, .int .i64 q5, .int .i64 q6, .int .i64 q7, .int .i64 q8, .int .i64 q9, .int .i64 q10, .int .i64 q11, .int .i64 q12, .int .i64 q13]) (t := 27) (by simp) 11; have zh312 := St.cell h3 (b := b0 + 1 + 1) (cs := #[.int .i64 q0, .int .i64 q1, .int .i64 q2, .int .i64 q3, .int .i64 q4, .int .i64 q5, .int .i64 q6, .int .i64 q7, .int .i64 q8, .int .i64 q9, .int .i64 q10, .int .i64 q11, .int .i64 q12, .int .i64 q13]) (t := 27) (by simp) 12; have zh313 := St.cell h3 (b := b0 + 1 + 1) (cs := #[.int .i64 q0, .int .i64 q1, .int .i64 q2, .int .i64 q3, .int .i64 q4, .int .i64 q5, .int .i64 q6, .int .i64 q7, .int .i64 q8, .int .i64 q9, .int .i64 q10, .int .i64 q11, .int .i64 q12, .int .i64 q13]) (t := 27) (by simp) 13; simp only [List.getElem?_toArray, List.getElem?_cons_zero, List.getElem?_cons_succ] at zh30 zh31 zh32 zh33 zh34 zh35 zh36 zh37 zh38 zh39 zh310 zh311 zh312 zh313
  go_upto_region 4 with (first | (go_at_call 14; (with_reducible refine (St.call h3 (HSN.out _)).mono ?_); rintro en w4 ⟨rfl, h4⟩))
  have h5 := h4.alloc (ao t0 t1 t2 t3 t4 t5 t6)
  generalize w4.heap.size = c2 at h5 ⊢
  generalize w4.alloc (ao t0 t1 t2 t3 t4 t5 t6) = w5 at h5 ⊢
  obtain ⟨_, _, _, _, _, _, _⟩ := St.aff h5 (b := b0) (a := p0) (b' := p1) (c := p2) (d := p3) (e := p4) (f := p5) (n := p6) (by simp)
  obtain ⟨_, _, _, _, _, _, _⟩ := St.aff h5 (b := b0 + 1) (a := r0) (b' := r1) (c := r2) (d := r3) (e := r4) (f := r5) (n := r6) (by simp)
  obtain ⟨_, _, _, _, _, _, _⟩ := St.aff h5 (b := c1) (a := s0) (b' := s1) (c := s2) (d := s3) (e := s4) (f := s5) (n := s6) (by simp)
  obtain ⟨_, _, _, _, _, _, _⟩ := St.aff h5 (b := c2) (a := t0) (b' := t1) (c := t2) (d := t3) (e := t4) (f := t5) (n := t6) (by simp)
  have hq := heap_alloc_new w5 (.cells z56 38)
  have HST := Lib.hid (store_big p0 p1 p2 p3 p4 p5 p6 r0 r1 r2 r3 r4 r5 r6 s0 s1 s2 s3 s4 s5 s6 t0 t1 t2 t3 t4 t5 t6 w5.heap.size _ hq)
  have h6 := (h5.alloc (.cells z56 38)).rowset (ds := (big p0 p1 p2 p3 p4 p5 p6 r0 r1 r2 r3 r4 r5 r6 s0 s1 s2 s3 s4 s5 s6 t0 t1 t2 t3 t4 t5 t6)) h5.below.size h5.ne
  have HN := Lib.hid h6
  clear hq h6
  go_upto_region 5 with (first | (refine wpList_build2 rfl 37 (.tmp 25) (.tmp 26) rfl (.agg (pr p0 p1 p2 p3 p4 p5 p6 r0 r1 r2 r3 r4 r5 r6)) (av p0 p1 p2 p3 p4 p5 p6) (av r0 r1 r2 r3 r4 r5 r6) (by kernel_rfl) (by kernel_rfl) (b2 p0 p1 p2 p3 p4 p5 p6 r0 r1 r2 r3 r4 r5 r6 _) ?_) | (refine wpList_build2 rfl 37 (.tmp 28) (.tmp 29) rfl (.agg (pr s0 s1 s2 s3 s4 s5 s6 t0 t1 t2 t3 t4 t5 t6)) (av s0 s1 s2 s3 s4 s5 s6) (av t0 t1 t2 t3 t4 t5 t6) (by kernel_rfl) (by kernel_rfl) (b2 s0 s1 s2 s3 s4 s5 s6 t0 t1 t2 t3 t4 t5 t6 _) ?_) | (refine wpList_build2 rfl 37 (.tmp 31) (.tmp 32) rfl (.agg (pr p0 p1 p2 p3 p4 p5 p6 s0 s1 s2 s3 s4 s5 s6)) (av p0 p1 p2 p3 p4 p5 p6) (av s0 s1 s2 s3 s4 s5 s6) (by kernel_rfl) (by kernel_rfl) (b2 p0 p1 p2 p3 p4 p5 p6 s0 s1 s2 s3 s4 s5 s6 _) ?_) | (refine wpList_build2 rfl 37 (.tmp 34) (.tmp 35) rfl (.agg (pr t0 t1 t2 t3 t4 t5 t6 t0 t1 t2 t3 t4 t5 t6)) (av t0 t1 t2 t3 t4 t5 t6) (av t0 t1 t2 t3 t4 t5 t6) (by kernel_rfl) (by kernel_rfl) (b2 t0 t1 t2 t3 t4 t5 t6 t0 t1 t2 t3 t4 t5 t6 _) ?_) | (refine wpList_build4 rfl 38 (.tmp 27) (.tmp 30) (.tmp 33) (.tmp 36) rfl (.agg (big p0 p1 p2 p3 p4 p5 p6 r0 r1 r2 r3 r4 r5 r6 s0 s1 s2 s3 s4 s5 s6 t0 t1 t2 t3 t4 t5 t6)) (.agg (pr p0 p1 p2 p3 p4 p5 p6 r0 r1 r2 r3 r4 r5 r6)) (.agg (pr s0 s1 s2 s3 s4 s5 s6 t0 t1 t2 t3 t4 t5 t6)) (.agg (pr p0 p1 p2 p3 p4 p5 p6 s0 s1 s2 s3 s4 s5 s6)) (.agg (pr t0 t1 t2 t3 t4 t5 t6 t0 t1 t2 t3 t4 t5 t6)) (by kernel_rfl) (by kernel_rfl) (by kernel_rfl) (by kernel_rfl) (b4 p0 p1 p2 p3 p4 p5 p6 r0 r1 r2 r3 r4 r5 r6 s0 s1 s2 s3 s4 s5 s6 t0 t1 t2 t3 t4 t5 t6 _) ?_) | (refine wpList_alloc_of rfl 38 rfl _ (zero_a42 _) ?_) | (refine wpList_store_of rfl 38 (.tmp 10) (.tmp 37) rfl HST.out ?_))
  try generalize Value.agg (big p0 p1 p2 p3 p4 p5 p6 r0 r1 r2 r3 r4 r5 r6 s0 s1 s2 s3 s4 s5 s6 t0 t1 t2 t3 t4 t5 t6) = v37
  try generalize Value.agg (pr p0 p1 p2 p3 p4 p5 p6 r0 r1 r2 r3 r4 r5 r6) = v27
  try generalize Value.agg (pr s0 s1 s2 s3 s4 s5 s6 t0 t1 t2 t3 t4 t5 t6) = v30
  try generalize Value.agg (pr p0 p1 p2 p3 p4 p5 p6 s0 s1 s2 s3 s4 s5 s6) = v33
  try generalize Value.agg (pr t0 t1 t2 t3 t4 t5 t6 t0 t1 t2 t3 t4 t5 t6) = v36
  clear HST
  have h6 := HN.out
  clear HN
  generalize w5.heap.size = c3 at h6 ⊢
  generalize World.setRow _ _ _ = w6 at h6 ⊢
  have HQ0 := h6.sub (L' := [(c3, (.cells (big p0 p1 p2 p3 p4 p5 p6 r0 r1 r2 r3 r4 r5 r6 s0 s1 s2 s3 s4 s5 s6 t0 t1 t2 t3 t4 t5 t6) 38))]) (by intro x hx; simp at hx; subst hx; simp)
  clear h0 h1 h2 h3 h4 h5 h6 HSM HSN
  obtain ⟨O, hO⟩ : ∃ O : Obj, O = (.cells (big p0 p1 p2 p3 p4 p5 p6 r0 r1 r2 r3 r4 r5 r6 s0 s1 s2 s3 s4 s5 s6 t0 t1 t2 t3 t4 t5 t6) 38) := ⟨_, rfl⟩
  rw [← hO] at HQ0
  have HC0 : Hid (∀ V : World, V.heap[c3]? = some O → V.cell? ⟨c3, 0, none⟩ = some (.int .i64 p0) ∧ V.cell? ⟨c3, 1, none⟩ = some (.int .i64 p1) ∧ V.cell? ⟨c3, 2, none⟩ = some (.int .i64 p2) ∧ V.cell? ⟨c3, 3, none⟩ = some (.int .i64 p3) ∧ V.cell? ⟨c3, 4, none⟩ = some (.int .i64 p4) ∧ V.cell? ⟨c3, 5, none⟩ = some (.int .i64 p5) ∧ V.cell? ⟨c3, 6, none⟩ = some (.int .i64 p6) ∧ V.cell? ⟨c3, 7, none⟩ = some (.int .i64 r0) ∧ V.cell? ⟨c3, 8, none⟩ = some (.int .i64 r1) ∧ V.cell? ⟨c3, 9, none⟩ = some (.int .i64 r2) ∧ V.cell? ⟨c3, 10, none⟩ = some (.int .i64 r3) ∧ V.cell? ⟨c3, 11, none⟩ = some (.int .i64 r4) ∧ V.cell? ⟨c3, 12, none⟩ = some (.int .i64 r5) ∧ V.cell? ⟨c3, 13, none⟩ = some (.int .i64 r6)) := fun V hV => by subst hO; exact ⟨cell_of_row V c3 0 _ _ _ hV, cell_of_row V c3 1 _ _ _ hV, cell_of_row V c3 2 _ _ _ hV, cell_of_row V c3 3 _ _ _ hV, cell_of_row V c3 4 _ _ _ hV, cell_of_row V c3 5 _ _ _ hV, cell_of_row V c3 6 _ _ _ hV, cell_of_row V c3 7 _ _ _ hV, cell_of_row V c3 8 _ _ _ hV, cell_of_row V c3 9 _ _ _ hV, cell_of_row V c3 10 _ _ _ hV, cell_of_row V c3 11 _ _ _ hV, cell_of_row V c3 12 _ _ _ hV, cell_of_row V c3 13 _ _ _ hV⟩
  have HC1 : Hid (∀ V : World, V.heap[c3]? = some O → V.cell? ⟨c3, 14, none⟩ = some (.int .i64 s0) ∧ V.cell? ⟨c3, 15, none⟩ = some (.int .i64 s1) ∧ V.cell? ⟨c3, 16, none⟩ = some (.int .i64 s2) ∧ V.cell? ⟨c3, 17, none⟩ = some (.int .i64 s3) ∧ V.cell? ⟨c3, 18, none⟩ = some (.int .i64 s4) ∧ V.cell? ⟨c3, 19, none⟩ = some (.int .i64 s5) ∧ V.cell? ⟨c3, 20, none⟩ = some (.int .i64 s6) ∧ V.cell? ⟨c3, 21, none⟩ = some (.int .i64 t0) ∧ V.cell? ⟨c3, 22, none⟩ = some (.int .i64 t1) ∧ V.cell? ⟨c3, 23, none⟩ = some (.int .i64 t2) ∧ V.cell? ⟨c3, 24, none⟩ = some (.int .i64 t3) ∧ V.cell? ⟨c3, 25, none⟩ = some (.int .i64 t4) ∧ V.cell? ⟨c3, 26, none⟩ = some (.int .i64 t5) ∧ V.cell? ⟨c3, 27, none⟩ = some (.int .i64 t6)) := fun V hV => by subst hO; exact ⟨cell_of_row V c3 14 _ _ _ hV, cell_of_row V c3 15 _ _ _ hV, cell_of_row V c3 16 _ _ _ hV, cell_of_row V c3 17 _ _ _ hV, cell_of_row V c3 18 _ _ _ hV, cell_of_row V c3 19 _ _ _ hV, cell_of_row V c3 20 _ _ _ hV, cell_of_row V c3 21 _ _ _ hV, cell_of_row V c3 22 _ _ _ hV, cell_of_row V c3 23 _ _ _ hV, cell_of_row V c3 24 _ _ _ hV, cell_of_row V c3 25 _ _ _ hV, cell_of_row V c3 26 _ _ _ hV, cell_of_row V c3 27 _ _ _ hV⟩
  have HC2 : Hid (∀ V : World, V.heap[c3]? = some O → V.cell? ⟨c3, 28, none⟩ = some (.int .i64 p0) ∧ V.cell? ⟨c3, 29, none⟩ = some (.int .i64 p1) ∧ V.cell? ⟨c3, 30, none⟩ = some (.int .i64 p2) ∧ V.cell? ⟨c3, 31, none⟩ = some (.int .i64 p3) ∧ V.cell? ⟨c3, 32, none⟩ = some (.int .i64 p4) ∧ V.cell? ⟨c3, 33, none⟩ = some (.int .i64 p5) ∧ V.cell? ⟨c3, 34, none⟩ = some (.int .i64 p6) ∧ V.cell? ⟨c3, 35, none⟩ = some (.int .i64 s0) ∧ V.cell? ⟨c3, 36, none⟩ = some (.int .i64 s1) ∧ V.cell? ⟨c3, 37, none⟩ = some (.int .i64 s2) ∧ V.cell? ⟨c3, 38, none⟩ = some (.int .i64 s3) ∧ V.cell? ⟨c3, 39, none⟩ = some (.int .i64 s4) ∧ V.cell? ⟨c3, 40, none⟩ = some (.int .i64 s5) ∧ V.cell? ⟨c3, 41, none⟩ = some (.int .i64 s6)) := fun V hV => by subst hO; exact ⟨cell_of_row V c3 28 _ _ _ hV, cell_of_row V c3 29 _ _ _ hV, cell_of_row V c3 30 _ _ _ hV, cell_of_row V c3 31 _ _ _ hV, cell_of_row V c3 32 _ _ _ hV, cell_of_row V c3 33 _ _ _ hV, cell_of_row V c3 34 _ _ _ hV, cell_of_row V c3 35 _ _ _ hV, cell_of_row V c3 36 _ _ _ hV, cell_of_row V c3 37 _ _ _ hV, cell_of_row V c3 38 _ _ _ hV, cell_of_row V c3 39 _ _ _ hV, cell_of_row V c3 40 _ _ _ hV, cell_of_row V c3 41 _ _ _ hV⟩
  have HC3 : Hid (∀ V : World, V.heap[c3]? = some O → V.cell? ⟨c3, 42, none⟩ = some (.int .i64 t0) ∧ V.cell? ⟨c3, 43, none⟩ = some (.int .i64 t1) ∧ V.cell? ⟨c3, 44, none⟩ = some (.int .i64 t2) ∧ V.cell? ⟨c3, 45, none⟩ = some (.int .i64 t3) ∧ V.cell? ⟨c3, 46, none⟩ = some (.int .i64 t4) ∧ V.cell? ⟨c3, 47, none⟩ = some (.int .i64 t5) ∧ V.cell? ⟨c3, 48, none⟩ = some (.int .i64 t6) ∧ V.cell? ⟨c3, 49, none⟩ = some (.int .i64 t0) ∧ V.cell? ⟨c3, 50, none⟩ = some (.int .i64 t1) ∧ V.cell? ⟨c3, 51, none⟩ = some (.int .i64 t2) ∧ V.cell? ⟨c3, 52, none⟩ = some (.int .i64 t3) ∧ V.cell? ⟨c3, 53, none⟩ = some (.int .i64 t4) ∧ V.cell? ⟨c3, 54, none⟩ = some (.int .i64 t5) ∧ V.cell? ⟨c3, 55, none⟩ = some (.int .i64 t6)) := fun V hV => by subst hO; exact ⟨cell_of_row V c3 42 _ _ _ hV, cell_of_row V c3 43 _ _ _ hV, cell_of_row V c3 44 _ _ _ hV, cell_of_row V c3 45 _ _ _ hV, cell_of_row V c3 46 _ _ _ hV, cell_of_row V c3 47 _ _ _ hV, cell_of_row V c3 48 _ _ _ hV, cell_of_row V c3 49 _ _ _ hV, cell_of_row V c3 50 _ _ _ hV, cell_of_row V c3 51 _ _ _ hV, cell_of_row V c3 52 _ _ _ hV, cell_of_row V c3 53 _ _ _ hV, cell_of_row V c3 54 _ _ _ hV, cell_of_row V c3 55 _ _ _ hV⟩
  have HQ := Lib.hid HQ0
  clear HQ0 hO
  go_wp2_with fail
  go_loopw [11] (fun i wr => (i = .int .i64 0 ∨ i = .int .i64 1 ∨ i = .int .i64 2 ∨ i = .int .i64 3 ∨ i = .int .i64 4) ∧ Hid (St w [(c3, O)] wr)) (fun i _ => 4 - (intOf i).toNat)
  case atStart => exact ⟨.inl rfl, HQ⟩
  case round =>
    clear HQ
    obtain ⟨hi, HS⟩ := hrel
    have hS := HS.out
    clear HS
    obtain rfl | rfl | rfl | rfl | rfl := hi
    · obtain ⟨u0, u1, u2, u3, u4, u5, u6, te, hth⟩ : ∃ u0 u1 u2 u3 u4 u5 u6 te, thn ⟨p0, p1, p2, p3, p4, p5, p6⟩ ⟨r0, r1, r2, r3, r4, r5, r6⟩ = ⟨⟨u0, u1, u2, u3, u4, u5, u6⟩, te⟩ := ⟨_, _, _, _, _, _, _, _, rfl⟩
      obtain ⟨i0, i1, i2, i3, i4, i5, i6, ie, hiv⟩ : ∃ i0 i1 i2 i3 i4 i5 i6 ie, ivt ⟨p0, p1, p2, p3, p4, p5, p6⟩ = ⟨⟨i0, i1, i2, i3, i4, i5, i6⟩, ie⟩ := ⟨_, _, _, _, _, _, _, _, rfl⟩
      have HT : Hid (∀ W, Calls Try.prog 25 #[av p0 p1 p2 p3 p4 p5 p6, av r0 r1 r2 r3 r4 r5 r6] W fun en w' => en = .returned (.tuple #[av u0 u1 u2 u3 u4 u5 u6, .int .i64 te]) ∧ Below W.heap.size W w') := fun W => by
        have := then_any p0 p1 p2 p3 p4 p5 p6 r0 r1 r2 r3 r4 r5 r6 W; rw [hth] at this; exact this
      have HI : Hid (∀ W, Calls Try.prog 26 #[av p0 p1 p2 p3 p4 p5 p6] W fun en w' => en = .returned (.tuple #[av i0 i1 i2 i3 i4 i5 i6, .int .i64 ie]) ∧ Below W.heap.size W w') := fun W => by
        have := inverse_any p0 p1 p2 p3 p4 p5 p6 W; rw [hiv] at this; exact this
      have HRT : Hid (∀ W, Calls Try.prog 27 #[av p0 p1 p2 p3 p4 p5 p6, av r0 r1 r2 r3 r4 r5 r6] W fun en w' => en = .returned (gv u0 u1 u2 u3 u4 u5 u6 te) ∧ Below W.heap.size W w') := fun W => by
        have := refThen_any p0 p1 p2 p3 p4 p5 p6 r0 r1 r2 r3 r4 r5 r6 W; rw [hth] at this; exact this
      have HRI : Hid (∀ W, Calls Try.prog 28 #[av p0 p1 p2 p3 p4 p5 p6] W fun en w' => en = .returned (gv i0 i1 i2 i3 i4 i5 i6 ie) ∧ Below W.heap.size W w') := fun W => by
        have := refInverse_any p0 p1 p2 p3 p4 p5 p6 W; rw [hiv] at this; exact this
      clear hth hiv
      obtain ⟨_, _, _, _, _, _, _, _, _, _, _, _, _, _⟩ := HC0.out _ (St.row hS (b := c3) (o := O) (by simp))
      go_upto_region 8 with fail
      have HP : Hid (∀ V9, St w [(c3, O)] V9 → St w [(c3, O)] V9 ∧ V9.cell? ⟨c3, 0, none⟩ = some (.int .i64 p0) ∧ V9.cell? ⟨c3, 1, none⟩ = some (.int .i64 p1) ∧ V9.cell? ⟨c3, 2, none⟩ = some (.int .i64 p2) ∧ V9.cell? ⟨c3, 3, none⟩ = some (.int .i64 p3) ∧ V9.cell? ⟨c3, 4, none⟩ = some (.int .i64 p4) ∧ V9.cell? ⟨c3, 5, none⟩ = some (.int .i64 p5) ∧ V9.cell? ⟨c3, 6, none⟩ = some (.int .i64 p6) ∧ V9.cell? ⟨c3, 7, none⟩ = some (.int .i64 r0) ∧ V9.cell? ⟨c3, 8, none⟩ = some (.int .i64 r1) ∧ V9.cell? ⟨c3, 9, none⟩ = some (.int .i64 r2) ∧ V9.cell? ⟨c3, 10, none⟩ = some (.int .i64 r3) ∧ V9.cell? ⟨c3, 11, none⟩ = some (.int .i64 r4) ∧ V9.cell? ⟨c3, 12, none⟩ = some (.int .i64 r5) ∧ V9.cell? ⟨c3, 13, none⟩ = some (.int .i64 r6)) := fun V hV => ⟨hV, HC0.out V (hV.row (b := c3) (o := O) (by simp))⟩
      go_cut [12, 13] (fun v8 v9 wx => ∃ b9, v8 = .pointer (some ⟨b9, 0, none⟩) ∧ v9 = .int .i64 te ∧ Hid (St w ((b9, ao u0 u1 u2 u3 u4 u5 u6) :: [(c3, O)]) wx))
      case first =>
        refine wp_region_held_drew (S := fun V9 => St w [(c3, O)] V9 ∧ V9.cell? ⟨c3, 0, none⟩ = some (.int .i64 p0) ∧ V9.cell? ⟨c3, 1, none⟩ = some (.int .i64 p1) ∧ V9.cell? ⟨c3, 2, none⟩ = some (.int .i64 p2) ∧ V9.cell? ⟨c3, 3, none⟩ = some (.int .i64 p3) ∧ V9.cell? ⟨c3, 4, none⟩ = some (.int .i64 p4) ∧ V9.cell? ⟨c3, 5, none⟩ = some (.int .i64 p5) ∧ V9.cell? ⟨c3, 6, none⟩ = some (.int .i64 p6) ∧ V9.cell? ⟨c3, 7, none⟩ = some (.int .i64 r0) ∧ V9.cell? ⟨c3, 8, none⟩ = some (.int .i64 r1) ∧ V9.cell? ⟨c3, 9, none⟩ = some (.int .i64 r2) ∧ V9.cell? ⟨c3, 10, none⟩ = some (.int .i64 r3) ∧ V9.cell? ⟨c3, 11, none⟩ = some (.int .i64 r4) ∧ V9.cell? ⟨c3, 12, none⟩ = some (.int .i64 r5) ∧ V9.cell? ⟨c3, 13, none⟩ = some (.int .i64 r6)) (by kernel_rfl) ?_ (fun hHeld => ?_)
        · exact HP.out _ (hS.drew)
        have hS0 := hS.drew
        refine wpAnyH_take (i := 0) (oi := { dst := some 43, op := Op.move (Operand.tmp 11), type := 3, pos := "law.go:50", after := #[], guard := none }) (v := ?_) rfl (by kernel_rfl) (by kernel_rfl) (by kernel_rfl) (fun _ _ _ h => h) (Or.inl ⟨by kernel_rfl, ?_⟩) (by assumption) ?_
        rotate_left 1
        focus (intro w hSw; (try dsimp only at hSw); go_simp; (try with_reducible rfl))
        try simp only [Act.put, List.setIfInBounds_toArray, List.set_cons_zero, List.set_cons_succ]
        refine wpAnyH_take (i := 1) (oi := { dst := some 44, op := Op.indexAddr 38 (Operand.tmp 10) (Operand.tmp 43), type := 0, pos := "law.go:50", after := #[{ on := 0, ground := Ground.data }], guard := none }) (v := ?_) rfl (by kernel_rfl) (by kernel_rfl) (by kernel_rfl) (fun _ _ _ h => h) (Or.inl ⟨by kernel_rfl, ?_⟩) (by assumption) ?_
        rotate_left 1
        focus (intro w hSw; (try dsimp only at hSw); go_simp; (try with_reducible rfl))
        try simp only [Act.put, List.setIfInBounds_toArray, List.set_cons_zero, List.set_cons_succ]
        refine wpAnyH_take (i := 2) (oi := { dst := some 45, op := Op.indexAddr 37 (Operand.tmp 44) (Operand.const (Value.int IntKind.i64 0)), type := 0, pos := "law.go:50", after := #[{ on := 1, ground := Ground.data }], guard := none }) (v := ?_) rfl (by kernel_rfl) (by kernel_rfl) (by kernel_rfl) (fun _ _ _ h => h) (Or.inl ⟨by kernel_rfl, ?_⟩) (by assumption) ?_
        rotate_left 1
        focus (intro w hSw; (try dsimp only at hSw); go_simp; (try with_reducible rfl))
        try simp only [Act.put, List.setIfInBounds_toArray, List.set_cons_zero, List.set_cons_succ]
        refine wpAnyH_take (i := 3) (oi := { dst := some 46, op := Op.load 23 (Operand.tmp 45), type := 23, pos := "law.go:50", after := #[{ on := 2, ground := Ground.data }], guard := none }) (v := ?_) rfl (by kernel_rfl) (by kernel_rfl) (by kernel_rfl) (fun _ _ _ h => h) (Or.inl ⟨by kernel_rfl, ?_⟩) (by assumption) ?_
        rotate_left 1
        focus (intro w hSw; (try dsimp only at hSw); go_simp; (try with_reducible rfl))
        try simp only [Act.put, List.setIfInBounds_toArray, List.set_cons_zero, List.set_cons_succ]
        refine wpAnyH_take (i := 4) (oi := { dst := some 47, op := Op.move (Operand.tmp 11), type := 3, pos := "law.go:50", after := #[], guard := none }) (v := ?_) rfl (by kernel_rfl) (by kernel_rfl) (by kernel_rfl) (fun _ _ _ h => h) (Or.inl ⟨by kernel_rfl, ?_⟩) (by assumption) ?_
        rotate_left 1
        focus (intro w hSw; (try dsimp only at hSw); go_simp; (try with_reducible rfl))
        try simp only [Act.put, List.setIfInBounds_toArray, List.set_cons_zero, List.set_cons_succ]
        refine wpAnyH_take (i := 5) (oi := { dst := some 48, op := Op.indexAddr 38 (Operand.tmp 10) (Operand.tmp 47), type := 0, pos := "law.go:50", after := #[{ on := 4, ground := Ground.data }], guard := none }) (v := ?_) rfl (by kernel_rfl) (by kernel_rfl) (by kernel_rfl) (fun _ _ _ h => h) (Or.inl ⟨by kernel_rfl, ?_⟩) (by assumption) ?_
        rotate_left 1
        focus (intro w hSw; (try dsimp only at hSw); go_simp; (try with_reducible rfl))
        try simp only [Act.put, List.setIfInBounds_toArray, List.set_cons_zero, List.set_cons_succ]
        refine wpAnyH_take (i := 6) (oi := { dst := some 49, op := Op.indexAddr 37 (Operand.tmp 48) (Operand.const (Value.int IntKind.i64 1)), type := 0, pos := "law.go:50", after := #[{ on := 5, ground := Ground.data }], guard := none }) (v := ?_) rfl (by kernel_rfl) (by kernel_rfl) (by kernel_rfl) (fun _ _ _ h => h) (Or.inl ⟨by kernel_rfl, ?_⟩) (by assumption) ?_
        rotate_left 1
        focus (intro w hSw; (try dsimp only at hSw); go_simp; (try with_reducible rfl))
        try simp only [Act.put, List.setIfInBounds_toArray, List.set_cons_zero, List.set_cons_succ]
        refine wpAnyH_take (i := 7) (oi := { dst := some 50, op := Op.load 23 (Operand.tmp 49), type := 23, pos := "law.go:50", after := #[{ on := 6, ground := Ground.data }], guard := none }) (v := ?_) rfl (by kernel_rfl) (by kernel_rfl) (by kernel_rfl) (fun _ _ _ h => h) (Or.inl ⟨by kernel_rfl, ?_⟩) (by assumption) ?_
        rotate_left 1
        focus (intro w hSw; (try dsimp only at hSw); go_simp; (try with_reducible rfl))
        try simp only [Act.put, List.setIfInBounds_toArray, List.set_cons_zero, List.set_cons_succ]
        refine wpAnyH_ready (rs := [8, 12]) (by kernel_rfl) (by simp) (AllReadyH.cons (o := { dst := some 51, op := Op.call { callee := Callee.value (Operand.func 25), args := #[Operand.tmp 46, Operand.tmp 50], argTypes := #[23, 23] }, type := 40, pos := "law.go:50", after := #[{ on := 3, ground := Ground.data }, { on := 7, ground := Ground.data }], guard := none }) rfl (fun K hK => ?_) (AllReadyH.cons (o := { dst := some 12, op := Op.alloc 23, type := 0, pos := "law.go:50", after := #[], guard := none }) rfl (fun K hK => ?_) AllReadyH.nil))
        · (go_simp; (go_at_call 25; (refine (St.call hS0 (HT.out _)).mono ?_); rintro e V1r8 ⟨rfl, hS1r8⟩))
          refine hK.out _ _ ?_ (fun hHeld => ?_)
          · exact HP.out _ (hS1r8)
          clear hK K
          try simp only [Act.put, List.setIfInBounds_toArray, List.set_cons_zero, List.set_cons_succ]
          refine wpAnyH_take (i := 9) (oi := { dst := some 42, op := Op.move (Operand.tmp 51), type := 40, pos := "law.go:50", after := #[{ on := 8, ground := Ground.data }], guard := none }) (v := ?_) rfl (by kernel_rfl) (by kernel_rfl) (by kernel_rfl) (fun _ _ _ h => h) (Or.inl ⟨by kernel_rfl, ?_⟩) (by assumption) ?_
          rotate_left 1
          focus (intro w hSw; (try dsimp only at hSw); go_simp; (try with_reducible rfl))
          try simp only [Act.put, List.setIfInBounds_toArray, List.set_cons_zero, List.set_cons_succ]
          refine wpAnyH_take (i := 10) (oi := { dst := some 52, op := Op.extract (Operand.tmp 42) 0, type := 23, pos := "law.go:50", after := #[{ on := 9, ground := Ground.data }], guard := none }) (v := ?_) rfl (by kernel_rfl) (by kernel_rfl) (by kernel_rfl) (fun _ _ _ h => h) (Or.inl ⟨by kernel_rfl, ?_⟩) (by assumption) ?_
          rotate_left 1
          focus (intro w hSw; (try dsimp only at hSw); go_simp; (try with_reducible rfl))
          try simp only [Act.put, List.setIfInBounds_toArray, List.set_cons_zero, List.set_cons_succ]
          refine wpAnyH_take (i := 11) (oi := { dst := some 53, op := Op.extract (Operand.tmp 42) 1, type := 39, pos := "law.go:50", after := #[{ on := 9, ground := Ground.data }, { on := 13, ground := Ground.gcOnly Departure.lateStores }], guard := none }) (v := ?_) rfl (by kernel_rfl) (by kernel_rfl) (by kernel_rfl) (fun _ _ _ h => h) (Or.inl ⟨by kernel_rfl, ?_⟩) (by assumption) ?_
          rotate_left 1
          focus (intro w hSw; (try dsimp only at hSw); go_simp; (try with_reducible rfl))
          try simp only [Act.put, List.setIfInBounds_toArray, List.set_cons_zero, List.set_cons_succ]
          refine wpAnyH_ready (rs := [12]) (by kernel_rfl) (by simp) (AllReadyH.cons (o := { dst := some 12, op := Op.alloc 23, type := 0, pos := "law.go:50", after := #[], guard := none }) rfl (fun K hK => ?_) AllReadyH.nil)
          have hne12r8 := hS1r8.ne
          have hle12r8 := hS1r8.below.size
          have hlt12r8 := fun (b : Nat) (o : Obj) (hm : (b, o) ∈ _) => hS1r8.lt hm
          have hS2r8 := hS1r8.alloc (.cells #[.int .i64 0, .int .i64 0, .int .i64 0, .int .i64 0, .int .i64 0, .int .i64 0, .int .i64 0] 23)
          refine wp_alloc_of 23 rfl _ (zero_aff _) ?_
          refine hK.out _ _ ?_ (fun hHeld => ?_)
          · exact HP.out _ (hS2r8.tl)
          clear hK K
          try simp only [Act.put, List.setIfInBounds_toArray, List.set_cons_zero, List.set_cons_succ]
          refine wpAnyH_ready (rs := [13]) (by kernel_rfl) (by simp) (AllReadyH.cons (o := { dst := none, op := Op.store 23 (Operand.tmp 12) (Operand.tmp 52), type := 0, pos := "law.go:50", after := #[{ on := 12, ground := Ground.data }, { on := 10, ground := Ground.data }, { on := 8, ground := Ground.chain }, { on := 0, ground := Ground.phase }, { on := 1, ground := Ground.phase }, { on := 2, ground := Ground.phase }, { on := 3, ground := Ground.phase }, { on := 4, ground := Ground.phase }, { on := 5, ground := Ground.phase }, { on := 6, ground := Ground.phase }, { on := 7, ground := Ground.phase }, { on := 8, ground := Ground.phase }, { on := 9, ground := Ground.phase }, { on := 10, ground := Ground.phase }, { on := 11, ground := Ground.textOnly Departure.lateStores }, { on := 12, ground := Ground.phase }], guard := none }) rfl (fun K hK => ?_) AllReadyH.nil)
          have hS3r8 := hS2r8.rowset (ds := #[.int .i64 u0, .int .i64 u1, .int .i64 u2, .int .i64 u3, .int .i64 u4, .int .i64 u5, .int .i64 u6]) hle12r8 hne12r8
          refine wp_store_of 23 _ _ rfl (store_row 23 (cs := #[.int .i64 0, .int .i64 0, .int .i64 0, .int .i64 0, .int .i64 0, .int .i64 0, .int .i64 0]) (ds := #[.int .i64 u0, .int .i64 u1, .int .i64 u2, .int .i64 u3, .int .i64 u4, .int .i64 u5, .int .i64 u6]) (by kernel_rfl) rfl (by simp [Value.oneCell']) hS2r8.hd) ?_
          refine hK.out _ _ ?_ (fun hHeld => ?_)
          · exact HP.out _ (hS3r8.tl)
          clear hK K
          try simp only [Act.put]
          refine wpAnyH_take (i := 14) (oi := { dst := some 13, op := Op.assign (Operand.tmp 53), type := 39, pos := "law.go:50", after := #[{ on := 11, ground := Ground.data }, { on := 13, ground := Ground.chain }, { on := 0, ground := Ground.phase }, { on := 1, ground := Ground.phase }, { on := 2, ground := Ground.phase }, { on := 3, ground := Ground.phase }, { on := 4, ground := Ground.phase }, { on := 5, ground := Ground.phase }, { on := 6, ground := Ground.phase }, { on := 7, ground := Ground.phase }, { on := 8, ground := Ground.phase }, { on := 9, ground := Ground.phase }, { on := 10, ground := Ground.phase }, { on := 11, ground := Ground.phase }, { on := 12, ground := Ground.phase }, { on := 13, ground := Ground.phase }], guard := none }) (v := ?_) rfl (by kernel_rfl) (by kernel_rfl) (by kernel_rfl) (fun _ _ _ h => h) (Or.inl ⟨by kernel_rfl, ?_⟩) (by assumption) ?_
          rotate_left 1
          focus (intro w hSw; (try dsimp only at hSw); go_simp; (try with_reducible rfl))
          try simp only [Act.put, List.setIfInBounds_toArray, List.set_cons_zero, List.set_cons_succ]
          refine wpAnyH_done (by kernel_rfl) ?_ _
          have h9 := hS3r8
          go_wp2_with fail
          go_meet
          case rel => exact ⟨_, rfl, rfl, h9⟩
        · have hne12r8 := hS0.ne
          have hle12r8 := hS0.below.size
          have hlt12r8 := fun (b : Nat) (o : Obj) (hm : (b, o) ∈ _) => hS0.lt hm
          have hS4r8 := hS0.alloc (.cells #[.int .i64 0, .int .i64 0, .int .i64 0, .int .i64 0, .int .i64 0, .int .i64 0, .int .i64 0] 23)
          refine wp_alloc_of 23 rfl _ (zero_aff _) ?_
          refine hK.out _ _ ?_ (fun hHeld => ?_)
          · exact HP.out _ (hS4r8.tl)
          clear hK K
          try simp only [Act.put, List.setIfInBounds_toArray, List.set_cons_zero, List.set_cons_succ]
          refine wpAnyH_ready (rs := [8]) (by kernel_rfl) (by simp) (AllReadyH.cons (o := { dst := some 51, op := Op.call { callee := Callee.value (Operand.func 25), args := #[Operand.tmp 46, Operand.tmp 50], argTypes := #[23, 23] }, type := 40, pos := "law.go:50", after := #[{ on := 3, ground := Ground.data }, { on := 7, ground := Ground.data }], guard := none }) rfl (fun K hK => ?_) AllReadyH.nil)
          (go_simp; (go_at_call 25; (refine (St.call hS4r8 (HT.out _)).mono ?_); rintro e V5r8 ⟨rfl, hS5r8⟩))
          refine hK.out _ _ ?_ (fun hHeld => ?_)
          · exact HP.out _ (hS5r8.tl)
          clear hK K
          try simp only [Act.put, List.setIfInBounds_toArray, List.set_cons_zero, List.set_cons_succ]
          refine wpAnyH_take (i := 9) (oi := { dst := some 42, op := Op.move (Operand.tmp 51), type := 40, pos := "law.go:50", after := #[{ on := 8, ground := Ground.data }], guard := none }) (v := ?_) rfl (by kernel_rfl) (by kernel_rfl) (by kernel_rfl) (fun _ _ _ h => h) (Or.inl ⟨by kernel_rfl, ?_⟩) (by assumption) ?_
          rotate_left 1
          focus (intro w hSw; (try dsimp only at hSw); go_simp; (try with_reducible rfl))
          try simp only [Act.put, List.setIfInBounds_toArray, List.set_cons_zero, List.set_cons_succ]
          refine wpAnyH_take (i := 10) (oi := { dst := some 52, op := Op.extract (Operand.tmp 42) 0, type := 23, pos := "law.go:50", after := #[{ on := 9, ground := Ground.data }], guard := none }) (v := ?_) rfl (by kernel_rfl) (by kernel_rfl) (by kernel_rfl) (fun _ _ _ h => h) (Or.inl ⟨by kernel_rfl, ?_⟩) (by assumption) ?_
          rotate_left 1
          focus (intro w hSw; (try dsimp only at hSw); go_simp; (try with_reducible rfl))
          try simp only [Act.put, List.setIfInBounds_toArray, List.set_cons_zero, List.set_cons_succ]
          refine wpAnyH_take (i := 11) (oi := { dst := some 53, op := Op.extract (Operand.tmp 42) 1, type := 39, pos := "law.go:50", after := #[{ on := 9, ground := Ground.data }, { on := 13, ground := Ground.gcOnly Departure.lateStores }], guard := none }) (v := ?_) rfl (by kernel_rfl) (by kernel_rfl) (by kernel_rfl) (fun _ _ _ h => h) (Or.inl ⟨by kernel_rfl, ?_⟩) (by assumption) ?_
          rotate_left 1
          focus (intro w hSw; (try dsimp only at hSw); go_simp; (try with_reducible rfl))
          try simp only [Act.put, List.setIfInBounds_toArray, List.set_cons_zero, List.set_cons_succ]
          refine wpAnyH_ready (rs := [13]) (by kernel_rfl) (by simp) (AllReadyH.cons (o := { dst := none, op := Op.store 23 (Operand.tmp 12) (Operand.tmp 52), type := 0, pos := "law.go:50", after := #[{ on := 12, ground := Ground.data }, { on := 10, ground := Ground.data }, { on := 8, ground := Ground.chain }, { on := 0, ground := Ground.phase }, { on := 1, ground := Ground.phase }, { on := 2, ground := Ground.phase }, { on := 3, ground := Ground.phase }, { on := 4, ground := Ground.phase }, { on := 5, ground := Ground.phase }, { on := 6, ground := Ground.phase }, { on := 7, ground := Ground.phase }, { on := 8, ground := Ground.phase }, { on := 9, ground := Ground.phase }, { on := 10, ground := Ground.phase }, { on := 11, ground := Ground.textOnly Departure.lateStores }, { on := 12, ground := Ground.phase }], guard := none }) rfl (fun K hK => ?_) AllReadyH.nil)
          have hS6r8 := hS5r8.rowset (ds := #[.int .i64 u0, .int .i64 u1, .int .i64 u2, .int .i64 u3, .int .i64 u4, .int .i64 u5, .int .i64 u6]) hle12r8 hne12r8
          refine wp_store_of 23 _ _ rfl (store_row 23 (cs := #[.int .i64 0, .int .i64 0, .int .i64 0, .int .i64 0, .int .i64 0, .int .i64 0, .int .i64 0]) (ds := #[.int .i64 u0, .int .i64 u1, .int .i64 u2, .int .i64 u3, .int .i64 u4, .int .i64 u5, .int .i64 u6]) (by kernel_rfl) rfl (by simp [Value.oneCell']) hS5r8.hd) ?_
          refine hK.out _ _ ?_ (fun hHeld => ?_)
          · exact HP.out _ (hS6r8.tl)
          clear hK K
          try simp only [Act.put]
          refine wpAnyH_take (i := 14) (oi := { dst := some 13, op := Op.assign (Operand.tmp 53), type := 39, pos := "law.go:50", after := #[{ on := 11, ground := Ground.data }, { on := 13, ground := Ground.chain }, { on := 0, ground := Ground.phase }, { on := 1, ground := Ground.phase }, { on := 2, ground := Ground.phase }, { on := 3, ground := Ground.phase }, { on := 4, ground := Ground.phase }, { on := 5, ground := Ground.phase }, { on := 6, ground := Ground.phase }, { on := 7, ground := Ground.phase }, { on := 8, ground := Ground.phase }, { on := 9, ground := Ground.phase }, { on := 10, ground := Ground.phase }, { on := 11, ground := Ground.phase }, { on := 12, ground := Ground.phase }, { on := 13, ground := Ground.phase }], guard := none }) (v := ?_) rfl (by kernel_rfl) (by kernel_rfl) (by kernel_rfl) (fun _ _ _ h => h) (Or.inl ⟨by kernel_rfl, ?_⟩) (by assumption) ?_
          rotate_left 1
          focus (intro w hSw; (try dsimp only at hSw); go_simp; (try with_reducible rfl))
          try simp only [Act.put, List.setIfInBounds_toArray, List.set_cons_zero, List.set_cons_succ]
          refine wpAnyH_done (by kernel_rfl) ?_ _
          have h9 := hS6r8
          go_wp2_with fail
          go_meet
          case rel => exact ⟨_, rfl, rfl, h9⟩
      case rest =>
        obtain ⟨b9, rfl, rfl, HQ⟩ := hcut
        have h40 := HQ.out
        clear HQ HP hS
        obtain ⟨_, _, _, _, _, _, _, _, _, _, _, _, _, _⟩ := HC0.out _ (St.row h40 (b := c3) (o := O) (by simp))
        go_upto_region 10 with (first | (go_at_call 26; (with_reducible refine (St.call h40 (HI.out _)).mono ?_); rintro en w41 ⟨rfl, h41⟩))
        have h42 := h41.alloc (ao i0 i1 i2 i3 i4 i5 i6)
        generalize w41.heap.size = c41 at h42 ⊢
        generalize w41.alloc (ao i0 i1 i2 i3 i4 i5 i6) = w42 at h42 ⊢
        have HP2 : Hid (∀ V9, St w [(c41, ao i0 i1 i2 i3 i4 i5 i6), (b9, ao u0 u1 u2 u3 u4 u5 u6), (c3, O)] V9 → St w [(c41, ao i0 i1 i2 i3 i4 i5 i6), (b9, ao u0 u1 u2 u3 u4 u5 u6), (c3, O)] V9 ∧ V9.cell? ⟨c3, 0, none⟩ = some (.int .i64 p0) ∧ V9.cell? ⟨c3, 1, none⟩ = some (.int .i64 p1) ∧ V9.cell? ⟨c3, 2, none⟩ = some (.int .i64 p2) ∧ V9.cell? ⟨c3, 3, none⟩ = some (.int .i64 p3) ∧ V9.cell? ⟨c3, 4, none⟩ = some (.int .i64 p4) ∧ V9.cell? ⟨c3, 5, none⟩ = some (.int .i64 p5) ∧ V9.cell? ⟨c3, 6, none⟩ = some (.int .i64 p6) ∧ V9.cell? ⟨c3, 7, none⟩ = some (.int .i64 r0) ∧ V9.cell? ⟨c3, 8, none⟩ = some (.int .i64 r1) ∧ V9.cell? ⟨c3, 9, none⟩ = some (.int .i64 r2) ∧ V9.cell? ⟨c3, 10, none⟩ = some (.int .i64 r3) ∧ V9.cell? ⟨c3, 11, none⟩ = some (.int .i64 r4) ∧ V9.cell? ⟨c3, 12, none⟩ = some (.int .i64 r5) ∧ V9.cell? ⟨c3, 13, none⟩ = some (.int .i64 r6)) := fun V hV => ⟨hV, HC0.out V (hV.row (b := c3) (o := O) (by simp))⟩
        go_cut [16] (fun v8 wx => ∃ b8, v8 = .pointer (some ⟨b8, 0, none⟩) ∧ Hid (St w ((b8, go8 u0 u1 u2 u3 u4 u5 u6 te) :: [(c41, ao i0 i1 i2 i3 i4 i5 i6), (b9, ao u0 u1 u2 u3 u4 u5 u6), (c3, O)]) wx))
        case first =>
          refine wp_region_held_drew (S := fun V9 => St w [(c41, ao i0 i1 i2 i3 i4 i5 i6), (b9, ao u0 u1 u2 u3 u4 u5 u6), (c3, O)] V9 ∧ V9.cell? ⟨c3, 0, none⟩ = some (.int .i64 p0) ∧ V9.cell? ⟨c3, 1, none⟩ = some (.int .i64 p1) ∧ V9.cell? ⟨c3, 2, none⟩ = some (.int .i64 p2) ∧ V9.cell? ⟨c3, 3, none⟩ = some (.int .i64 p3) ∧ V9.cell? ⟨c3, 4, none⟩ = some (.int .i64 p4) ∧ V9.cell? ⟨c3, 5, none⟩ = some (.int .i64 p5) ∧ V9.cell? ⟨c3, 6, none⟩ = some (.int .i64 p6) ∧ V9.cell? ⟨c3, 7, none⟩ = some (.int .i64 r0) ∧ V9.cell? ⟨c3, 8, none⟩ = some (.int .i64 r1) ∧ V9.cell? ⟨c3, 9, none⟩ = some (.int .i64 r2) ∧ V9.cell? ⟨c3, 10, none⟩ = some (.int .i64 r3) ∧ V9.cell? ⟨c3, 11, none⟩ = some (.int .i64 r4) ∧ V9.cell? ⟨c3, 12, none⟩ = some (.int .i64 r5) ∧ V9.cell? ⟨c3, 13, none⟩ = some (.int .i64 r6)) (by kernel_rfl) ?_ (fun hHeld => ?_)
          · exact HP2.out _ (h42.drew)
          have h420 := h42.drew
          refine wpAnyH_take (i := 0) (oi := { dst := some 62, op := Op.move (Operand.tmp 11), type := 3, pos := "law.go:52", after := #[], guard := none }) (v := ?_) rfl (by kernel_rfl) (by kernel_rfl) (by kernel_rfl) (fun _ _ _ h => h) (Or.inl ⟨by kernel_rfl, ?_⟩) (by assumption) ?_
          rotate_left 1
          focus (intro w hSw; (try dsimp only at hSw); go_simp; (try with_reducible rfl))
          try simp only [Act.put, List.setIfInBounds_toArray, List.set_cons_zero, List.set_cons_succ]
          refine wpAnyH_take (i := 1) (oi := { dst := some 63, op := Op.indexAddr 38 (Operand.tmp 10) (Operand.tmp 62), type := 0, pos := "law.go:52", after := #[{ on := 0, ground := Ground.data }], guard := none }) (v := ?_) rfl (by kernel_rfl) (by kernel_rfl) (by kernel_rfl) (fun _ _ _ h => h) (Or.inl ⟨by kernel_rfl, ?_⟩) (by assumption) ?_
          rotate_left 1
          focus (intro w hSw; (try dsimp only at hSw); go_simp; (try with_reducible rfl))
          try simp only [Act.put, List.setIfInBounds_toArray, List.set_cons_zero, List.set_cons_succ]
          refine wpAnyH_take (i := 2) (oi := { dst := some 64, op := Op.indexAddr 37 (Operand.tmp 63) (Operand.const (Value.int IntKind.i64 0)), type := 0, pos := "law.go:52", after := #[{ on := 1, ground := Ground.data }], guard := none }) (v := ?_) rfl (by kernel_rfl) (by kernel_rfl) (by kernel_rfl) (fun _ _ _ h => h) (Or.inl ⟨by kernel_rfl, ?_⟩) (by assumption) ?_
          rotate_left 1
          focus (intro w hSw; (try dsimp only at hSw); go_simp; (try with_reducible rfl))
          try simp only [Act.put, List.setIfInBounds_toArray, List.set_cons_zero, List.set_cons_succ]
          refine wpAnyH_take (i := 3) (oi := { dst := some 65, op := Op.load 23 (Operand.tmp 64), type := 23, pos := "law.go:52", after := #[{ on := 2, ground := Ground.data }], guard := none }) (v := ?_) rfl (by kernel_rfl) (by kernel_rfl) (by kernel_rfl) (fun _ _ _ h => h) (Or.inl ⟨by kernel_rfl, ?_⟩) (by assumption) ?_
          rotate_left 1
          focus (intro w hSw; (try dsimp only at hSw); go_simp; (try with_reducible rfl))
          try simp only [Act.put, List.setIfInBounds_toArray, List.set_cons_zero, List.set_cons_succ]
          refine wpAnyH_take (i := 4) (oi := { dst := some 66, op := Op.move (Operand.tmp 11), type := 3, pos := "law.go:52", after := #[], guard := none }) (v := ?_) rfl (by kernel_rfl) (by kernel_rfl) (by kernel_rfl) (fun _ _ _ h => h) (Or.inl ⟨by kernel_rfl, ?_⟩) (by assumption) ?_
          rotate_left 1
          focus (intro w hSw; (try dsimp only at hSw); go_simp; (try with_reducible rfl))
          try simp only [Act.put, List.setIfInBounds_toArray, List.set_cons_zero, List.set_cons_succ]
          refine wpAnyH_take (i := 5) (oi := { dst := some 67, op := Op.indexAddr 38 (Operand.tmp 10) (Operand.tmp 66), type := 0, pos := "law.go:52", after := #[{ on := 4, ground := Ground.data }], guard := none }) (v := ?_) rfl (by kernel_rfl) (by kernel_rfl) (by kernel_rfl) (fun _ _ _ h => h) (Or.inl ⟨by kernel_rfl, ?_⟩) (by assumption) ?_
          rotate_left 1
          focus (intro w hSw; (try dsimp only at hSw); go_simp; (try with_reducible rfl))
          try simp only [Act.put, List.setIfInBounds_toArray, List.set_cons_zero, List.set_cons_succ]
          refine wpAnyH_take (i := 6) (oi := { dst := some 68, op := Op.indexAddr 37 (Operand.tmp 67) (Operand.const (Value.int IntKind.i64 1)), type := 0, pos := "law.go:52", after := #[{ on := 5, ground := Ground.data }], guard := none }) (v := ?_) rfl (by kernel_rfl) (by kernel_rfl) (by kernel_rfl) (fun _ _ _ h => h) (Or.inl ⟨by kernel_rfl, ?_⟩) (by assumption) ?_
          rotate_left 1
          focus (intro w hSw; (try dsimp only at hSw); go_simp; (try with_reducible rfl))
          try simp only [Act.put, List.setIfInBounds_toArray, List.set_cons_zero, List.set_cons_succ]
          refine wpAnyH_take (i := 7) (oi := { dst := some 69, op := Op.load 23 (Operand.tmp 68), type := 23, pos := "law.go:52", after := #[{ on := 6, ground := Ground.data }], guard := none }) (v := ?_) rfl (by kernel_rfl) (by kernel_rfl) (by kernel_rfl) (fun _ _ _ h => h) (Or.inl ⟨by kernel_rfl, ?_⟩) (by assumption) ?_
          rotate_left 1
          focus (intro w hSw; (try dsimp only at hSw); go_simp; (try with_reducible rfl))
          try simp only [Act.put, List.setIfInBounds_toArray, List.set_cons_zero, List.set_cons_succ]
          refine wpAnyH_ready (rs := [8, 9]) (by kernel_rfl) (by simp) (AllReadyH.cons (o := { dst := some 70, op := Op.call { callee := Callee.value (Operand.func 27), args := #[Operand.tmp 65, Operand.tmp 69], argTypes := #[23, 23] }, type := 44, pos := "law.go:52", after := #[{ on := 3, ground := Ground.data }, { on := 7, ground := Ground.data }], guard := none }) rfl (fun K hK => ?_) (AllReadyH.cons (o := { dst := some 16, op := Op.alloc 44, type := 0, pos := "law.go:52", after := #[], guard := none }) rfl (fun K hK => ?_) AllReadyH.nil))
          · (go_simp; (go_at_call 27; (refine (St.call h420 (HRT.out _)).mono ?_); rintro e V1r10 ⟨rfl, h421r10⟩))
            refine hK.out _ _ ?_ (fun hHeld => ?_)
            · exact HP2.out _ (h421r10)
            clear hK K
            try simp only [Act.put, List.setIfInBounds_toArray, List.set_cons_zero, List.set_cons_succ]
            refine wpAnyH_ready (rs := [9]) (by kernel_rfl) (by simp) (AllReadyH.cons (o := { dst := some 16, op := Op.alloc 44, type := 0, pos := "law.go:52", after := #[], guard := none }) rfl (fun K hK => ?_) AllReadyH.nil)
            have hne9r10 := h421r10.ne
            have hle9r10 := h421r10.below.size
            have hlt9r10 := fun (b : Nat) (o : Obj) (hm : (b, o) ∈ _) => h421r10.lt hm
            have h422r10 := h421r10.alloc (.cells #[.int .i64 0, .int .i64 0, .int .i64 0, .int .i64 0, .int .i64 0, .int .i64 0, .int .i64 0, .int .i64 0] 44)
            refine wp_alloc_of 44 rfl _ (zero_got _) ?_
            refine hK.out _ _ ?_ (fun hHeld => ?_)
            · exact HP2.out _ (h422r10.tl)
            clear hK K
            try simp only [Act.put, List.setIfInBounds_toArray, List.set_cons_zero, List.set_cons_succ]
            refine wpAnyH_ready (rs := [10]) (by kernel_rfl) (by simp) (AllReadyH.cons (o := { dst := none, op := Op.store 44 (Operand.tmp 16) (Operand.tmp 70), type := 0, pos := "law.go:52", after := #[{ on := 9, ground := Ground.data }, { on := 8, ground := Ground.data }, { on := 8, ground := Ground.chain }, { on := 0, ground := Ground.phase }, { on := 1, ground := Ground.phase }, { on := 2, ground := Ground.phase }, { on := 3, ground := Ground.phase }, { on := 4, ground := Ground.phase }, { on := 5, ground := Ground.phase }, { on := 6, ground := Ground.phase }, { on := 7, ground := Ground.phase }, { on := 8, ground := Ground.phase }, { on := 9, ground := Ground.phase }], guard := none }) rfl (fun K hK => ?_) AllReadyH.nil)
            have h423r10 := h422r10.rowset (ds := #[.int .i64 u0, .int .i64 u1, .int .i64 u2, .int .i64 u3, .int .i64 u4, .int .i64 u5, .int .i64 u6, .int .i64 te]) hle9r10 hne9r10
            refine wp_store_of 44 _ _ rfl (store_row 44 (cs := #[.int .i64 0, .int .i64 0, .int .i64 0, .int .i64 0, .int .i64 0, .int .i64 0, .int .i64 0, .int .i64 0]) (ds := #[.int .i64 u0, .int .i64 u1, .int .i64 u2, .int .i64 u3, .int .i64 u4, .int .i64 u5, .int .i64 u6, .int .i64 te]) (by kernel_rfl) rfl (by simp [Value.oneCell']) h422r10.hd) ?_
            refine hK.out _ _ ?_ (fun hHeld => ?_)
            · exact HP2.out _ (h423r10.tl)
            clear hK K
            try simp only [Act.put]
            refine wpAnyH_done (by kernel_rfl) ?_ _
            have h9 := h423r10
            go_wp2_with fail
            go_meet
            case rel => exact ⟨_, rfl, h9⟩
          · have hne9r10 := h420.ne
            have hle9r10 := h420.below.size
            have hlt9r10 := fun (b : Nat) (o : Obj) (hm : (b, o) ∈ _) => h420.lt hm
            have h424r10 := h420.alloc (.cells #[.int .i64 0, .int .i64 0, .int .i64 0, .int .i64 0, .int .i64 0, .int .i64 0, .int .i64 0, .int .i64 0] 44)
            refine wp_alloc_of 44 rfl _ (zero_got _) ?_
            refine hK.out _ _ ?_ (fun hHeld => ?_)
            · exact HP2.out _ (h424r10.tl)
            clear hK K
            try simp only [Act.put, List.setIfInBounds_toArray, List.set_cons_zero, List.set_cons_succ]
            refine wpAnyH_ready (rs := [8]) (by kernel_rfl) (by simp) (AllReadyH.cons (o := { dst := some 70, op := Op.call { callee := Callee.value (Operand.func 27), args := #[Operand.tmp 65, Operand.tmp 69], argTypes := #[23, 23] }, type := 44, pos := "law.go:52", after := #[{ on := 3, ground := Ground.data }, { on := 7, ground := Ground.data }], guard := none }) rfl (fun K hK => ?_) AllReadyH.nil)
            (go_simp; (go_at_call 27; (refine (St.call h424r10 (HRT.out _)).mono ?_); rintro e V5r10 ⟨rfl, h425r10⟩))
            refine hK.out _ _ ?_ (fun hHeld => ?_)
            · exact HP2.out _ (h425r10.tl)
            clear hK K
            try simp only [Act.put, List.setIfInBounds_toArray, List.set_cons_zero, List.set_cons_succ]
            refine wpAnyH_ready (rs := [10]) (by kernel_rfl) (by simp) (AllReadyH.cons (o := { dst := none, op := Op.store 44 (Operand.tmp 16) (Operand.tmp 70), type := 0, pos := "law.go:52", after := #[{ on := 9, ground := Ground.data }, { on := 8, ground := Ground.data }, { on := 8, ground := Ground.chain }, { on := 0, ground := Ground.phase }, { on := 1, ground := Ground.phase }, { on := 2, ground := Ground.phase }, { on := 3, ground := Ground.phase }, { on := 4, ground := Ground.phase }, { on := 5, ground := Ground.phase }, { on := 6, ground := Ground.phase }, { on := 7, ground := Ground.phase }, { on := 8, ground := Ground.phase }, { on := 9, ground := Ground.phase }], guard := none }) rfl (fun K hK => ?_) AllReadyH.nil)
            have h426r10 := h425r10.rowset (ds := #[.int .i64 u0, .int .i64 u1, .int .i64 u2, .int .i64 u3, .int .i64 u4, .int .i64 u5, .int .i64 u6, .int .i64 te]) hle9r10 hne9r10
            refine wp_store_of 44 _ _ rfl (store_row 44 (cs := #[.int .i64 0, .int .i64 0, .int .i64 0, .int .i64 0, .int .i64 0, .int .i64 0, .int .i64 0, .int .i64 0]) (ds := #[.int .i64 u0, .int .i64 u1, .int .i64 u2, .int .i64 u3, .int .i64 u4, .int .i64 u5, .int .i64 u6, .int .i64 te]) (by kernel_rfl) rfl (by simp [Value.oneCell']) h425r10.hd) ?_
            refine hK.out _ _ ?_ (fun hHeld => ?_)
            · exact HP2.out _ (h426r10.tl)
            clear hK K
            try simp only [Act.put]
            refine wpAnyH_done (by kernel_rfl) ?_ _
            have h9 := h426r10
            go_wp2_with fail
            go_meet
            case rel => exact ⟨_, rfl, h9⟩
        case rest =>
          obtain ⟨b8, rfl, HQ⟩ := hcut
          have h60 := HQ.out
          clear HQ HP2 h42
          obtain ⟨_, _, _, _, _, _, _, _, _, _, _, _, _, _⟩ := HC0.out _ (St.row h60 (b := c3) (o := O) (by simp))
          go_upto_region 12 with (first | (go_at_call 28; (with_reducible refine (St.call h60 (HRI.out _)).mono ?_); rintro en w61 ⟨rfl, h61⟩))
          have h62 := h61.alloc ((.cells #[.int .i64 i0, .int .i64 i1, .int .i64 i2, .int .i64 i3, .int .i64 i4, .int .i64 i5, .int .i64 i6, .int .i64 ie] 44 : Obj))
          generalize w61.heap.size = c61 at h62 ⊢
          generalize w61.alloc ((.cells #[.int .i64 i0, .int .i64 i1, .int .i64 i2, .int .i64 i3, .int .i64 i4, .int .i64 i5, .int .i64 i6, .int .i64 ie] 44 : Obj)) = w62 at h62 ⊢
          obtain ⟨_, _, _, _, _, _, _⟩ := St.aff h62 (b := b9) (a := u0) (b' := u1) (c := u2) (d := u3) (e := u4) (f := u5) (n := u6) (by simp)
          obtain ⟨_, _, _, _, _, _, _⟩ := St.aff h62 (b := c41) (a := i0) (b' := i1) (c := i2) (d := i3) (e := i4) (f := i5) (n := i6) (by simp)
          have zh620 := St.cell h62 (b := b8) (cs := #[.int .i64 u0, .int .i64 u1, .int .i64 u2, .int .i64 u3, .int .i64 u4, .int .i64 u5, .int .i64 u6, .int .i64 te]) (t := 44) (by simp) 0; have zh621 := St.cell h62 (b := b8) (cs := #[.int .i64 u0, .int .i64 u1, .int .i64 u2, .int .i64 u3, .int .i64 u4, .int .i64 u5, .int .i64 u6, .int .i64 te]) (t := 44) (by simp) 1; have zh622 := St.cell h62 (b := b8) (cs := #[.int .i64 u0, .int .i64 u1, .int .i64 u2, .int .i64 u3, .int .i64 u4, .int .i64 u5, .int .i64 u6, .int .i64 te]) (t := 44) (by simp) 2; have zh623 := St.cell h62 (b := b8) (cs := #[.int .i64 u0, .int .i64 u1, .int .i64 u2, .int .i64 u3, .int .i64 u4, .int .i64 u5, .int .i64 u6, .int .i64 te]) (t := 44) (by simp) 3; have zh624 := St.cell h62 (b := b8) (cs := #[.int .i64 u0, .int .i64 u1, .int .i64 u2, .int .i64 u3, .int .i64 u4, .int .i64 u5, .int .i64 u6, .int .i64 te]) (t := 44) (by simp) 4; have zh625 := St.cell h62 (b := b8) (cs := #[.int .i64 u0, .int .i64 u1, .int .i64 u2, .int .i64 u3, .int .i64 u4, .int .i64 u5, .int .i64 u6, .int .i64 te]) (t := 44) (by simp) 5; have zh626 := St.cell h62 (b := b8) (cs := #[.int .i64 u0, .int .i64 u1, .int .i64 u2, .int .i64 u3, .int .i64 u4, .int .i64 u5, .int .i64 u6, .int .i64 te]) (t := 44) (by simp) 6; have zh627 := St.cell h62 (b := b8) (cs := #[.int .i64 u0, .int .i64 u1, .int .i64 u2, .int .i64 u3, .int .i64 u4, .int .i64 u5, .int .i64 u6, .int .i64 te]) (t := 44) (by simp) 7; simp only [List.getElem?_toArray, List.getElem?_cons_zero, List.getElem?_cons_succ] at zh620 zh621 zh622 zh623 zh624 zh625 zh626 zh627
          have zh620 := St.cell h62 (b := c61) (cs := #[.int .i64 i0, .int .i64 i1, .int .i64 i2, .int .i64 i3, .int .i64 i4, .int .i64 i5, .int .i64 i6, .int .i64 ie]) (t := 44) (by simp) 0; have zh621 := St.cell h62 (b := c61) (cs := #[.int .i64 i0, .int .i64 i1, .int .i64 i2, .int .i64 i3, .int .i64 i4, .int .i64 i5, .int .i64 i6, .int .i64 ie]) (t := 44) (by simp) 1; have zh622 := St.cell h62 (b := c61) (cs := #[.int .i64 i0, .int .i64 i1, .int .i64 i2, .int .i64 i3, .int .i64 i4, .int .i64 i5, .int .i64 i6, .int .i64 ie]) (t := 44) (by simp) 2; have zh623 := St.cell h62 (b := c61) (cs := #[.int .i64 i0, .int .i64 i1, .int .i64 i2, .int .i64 i3, .int .i64 i4, .int .i64 i5, .int .i64 i6, .int .i64 ie]) (t := 44) (by simp) 3; have zh624 := St.cell h62 (b := c61) (cs := #[.int .i64 i0, .int .i64 i1, .int .i64 i2, .int .i64 i3, .int .i64 i4, .int .i64 i5, .int .i64 i6, .int .i64 ie]) (t := 44) (by simp) 4; have zh625 := St.cell h62 (b := c61) (cs := #[.int .i64 i0, .int .i64 i1, .int .i64 i2, .int .i64 i3, .int .i64 i4, .int .i64 i5, .int .i64 i6, .int .i64 ie]) (t := 44) (by simp) 5; have zh626 := St.cell h62 (b := c61) (cs := #[.int .i64 i0, .int .i64 i1, .int .i64 i2, .int .i64 i3, .int .i64 i4, .int .i64 i5, .int .i64 i6, .int .i64 ie]) (t := 44) (by simp) 6; have zh627 := St.cell h62 (b := c61) (cs := #[.int .i64 i0, .int .i64 i1, .int .i64 i2, .int .i64 i3, .int .i64 i4, .int .i64 i5, .int .i64 i6, .int .i64 ie]) (t := 44) (by simp) 7; simp only [List.getElem?_toArray, List.getElem?_cons_zero, List.getElem?_cons_succ] at zh620 zh621 zh622 zh623 zh624 zh625 zh626 zh627
          go_wp2_with fail
          exact ⟨⟨.inr (.inl rfl), h62.sub (by intro x hx; simp at hx ⊢; subst hx; simp)⟩, by decide⟩
    · obtain ⟨u0, u1, u2, u3, u4, u5, u6, te, hth⟩ : ∃ u0 u1 u2 u3 u4 u5 u6 te, thn ⟨s0, s1, s2, s3, s4, s5, s6⟩ ⟨t0, t1, t2, t3, t4, t5, t6⟩ = ⟨⟨u0, u1, u2, u3, u4, u5, u6⟩, te⟩ := ⟨_, _, _, _, _, _, _, _, rfl⟩
      obtain ⟨i0, i1, i2, i3, i4, i5, i6, ie, hiv⟩ : ∃ i0 i1 i2 i3 i4 i5 i6 ie, ivt ⟨s0, s1, s2, s3, s4, s5, s6⟩ = ⟨⟨i0, i1, i2, i3, i4, i5, i6⟩, ie⟩ := ⟨_, _, _, _, _, _, _, _, rfl⟩
      have HT : Hid (∀ W, Calls Try.prog 25 #[av s0 s1 s2 s3 s4 s5 s6, av t0 t1 t2 t3 t4 t5 t6] W fun en w' => en = .returned (.tuple #[av u0 u1 u2 u3 u4 u5 u6, .int .i64 te]) ∧ Below W.heap.size W w') := fun W => by
        have := then_any s0 s1 s2 s3 s4 s5 s6 t0 t1 t2 t3 t4 t5 t6 W; rw [hth] at this; exact this
      have HI : Hid (∀ W, Calls Try.prog 26 #[av s0 s1 s2 s3 s4 s5 s6] W fun en w' => en = .returned (.tuple #[av i0 i1 i2 i3 i4 i5 i6, .int .i64 ie]) ∧ Below W.heap.size W w') := fun W => by
        have := inverse_any s0 s1 s2 s3 s4 s5 s6 W; rw [hiv] at this; exact this
      have HRT : Hid (∀ W, Calls Try.prog 27 #[av s0 s1 s2 s3 s4 s5 s6, av t0 t1 t2 t3 t4 t5 t6] W fun en w' => en = .returned (gv u0 u1 u2 u3 u4 u5 u6 te) ∧ Below W.heap.size W w') := fun W => by
        have := refThen_any s0 s1 s2 s3 s4 s5 s6 t0 t1 t2 t3 t4 t5 t6 W; rw [hth] at this; exact this
      have HRI : Hid (∀ W, Calls Try.prog 28 #[av s0 s1 s2 s3 s4 s5 s6] W fun en w' => en = .returned (gv i0 i1 i2 i3 i4 i5 i6 ie) ∧ Below W.heap.size W w') := fun W => by
        have := refInverse_any s0 s1 s2 s3 s4 s5 s6 W; rw [hiv] at this; exact this
      clear hth hiv
      obtain ⟨_, _, _, _, _, _, _, _, _, _, _, _, _, _⟩ := HC1.out _ (St.row hS (b := c3) (o := O) (by simp))
      go_upto_region 8 with fail
      have HP : Hid (∀ V9, St w [(c3, O)] V9 → St w [(c3, O)] V9 ∧ V9.cell? ⟨c3, 14, none⟩ = some (.int .i64 s0) ∧ V9.cell? ⟨c3, 15, none⟩ = some (.int .i64 s1) ∧ V9.cell? ⟨c3, 16, none⟩ = some (.int .i64 s2) ∧ V9.cell? ⟨c3, 17, none⟩ = some (.int .i64 s3) ∧ V9.cell? ⟨c3, 18, none⟩ = some (.int .i64 s4) ∧ V9.cell? ⟨c3, 19, none⟩ = some (.int .i64 s5) ∧ V9.cell? ⟨c3, 20, none⟩ = some (.int .i64 s6) ∧ V9.cell? ⟨c3, 21, none⟩ = some (.int .i64 t0) ∧ V9.cell? ⟨c3, 22, none⟩ = some (.int .i64 t1) ∧ V9.cell? ⟨c3, 23, none⟩ = some (.int .i64 t2) ∧ V9.cell? ⟨c3, 24, none⟩ = some (.int .i64 t3) ∧ V9.cell? ⟨c3, 25, none⟩ = some (.int .i64 t4) ∧ V9.cell? ⟨c3, 26, none⟩ = some (.int .i64 t5) ∧ V9.cell? ⟨c3, 27, none⟩ = some (.int .i64 t6)) := fun V hV => ⟨hV, HC1.out V (hV.row (b := c3) (o := O) (by simp))⟩
      go_cut [12, 13] (fun v8 v9 wx => ∃ b9, v8 = .pointer (some ⟨b9, 0, none⟩) ∧ v9 = .int .i64 te ∧ Hid (St w ((b9, ao u0 u1 u2 u3 u4 u5 u6) :: [(c3, O)]) wx))
      case first =>
        refine wp_region_held_drew (S := fun V9 => St w [(c3, O)] V9 ∧ V9.cell? ⟨c3, 14, none⟩ = some (.int .i64 s0) ∧ V9.cell? ⟨c3, 15, none⟩ = some (.int .i64 s1) ∧ V9.cell? ⟨c3, 16, none⟩ = some (.int .i64 s2) ∧ V9.cell? ⟨c3, 17, none⟩ = some (.int .i64 s3) ∧ V9.cell? ⟨c3, 18, none⟩ = some (.int .i64 s4) ∧ V9.cell? ⟨c3, 19, none⟩ = some (.int .i64 s5) ∧ V9.cell? ⟨c3, 20, none⟩ = some (.int .i64 s6) ∧ V9.cell? ⟨c3, 21, none⟩ = some (.int .i64 t0) ∧ V9.cell? ⟨c3, 22, none⟩ = some (.int .i64 t1) ∧ V9.cell? ⟨c3, 23, none⟩ = some (.int .i64 t2) ∧ V9.cell? ⟨c3, 24, none⟩ = some (.int .i64 t3) ∧ V9.cell? ⟨c3, 25, none⟩ = some (.int .i64 t4) ∧ V9.cell? ⟨c3, 26, none⟩ = some (.int .i64 t5) ∧ V9.cell? ⟨c3, 27, none⟩ = some (.int .i64 t6)) (by kernel_rfl) ?_ (fun hHeld => ?_)
        · exact HP.out _ (hS.drew)
        have hS0 := hS.drew
        refine wpAnyH_take (i := 0) (oi := { dst := some 43, op := Op.move (Operand.tmp 11), type := 3, pos := "law.go:50", after := #[], guard := none }) (v := ?_) rfl (by kernel_rfl) (by kernel_rfl) (by kernel_rfl) (fun _ _ _ h => h) (Or.inl ⟨by kernel_rfl, ?_⟩) (by assumption) ?_
        rotate_left 1
        focus (intro w hSw; (try dsimp only at hSw); go_simp; (try with_reducible rfl))
        try simp only [Act.put, List.setIfInBounds_toArray, List.set_cons_zero, List.set_cons_succ]
        refine wpAnyH_take (i := 1) (oi := { dst := some 44, op := Op.indexAddr 38 (Operand.tmp 10) (Operand.tmp 43), type := 0, pos := "law.go:50", after := #[{ on := 0, ground := Ground.data }], guard := none }) (v := ?_) rfl (by kernel_rfl) (by kernel_rfl) (by kernel_rfl) (fun _ _ _ h => h) (Or.inl ⟨by kernel_rfl, ?_⟩) (by assumption) ?_
        rotate_left 1
        focus (intro w hSw; (try dsimp only at hSw); go_simp; (try with_reducible rfl))
        try simp only [Act.put, List.setIfInBounds_toArray, List.set_cons_zero, List.set_cons_succ]
        refine wpAnyH_take (i := 2) (oi := { dst := some 45, op := Op.indexAddr 37 (Operand.tmp 44) (Operand.const (Value.int IntKind.i64 0)), type := 0, pos := "law.go:50", after := #[{ on := 1, ground := Ground.data }], guard := none }) (v := ?_) rfl (by kernel_rfl) (by kernel_rfl) (by kernel_rfl) (fun _ _ _ h => h) (Or.inl ⟨by kernel_rfl, ?_⟩) (by assumption) ?_
        rotate_left 1
        focus (intro w hSw; (try dsimp only at hSw); go_simp; (try with_reducible rfl))
        try simp only [Act.put, List.setIfInBounds_toArray, List.set_cons_zero, List.set_cons_succ]
        refine wpAnyH_take (i := 3) (oi := { dst := some 46, op := Op.load 23 (Operand.tmp 45), type := 23, pos := "law.go:50", after := #[{ on := 2, ground := Ground.data }], guard := none }) (v := ?_) rfl (by kernel_rfl) (by kernel_rfl) (by kernel_rfl) (fun _ _ _ h => h) (Or.inl ⟨by kernel_rfl, ?_⟩) (by assumption) ?_
        rotate_left 1
        focus (intro w hSw; (try dsimp only at hSw); go_simp; (try with_reducible rfl))
        try simp only [Act.put, List.setIfInBounds_toArray, List.set_cons_zero, List.set_cons_succ]
        refine wpAnyH_take (i := 4) (oi := { dst := some 47, op := Op.move (Operand.tmp 11), type := 3, pos := "law.go:50", after := #[], guard := none }) (v := ?_) rfl (by kernel_rfl) (by kernel_rfl) (by kernel_rfl) (fun _ _ _ h => h) (Or.inl ⟨by kernel_rfl, ?_⟩) (by assumption) ?_
        rotate_left 1
        focus (intro w hSw; (try dsimp only at hSw); go_simp; (try with_reducible rfl))
        try simp only [Act.put, List.setIfInBounds_toArray, List.set_cons_zero, List.set_cons_succ]
        refine wpAnyH_take (i := 5) (oi := { dst := some 48, op := Op.indexAddr 38 (Operand.tmp 10) (Operand.tmp 47), type := 0, pos := "law.go:50", after := #[{ on := 4, ground := Ground.data }], guard := none }) (v := ?_) rfl (by kernel_rfl) (by kernel_rfl) (by kernel_rfl) (fun _ _ _ h => h) (Or.inl ⟨by kernel_rfl, ?_⟩) (by assumption) ?_
        rotate_left 1
        focus (intro w hSw; (try dsimp only at hSw); go_simp; (try with_reducible rfl))
        try simp only [Act.put, List.setIfInBounds_toArray, List.set_cons_zero, List.set_cons_succ]
        refine wpAnyH_take (i := 6) (oi := { dst := some 49, op := Op.indexAddr 37 (Operand.tmp 48) (Operand.const (Value.int IntKind.i64 1)), type := 0, pos := "law.go:50", after := #[{ on := 5, ground := Ground.data }], guard := none }) (v := ?_) rfl (by kernel_rfl) (by kernel_rfl) (by kernel_rfl) (fun _ _ _ h => h) (Or.inl ⟨by kernel_rfl, ?_⟩) (by assumption) ?_
        rotate_left 1
        focus (intro w hSw; (try dsimp only at hSw); go_simp; (try with_reducible rfl))
        try simp only [Act.put, List.setIfInBounds_toArray, List.set_cons_zero, List.set_cons_succ]
        refine wpAnyH_take (i := 7) (oi := { dst := some 50, op := Op.load 23 (Operand.tmp 49), type := 23, pos := "law.go:50", after := #[{ on := 6, ground := Ground.data }], guard := none }) (v := ?_) rfl (by kernel_rfl) (by kernel_rfl) (by kernel_rfl) (fun _ _ _ h => h) (Or.inl ⟨by kernel_rfl, ?_⟩) (by assumption) ?_
        rotate_left 1
        focus (intro w hSw; (try dsimp only at hSw); go_simp; (try with_reducible rfl))
        try simp only [Act.put, List.setIfInBounds_toArray, List.set_cons_zero, List.set_cons_succ]
        refine wpAnyH_ready (rs := [8, 12]) (by kernel_rfl) (by simp) (AllReadyH.cons (o := { dst := some 51, op := Op.call { callee := Callee.value (Operand.func 25), args := #[Operand.tmp 46, Operand.tmp 50], argTypes := #[23, 23] }, type := 40, pos := "law.go:50", after := #[{ on := 3, ground := Ground.data }, { on := 7, ground := Ground.data }], guard := none }) rfl (fun K hK => ?_) (AllReadyH.cons (o := { dst := some 12, op := Op.alloc 23, type := 0, pos := "law.go:50", after := #[], guard := none }) rfl (fun K hK => ?_) AllReadyH.nil))
        · (go_simp; (go_at_call 25; (refine (St.call hS0 (HT.out _)).mono ?_); rintro e V1r8 ⟨rfl, hS1r8⟩))
          refine hK.out _ _ ?_ (fun hHeld => ?_)
          · exact HP.out _ (hS1r8)
          clear hK K
          try simp only [Act.put, List.setIfInBounds_toArray, List.set_cons_zero, List.set_cons_succ]
          refine wpAnyH_take (i := 9) (oi := { dst := some 42, op := Op.move (Operand.tmp 51), type := 40, pos := "law.go:50", after := #[{ on := 8, ground := Ground.data }], guard := none }) (v := ?_) rfl (by kernel_rfl) (by kernel_rfl) (by kernel_rfl) (fun _ _ _ h => h) (Or.inl ⟨by kernel_rfl, ?_⟩) (by assumption) ?_
          rotate_left 1
          focus (intro w hSw; (try dsimp only at hSw); go_simp; (try with_reducible rfl))
          try simp only [Act.put, List.setIfInBounds_toArray, List.set_cons_zero, List.set_cons_succ]
          refine wpAnyH_take (i := 10) (oi := { dst := some 52, op := Op.extract (Operand.tmp 42) 0, type := 23, pos := "law.go:50", after := #[{ on := 9, ground := Ground.data }], guard := none }) (v := ?_) rfl (by kernel_rfl) (by kernel_rfl) (by kernel_rfl) (fun _ _ _ h => h) (Or.inl ⟨by kernel_rfl, ?_⟩) (by assumption) ?_
          rotate_left 1
          focus (intro w hSw; (try dsimp only at hSw); go_simp; (try with_reducible rfl))
          try simp only [Act.put, List.setIfInBounds_toArray, List.set_cons_zero, List.set_cons_succ]
          refine wpAnyH_take (i := 11) (oi := { dst := some 53, op := Op.extract (Operand.tmp 42) 1, type := 39, pos := "law.go:50", after := #[{ on := 9, ground := Ground.data }, { on := 13, ground := Ground.gcOnly Departure.lateStores }], guard := none }) (v := ?_) rfl (by kernel_rfl) (by kernel_rfl) (by kernel_rfl) (fun _ _ _ h => h) (Or.inl ⟨by kernel_rfl, ?_⟩) (by assumption) ?_
          rotate_left 1
          focus (intro w hSw; (try dsimp only at hSw); go_simp; (try with_reducible rfl))
          try simp only [Act.put, List.setIfInBounds_toArray, List.set_cons_zero, List.set_cons_succ]
          refine wpAnyH_ready (rs := [12]) (by kernel_rfl) (by simp) (AllReadyH.cons (o := { dst := some 12, op := Op.alloc 23, type := 0, pos := "law.go:50", after := #[], guard := none }) rfl (fun K hK => ?_) AllReadyH.nil)
          have hne12r8 := hS1r8.ne
          have hle12r8 := hS1r8.below.size
          have hlt12r8 := fun (b : Nat) (o : Obj) (hm : (b, o) ∈ _) => hS1r8.lt hm
          have hS2r8 := hS1r8.alloc (.cells #[.int .i64 0, .int .i64 0, .int .i64 0, .int .i64 0, .int .i64 0, .int .i64 0, .int .i64 0] 23)
          refine wp_alloc_of 23 rfl _ (zero_aff _) ?_
          refine hK.out _ _ ?_ (fun hHeld => ?_)
          · exact HP.out _ (hS2r8.tl)
          clear hK K
          try simp only [Act.put, List.setIfInBounds_toArray, List.set_cons_zero, List.set_cons_succ]
          refine wpAnyH_ready (rs := [13]) (by kernel_rfl) (by simp) (AllReadyH.cons (o := { dst := none, op := Op.store 23 (Operand.tmp 12) (Operand.tmp 52), type := 0, pos := "law.go:50", after := #[{ on := 12, ground := Ground.data }, { on := 10, ground := Ground.data }, { on := 8, ground := Ground.chain }, { on := 0, ground := Ground.phase }, { on := 1, ground := Ground.phase }, { on := 2, ground := Ground.phase }, { on := 3, ground := Ground.phase }, { on := 4, ground := Ground.phase }, { on := 5, ground := Ground.phase }, { on := 6, ground := Ground.phase }, { on := 7, ground := Ground.phase }, { on := 8, ground := Ground.phase }, { on := 9, ground := Ground.phase }, { on := 10, ground := Ground.phase }, { on := 11, ground := Ground.textOnly Departure.lateStores }, { on := 12, ground := Ground.phase }], guard := none }) rfl (fun K hK => ?_) AllReadyH.nil)
          have hS3r8 := hS2r8.rowset (ds := #[.int .i64 u0, .int .i64 u1, .int .i64 u2, .int .i64 u3, .int .i64 u4, .int .i64 u5, .int .i64 u6]) hle12r8 hne12r8
          refine wp_store_of 23 _ _ rfl (store_row 23 (cs := #[.int .i64 0, .int .i64 0, .int .i64 0, .int .i64 0, .int .i64 0, .int .i64 0, .int .i64 0]) (ds := #[.int .i64 u0, .int .i64 u1, .int .i64 u2, .int .i64 u3, .int .i64 u4, .int .i64 u5, .int .i64 u6]) (by kernel_rfl) rfl (by simp [Value.oneCell']) hS2r8.hd) ?_
          refine hK.out _ _ ?_ (fun hHeld => ?_)
          · exact HP.out _ (hS3r8.tl)
          clear hK K
          try simp only [Act.put]
          refine wpAnyH_take (i := 14) (oi := { dst := some 13, op := Op.assign (Operand.tmp 53), type := 39, pos := "law.go:50", after := #[{ on := 11, ground := Ground.data }, { on := 13, ground := Ground.chain }, { on := 0, ground := Ground.phase }, { on := 1, ground := Ground.phase }, { on := 2, ground := Ground.phase }, { on := 3, ground := Ground.phase }, { on := 4, ground := Ground.phase }, { on := 5, ground := Ground.phase }, { on := 6, ground := Ground.phase }, { on := 7, ground := Ground.phase }, { on := 8, ground := Ground.phase }, { on := 9, ground := Ground.phase }, { on := 10, ground := Ground.phase }, { on := 11, ground := Ground.phase }, { on := 12, ground := Ground.phase }, { on := 13, ground := Ground.phase }], guard := none }) (v := ?_) rfl (by kernel_rfl) (by kernel_rfl) (by kernel_rfl) (fun _ _ _ h => h) (Or.inl ⟨by kernel_rfl, ?_⟩) (by assumption) ?_
          rotate_left 1
          focus (intro w hSw; (try dsimp only at hSw); go_simp; (try with_reducible rfl))
          try simp only [Act.put, List.setIfInBounds_toArray, List.set_cons_zero, List.set_cons_succ]
          refine wpAnyH_done (by kernel_rfl) ?_ _
          have h9 := hS3r8
          go_wp2_with fail
          go_meet
          case rel => exact ⟨_, rfl, rfl, h9⟩
        · have hne12r8 := hS0.ne
          have hle12r8 := hS0.below.size
          have hlt12r8 := fun (b : Nat) (o : Obj) (hm : (b, o) ∈ _) => hS0.lt hm
          have hS4r8 := hS0.alloc (.cells #[.int .i64 0, .int .i64 0, .int .i64 0, .int .i64 0, .int .i64 0, .int .i64 0, .int .i64 0] 23)
          refine wp_alloc_of 23 rfl _ (zero_aff _) ?_
          refine hK.out _ _ ?_ (fun hHeld => ?_)
          · exact HP.out _ (hS4r8.tl)
          clear hK K
          try simp only [Act.put, List.setIfInBounds_toArray, List.set_cons_zero, List.set_cons_succ]
          refine wpAnyH_ready (rs := [8]) (by kernel_rfl) (by simp) (AllReadyH.cons (o := { dst := some 51, op := Op.call { callee := Callee.value (Operand.func 25), args := #[Operand.tmp 46, Operand.tmp 50], argTypes := #[23, 23] }, type := 40, pos := "law.go:50", after := #[{ on := 3, ground := Ground.data }, { on := 7, ground := Ground.data }], guard := none }) rfl (fun K hK => ?_) AllReadyH.nil)
          (go_simp; (go_at_call 25; (refine (St.call hS4r8 (HT.out _)).mono ?_); rintro e V5r8 ⟨rfl, hS5r8⟩))
          refine hK.out _ _ ?_ (fun hHeld => ?_)
          · exact HP.out _ (hS5r8.tl)
          clear hK K
          try simp only [Act.put, List.setIfInBounds_toArray, List.set_cons_zero, List.set_cons_succ]
          refine wpAnyH_take (i := 9) (oi := { dst := some 42, op := Op.move (Operand.tmp 51), type := 40, pos := "law.go:50", after := #[{ on := 8, ground := Ground.data }], guard := none }) (v := ?_) rfl (by kernel_rfl) (by kernel_rfl) (by kernel_rfl) (fun _ _ _ h => h) (Or.inl ⟨by kernel_rfl, ?_⟩) (by assumption) ?_
          rotate_left 1
          focus (intro w hSw; (try dsimp only at hSw); go_simp; (try with_reducible rfl))
          try simp only [Act.put, List.setIfInBounds_toArray, List.set_cons_zero, List.set_cons_succ]
          refine wpAnyH_take (i := 10) (oi := { dst := some 52, op := Op.extract (Operand.tmp 42) 0, type := 23, pos := "law.go:50", after := #[{ on := 9, ground := Ground.data }], guard := none }) (v := ?_) rfl (by kernel_rfl) (by kernel_rfl) (by kernel_rfl) (fun _ _ _ h => h) (Or.inl ⟨by kernel_rfl, ?_⟩) (by assumption) ?_
          rotate_left 1
          focus (intro w hSw; (try dsimp only at hSw); go_simp; (try with_reducible rfl))
          try simp only [Act.put, List.setIfInBounds_toArray, List.set_cons_zero, List.set_cons_succ]
          refine wpAnyH_take (i := 11) (oi := { dst := some 53, op := Op.extract (Operand.tmp 42) 1, type := 39, pos := "law.go:50", after := #[{ on := 9, ground := Ground.data }, { on := 13, ground := Ground.gcOnly Departure.lateStores }], guard := none }) (v := ?_) rfl (by kernel_rfl) (by kernel_rfl) (by kernel_rfl) (fun _ _ _ h => h) (Or.inl ⟨by kernel_rfl, ?_⟩) (by assumption) ?_
          rotate_left 1
          focus (intro w hSw; (try dsimp only at hSw); go_simp; (try with_reducible rfl))
          try simp only [Act.put, List.setIfInBounds_toArray, List.set_cons_zero, List.set_cons_succ]
          refine wpAnyH_ready (rs := [13]) (by kernel_rfl) (by simp) (AllReadyH.cons (o := { dst := none, op := Op.store 23 (Operand.tmp 12) (Operand.tmp 52), type := 0, pos := "law.go:50", after := #[{ on := 12, ground := Ground.data }, { on := 10, ground := Ground.data }, { on := 8, ground := Ground.chain }, { on := 0, ground := Ground.phase }, { on := 1, ground := Ground.phase }, { on := 2, ground := Ground.phase }, { on := 3, ground := Ground.phase }, { on := 4, ground := Ground.phase }, { on := 5, ground := Ground.phase }, { on := 6, ground := Ground.phase }, { on := 7, ground := Ground.phase }, { on := 8, ground := Ground.phase }, { on := 9, ground := Ground.phase }, { on := 10, ground := Ground.phase }, { on := 11, ground := Ground.textOnly Departure.lateStores }, { on := 12, ground := Ground.phase }], guard := none }) rfl (fun K hK => ?_) AllReadyH.nil)
          have hS6r8 := hS5r8.rowset (ds := #[.int .i64 u0, .int .i64 u1, .int .i64 u2, .int .i64 u3, .int .i64 u4, .int .i64 u5, .int .i64 u6]) hle12r8 hne12r8
          refine wp_store_of 23 _ _ rfl (store_row 23 (cs := #[.int .i64 0, .int .i64 0, .int .i64 0, .int .i64 0, .int .i64 0, .int .i64 0, .int .i64 0]) (ds := #[.int .i64 u0, .int .i64 u1, .int .i64 u2, .int .i64 u3, .int .i64 u4, .int .i64 u5, .int .i64 u6]) (by kernel_rfl) rfl (by simp [Value.oneCell']) hS5r8.hd) ?_
          refine hK.out _ _ ?_ (fun hHeld => ?_)
          · exact HP.out _ (hS6r8.tl)
          clear hK K
          try simp only [Act.put]
          refine wpAnyH_take (i := 14) (oi := { dst := some 13, op := Op.assign (Operand.tmp 53), type := 39, pos := "law.go:50", after := #[{ on := 11, ground := Ground.data }, { on := 13, ground := Ground.chain }, { on := 0, ground := Ground.phase }, { on := 1, ground := Ground.phase }, { on := 2, ground := Ground.phase }, { on := 3, ground := Ground.phase }, { on := 4, ground := Ground.phase }, { on := 5, ground := Ground.phase }, { on := 6, ground := Ground.phase }, { on := 7, ground := Ground.phase }, { on := 8, ground := Ground.phase }, { on := 9, ground := Ground.phase }, { on := 10, ground := Ground.phase }, { on := 11, ground := Ground.phase }, { on := 12, ground := Ground.phase }, { on := 13, ground := Ground.phase }], guard := none }) (v := ?_) rfl (by kernel_rfl) (by kernel_rfl) (by kernel_rfl) (fun _ _ _ h => h) (Or.inl ⟨by kernel_rfl, ?_⟩) (by assumption) ?_
          rotate_left 1
          focus (intro w hSw; (try dsimp only at hSw); go_simp; (try with_reducible rfl))
          try simp only [Act.put, List.setIfInBounds_toArray, List.set_cons_zero, List.set_cons_succ]
          refine wpAnyH_done (by kernel_rfl) ?_ _
          have h9 := hS6r8
          go_wp2_with fail
          go_meet
          case rel => exact ⟨_, rfl, rfl, h9⟩
      case rest =>
        obtain ⟨b9, rfl, rfl, HQ⟩ := hcut
        have h40 := HQ.out
        clear HQ HP hS
        obtain ⟨_, _, _, _, _, _, _, _, _, _, _, _, _, _⟩ := HC1.out _ (St.row h40 (b := c3) (o := O) (by simp))
        go_upto_region 10 with (first | (go_at_call 26; (with_reducible refine (St.call h40 (HI.out _)).mono ?_); rintro en w41 ⟨rfl, h41⟩))
        have h42 := h41.alloc (ao i0 i1 i2 i3 i4 i5 i6)
        generalize w41.heap.size = c41 at h42 ⊢
        generalize w41.alloc (ao i0 i1 i2 i3 i4 i5 i6) = w42 at h42 ⊢
        have HP2 : Hid (∀ V9, St w [(c41, ao i0 i1 i2 i3 i4 i5 i6), (b9, ao u0 u1 u2 u3 u4 u5 u6), (c3, O)] V9 → St w [(c41, ao i0 i1 i2 i3 i4 i5 i6), (b9, ao u0 u1 u2 u3 u4 u5 u6), (c3, O)] V9 ∧ V9.cell? ⟨c3, 14, none⟩ = some (.int .i64 s0) ∧ V9.cell? ⟨c3, 15, none⟩ = some (.int .i64 s1) ∧ V9.cell? ⟨c3, 16, none⟩ = some (.int .i64 s2) ∧ V9.cell? ⟨c3, 17, none⟩ = some (.int .i64 s3) ∧ V9.cell? ⟨c3, 18, none⟩ = some (.int .i64 s4) ∧ V9.cell? ⟨c3, 19, none⟩ = some (.int .i64 s5) ∧ V9.cell? ⟨c3, 20, none⟩ = some (.int .i64 s6) ∧ V9.cell? ⟨c3, 21, none⟩ = some (.int .i64 t0) ∧ V9.cell? ⟨c3, 22, none⟩ = some (.int .i64 t1) ∧ V9.cell? ⟨c3, 23, none⟩ = some (.int .i64 t2) ∧ V9.cell? ⟨c3, 24, none⟩ = some (.int .i64 t3) ∧ V9.cell? ⟨c3, 25, none⟩ = some (.int .i64 t4) ∧ V9.cell? ⟨c3, 26, none⟩ = some (.int .i64 t5) ∧ V9.cell? ⟨c3, 27, none⟩ = some (.int .i64 t6)) := fun V hV => ⟨hV, HC1.out V (hV.row (b := c3) (o := O) (by simp))⟩
        go_cut [16] (fun v8 wx => ∃ b8, v8 = .pointer (some ⟨b8, 0, none⟩) ∧ Hid (St w ((b8, go8 u0 u1 u2 u3 u4 u5 u6 te) :: [(c41, ao i0 i1 i2 i3 i4 i5 i6), (b9, ao u0 u1 u2 u3 u4 u5 u6), (c3, O)]) wx))
        case first =>
          refine wp_region_held_drew (S := fun V9 => St w [(c41, ao i0 i1 i2 i3 i4 i5 i6), (b9, ao u0 u1 u2 u3 u4 u5 u6), (c3, O)] V9 ∧ V9.cell? ⟨c3, 14, none⟩ = some (.int .i64 s0) ∧ V9.cell? ⟨c3, 15, none⟩ = some (.int .i64 s1) ∧ V9.cell? ⟨c3, 16, none⟩ = some (.int .i64 s2) ∧ V9.cell? ⟨c3, 17, none⟩ = some (.int .i64 s3) ∧ V9.cell? ⟨c3, 18, none⟩ = some (.int .i64 s4) ∧ V9.cell? ⟨c3, 19, none⟩ = some (.int .i64 s5) ∧ V9.cell? ⟨c3, 20, none⟩ = some (.int .i64 s6) ∧ V9.cell? ⟨c3, 21, none⟩ = some (.int .i64 t0) ∧ V9.cell? ⟨c3, 22, none⟩ = some (.int .i64 t1) ∧ V9.cell? ⟨c3, 23, none⟩ = some (.int .i64 t2) ∧ V9.cell? ⟨c3, 24, none⟩ = some (.int .i64 t3) ∧ V9.cell? ⟨c3, 25, none⟩ = some (.int .i64 t4) ∧ V9.cell? ⟨c3, 26, none⟩ = some (.int .i64 t5) ∧ V9.cell? ⟨c3, 27, none⟩ = some (.int .i64 t6)) (by kernel_rfl) ?_ (fun hHeld => ?_)
          · exact HP2.out _ (h42.drew)
          have h420 := h42.drew
          refine wpAnyH_take (i := 0) (oi := { dst := some 62, op := Op.move (Operand.tmp 11), type := 3, pos := "law.go:52", after := #[], guard := none }) (v := ?_) rfl (by kernel_rfl) (by kernel_rfl) (by kernel_rfl) (fun _ _ _ h => h) (Or.inl ⟨by kernel_rfl, ?_⟩) (by assumption) ?_
          rotate_left 1
          focus (intro w hSw; (try dsimp only at hSw); go_simp; (try with_reducible rfl))
          try simp only [Act.put, List.setIfInBounds_toArray, List.set_cons_zero, List.set_cons_succ]
          refine wpAnyH_take (i := 1) (oi := { dst := some 63, op := Op.indexAddr 38 (Operand.tmp 10) (Operand.tmp 62), type := 0, pos := "law.go:52", after := #[{ on := 0, ground := Ground.data }], guard := none }) (v := ?_) rfl (by kernel_rfl) (by kernel_rfl) (by kernel_rfl) (fun _ _ _ h => h) (Or.inl ⟨by kernel_rfl, ?_⟩) (by assumption) ?_
          rotate_left 1
          focus (intro w hSw; (try dsimp only at hSw); go_simp; (try with_reducible rfl))
          try simp only [Act.put, List.setIfInBounds_toArray, List.set_cons_zero, List.set_cons_succ]
          refine wpAnyH_take (i := 2) (oi := { dst := some 64, op := Op.indexAddr 37 (Operand.tmp 63) (Operand.const (Value.int IntKind.i64 0)), type := 0, pos := "law.go:52", after := #[{ on := 1, ground := Ground.data }], guard := none }) (v := ?_) rfl (by kernel_rfl) (by kernel_rfl) (by kernel_rfl) (fun _ _ _ h => h) (Or.inl ⟨by kernel_rfl, ?_⟩) (by assumption) ?_
          rotate_left 1
          focus (intro w hSw; (try dsimp only at hSw); go_simp; (try with_reducible rfl))
          try simp only [Act.put, List.setIfInBounds_toArray, List.set_cons_zero, List.set_cons_succ]
          refine wpAnyH_take (i := 3) (oi := { dst := some 65, op := Op.load 23 (Operand.tmp 64), type := 23, pos := "law.go:52", after := #[{ on := 2, ground := Ground.data }], guard := none }) (v := ?_) rfl (by kernel_rfl) (by kernel_rfl) (by kernel_rfl) (fun _ _ _ h => h) (Or.inl ⟨by kernel_rfl, ?_⟩) (by assumption) ?_
          rotate_left 1
          focus (intro w hSw; (try dsimp only at hSw); go_simp; (try with_reducible rfl))
          try simp only [Act.put, List.setIfInBounds_toArray, List.set_cons_zero, List.set_cons_succ]
          refine wpAnyH_take (i := 4) (oi := { dst := some 66, op := Op.move (Operand.tmp 11), type := 3, pos := "law.go:52", after := #[], guard := none }) (v := ?_) rfl (by kernel_rfl) (by kernel_rfl) (by kernel_rfl) (fun _ _ _ h => h) (Or.inl ⟨by kernel_rfl, ?_⟩) (by assumption) ?_
          rotate_left 1
          focus (intro w hSw; (try dsimp only at hSw); go_simp; (try with_reducible rfl))
          try simp only [Act.put, List.setIfInBounds_toArray, List.set_cons_zero, List.set_cons_succ]
          refine wpAnyH_take (i := 5) (oi := { dst := some 67, op := Op.indexAddr 38 (Operand.tmp 10) (Operand.tmp 66), type := 0, pos := "law.go:52", after := #[{ on := 4, ground := Ground.data }], guard := none }) (v := ?_) rfl (by kernel_rfl) (by kernel_rfl) (by kernel_rfl) (fun _ _ _ h => h) (Or.inl ⟨by kernel_rfl, ?_⟩) (by assumption) ?_
          rotate_left 1
          focus (intro w hSw; (try dsimp only at hSw); go_simp; (try with_reducible rfl))
          try simp only [Act.put, List.setIfInBounds_toArray, List.set_cons_zero, List.set_cons_succ]
          refine wpAnyH_take (i := 6) (oi := { dst := some 68, op := Op.indexAddr 37 (Operand.tmp 67) (Operand.const (Value.int IntKind.i64 1)), type := 0, pos := "law.go:52", after := #[{ on := 5, ground := Ground.data }], guard := none }) (v := ?_) rfl (by kernel_rfl) (by kernel_rfl) (by kernel_rfl) (fun _ _ _ h => h) (Or.inl ⟨by kernel_rfl, ?_⟩) (by assumption) ?_
          rotate_left 1
          focus (intro w hSw; (try dsimp only at hSw); go_simp; (try with_reducible rfl))
          try simp only [Act.put, List.setIfInBounds_toArray, List.set_cons_zero, List.set_cons_succ]
          refine wpAnyH_take (i := 7) (oi := { dst := some 69, op := Op.load 23 (Operand.tmp 68), type := 23, pos := "law.go:52", after := #[{ on := 6, ground := Ground.data }], guard := none }) (v := ?_) rfl (by kernel_rfl) (by kernel_rfl) (by kernel_rfl) (fun _ _ _ h => h) (Or.inl ⟨by kernel_rfl, ?_⟩) (by assumption) ?_
          rotate_left 1
          focus (intro w hSw; (try dsimp only at hSw); go_simp; (try with_reducible rfl))
          try simp only [Act.put, List.setIfInBounds_toArray, List.set_cons_zero, List.set_cons_succ]
          refine wpAnyH_ready (rs := [8, 9]) (by kernel_rfl) (by simp) (AllReadyH.cons (o := { dst := some 70, op := Op.call { callee := Callee.value (Operand.func 27), args := #[Operand.tmp 65, Operand.tmp 69], argTypes := #[23, 23] }, type := 44, pos := "law.go:52", after := #[{ on := 3, ground := Ground.data }, { on := 7, ground := Ground.data }], guard := none }) rfl (fun K hK => ?_) (AllReadyH.cons (o := { dst := some 16, op := Op.alloc 44, type := 0, pos := "law.go:52", after := #[], guard := none }) rfl (fun K hK => ?_) AllReadyH.nil))
          · (go_simp; (go_at_call 27; (refine (St.call h420 (HRT.out _)).mono ?_); rintro e V1r10 ⟨rfl, h421r10⟩))
            refine hK.out _ _ ?_ (fun hHeld => ?_)
            · exact HP2.out _ (h421r10)
            clear hK K
            try simp only [Act.put, List.setIfInBounds_toArray, List.set_cons_zero, List.set_cons_succ]
            refine wpAnyH_ready (rs := [9]) (by kernel_rfl) (by simp) (AllReadyH.cons (o := { dst := some 16, op := Op.alloc 44, type := 0, pos := "law.go:52", after := #[], guard := none }) rfl (fun K hK => ?_) AllReadyH.nil)
            have hne9r10 := h421r10.ne
            have hle9r10 := h421r10.below.size
            have hlt9r10 := fun (b : Nat) (o : Obj) (hm : (b, o) ∈ _) => h421r10.lt hm
            have h422r10 := h421r10.alloc (.cells #[.int .i64 0, .int .i64 0, .int .i64 0, .int .i64 0, .int .i64 0, .int .i64 0, .int .i64 0, .int .i64 0] 44)
            refine wp_alloc_of 44 rfl _ (zero_got _) ?_
            refine hK.out _ _ ?_ (fun hHeld => ?_)
            · exact HP2.out _ (h422r10.tl)
            clear hK K
            try simp only [Act.put, List.setIfInBounds_toArray, List.set_cons_zero, List.set_cons_succ]
            refine wpAnyH_ready (rs := [10]) (by kernel_rfl) (by simp) (AllReadyH.cons (o := { dst := none, op := Op.store 44 (Operand.tmp 16) (Operand.tmp 70), type := 0, pos := "law.go:52", after := #[{ on := 9, ground := Ground.data }, { on := 8, ground := Ground.data }, { on := 8, ground := Ground.chain }, { on := 0, ground := Ground.phase }, { on := 1, ground := Ground.phase }, { on := 2, ground := Ground.phase }, { on := 3, ground := Ground.phase }, { on := 4, ground := Ground.phase }, { on := 5, ground := Ground.phase }, { on := 6, ground := Ground.phase }, { on := 7, ground := Ground.phase }, { on := 8, ground := Ground.phase }, { on := 9, ground := Ground.phase }], guard := none }) rfl (fun K hK => ?_) AllReadyH.nil)
            have h423r10 := h422r10.rowset (ds := #[.int .i64 u0, .int .i64 u1, .int .i64 u2, .int .i64 u3, .int .i64 u4, .int .i64 u5, .int .i64 u6, .int .i64 te]) hle9r10 hne9r10
            refine wp_store_of 44 _ _ rfl (store_row 44 (cs := #[.int .i64 0, .int .i64 0, .int .i64 0, .int .i64 0, .int .i64 0, .int .i64 0, .int .i64 0, .int .i64 0]) (ds := #[.int .i64 u0, .int .i64 u1, .int .i64 u2, .int .i64 u3, .int .i64 u4, .int .i64 u5, .int .i64 u6, .int .i64 te]) (by kernel_rfl) rfl (by simp [Value.oneCell']) h422r10.hd) ?_
            refine hK.out _ _ ?_ (fun hHeld => ?_)
            · exact HP2.out _ (h423r10.tl)
            clear hK K
            try simp only [Act.put]
            refine wpAnyH_done (by kernel_rfl) ?_ _
            have h9 := h423r10
            go_wp2_with fail
            go_meet
            case rel => exact ⟨_, rfl, h9⟩
          · have hne9r10 := h420.ne
            have hle9r10 := h420.below.size
            have hlt9r10 := fun (b : Nat) (o : Obj) (hm : (b, o) ∈ _) => h420.lt hm
            have h424r10 := h420.alloc (.cells #[.int .i64 0, .int .i64 0, .int .i64 0, .int .i64 0, .int .i64 0, .int .i64 0, .int .i64 0, .int .i64 0] 44)
            refine wp_alloc_of 44 rfl _ (zero_got _) ?_
            refine hK.out _ _ ?_ (fun hHeld => ?_)
            · exact HP2.out _ (h424r10.tl)
            clear hK K
            try simp only [Act.put, List.setIfInBounds_toArray, List.set_cons_zero, List.set_cons_succ]
            refine wpAnyH_ready (rs := [8]) (by kernel_rfl) (by simp) (AllReadyH.cons (o := { dst := some 70, op := Op.call { callee := Callee.value (Operand.func 27), args := #[Operand.tmp 65, Operand.tmp 69], argTypes := #[23, 23] }, type := 44, pos := "law.go:52", after := #[{ on := 3, ground := Ground.data }, { on := 7, ground := Ground.data }], guard := none }) rfl (fun K hK => ?_) AllReadyH.nil)
            (go_simp; (go_at_call 27; (refine (St.call h424r10 (HRT.out _)).mono ?_); rintro e V5r10 ⟨rfl, h425r10⟩))
            refine hK.out _ _ ?_ (fun hHeld => ?_)
            · exact HP2.out _ (h425r10.tl)
            clear hK K
            try simp only [Act.put, List.setIfInBounds_toArray, List.set_cons_zero, List.set_cons_succ]
            refine wpAnyH_ready (rs := [10]) (by kernel_rfl) (by simp) (AllReadyH.cons (o := { dst := none, op := Op.store 44 (Operand.tmp 16) (Operand.tmp 70), type := 0, pos := "law.go:52", after := #[{ on := 9, ground := Ground.data }, { on := 8, ground := Ground.data }, { on := 8, ground := Ground.chain }, { on := 0, ground := Ground.phase }, { on := 1, ground := Ground.phase }, { on := 2, ground := Ground.phase }, { on := 3, ground := Ground.phase }, { on := 4, ground := Ground.phase }, { on := 5, ground := Ground.phase }, { on := 6, ground := Ground.phase }, { on := 7, ground := Ground.phase }, { on := 8, ground := Ground.phase }, { on := 9, ground := Ground.phase }], guard := none }) rfl (fun K hK => ?_) AllReadyH.nil)
            have h426r10 := h425r10.rowset (ds := #[.int .i64 u0, .int .i64 u1, .int .i64 u2, .int .i64 u3, .int .i64 u4, .int .i64 u5, .int .i64 u6, .int .i64 te]) hle9r10 hne9r10
            refine wp_store_of 44 _ _ rfl (store_row 44 (cs := #[.int .i64 0, .int .i64 0, .int .i64 0, .int .i64 0, .int .i64 0, .int .i64 0, .int .i64 0, .int .i64 0]) (ds := #[.int .i64 u0, .int .i64 u1, .int .i64 u2, .int .i64 u3, .int .i64 u4, .int .i64 u5, .int .i64 u6, .int .i64 te]) (by kernel_rfl) rfl (by simp [Value.oneCell']) h425r10.hd) ?_
            refine hK.out _ _ ?_ (fun hHeld => ?_)
            · exact HP2.out _ (h426r10.tl)
            clear hK K
            try simp only [Act.put]
            refine wpAnyH_done (by kernel_rfl) ?_ _
            have h9 := h426r10
            go_wp2_with fail
            go_meet
            case rel => exact ⟨_, rfl, h9⟩
        case rest =>
          obtain ⟨b8, rfl, HQ⟩ := hcut
          have h60 := HQ.out
          clear HQ HP2 h42
          obtain ⟨_, _, _, _, _, _, _, _, _, _, _, _, _, _⟩ := HC1.out _ (St.row h60 (b := c3) (o := O) (by simp))
          go_upto_region 12 with (first | (go_at_call 28; (with_reducible refine (St.call h60 (HRI.out _)).mono ?_); rintro en w61 ⟨rfl, h61⟩))
          have h62 := h61.alloc ((.cells #[.int .i64 i0, .int .i64 i1, .int .i64 i2, .int .i64 i3, .int .i64 i4, .int .i64 i5, .int .i64 i6, .int .i64 ie] 44 : Obj))
          generalize w61.heap.size = c61 at h62 ⊢
          generalize w61.alloc ((.cells #[.int .i64 i0, .int .i64 i1, .int .i64 i2, .int .i64 i3, .int .i64 i4, .int .i64 i5, .int .i64 i6, .int .i64 ie] 44 : Obj)) = w62 at h62 ⊢
          obtain ⟨_, _, _, _, _, _, _⟩ := St.aff h62 (b := b9) (a := u0) (b' := u1) (c := u2) (d := u3) (e := u4) (f := u5) (n := u6) (by simp)
          obtain ⟨_, _, _, _, _, _, _⟩ := St.aff h62 (b := c41) (a := i0) (b' := i1) (c := i2) (d := i3) (e := i4) (f := i5) (n := i6) (by simp)
          have zh620 := St.cell h62 (b := b8) (cs := #[.int .i64 u0, .int .i64 u1, .int .i64 u2, .int .i64 u3, .int .i64 u4, .int .i64 u5, .int .i64 u6, .int .i64 te]) (t := 44) (by simp) 0; have zh621 := St.cell h62 (b := b8) (cs := #[.int .i64 u0, .int .i64 u1, .int .i64 u2, .int .i64 u3, .int .i64 u4, .int .i64 u5, .int .i64 u6, .int .i64 te]) (t := 44) (by simp) 1; have zh622 := St.cell h62 (b := b8) (cs := #[.int .i64 u0, .int .i64 u1, .int .i64 u2, .int .i64 u3, .int .i64 u4, .int .i64 u5, .int .i64 u6, .int .i64 te]) (t := 44) (by simp) 2; have zh623 := St.cell h62 (b := b8) (cs := #[.int .i64 u0, .int .i64 u1, .int .i64 u2, .int .i64 u3, .int .i64 u4, .int .i64 u5, .int .i64 u6, .int .i64 te]) (t := 44) (by simp) 3; have zh624 := St.cell h62 (b := b8) (cs := #[.int .i64 u0, .int .i64 u1, .int .i64 u2, .int .i64 u3, .int .i64 u4, .int .i64 u5, .int .i64 u6, .int .i64 te]) (t := 44) (by simp) 4; have zh625 := St.cell h62 (b := b8) (cs := #[.int .i64 u0, .int .i64 u1, .int .i64 u2, .int .i64 u3, .int .i64 u4, .int .i64 u5, .int .i64 u6, .int .i64 te]) (t := 44) (by simp) 5; have zh626 := St.cell h62 (b := b8) (cs := #[.int .i64 u0, .int .i64 u1, .int .i64 u2, .int .i64 u3, .int .i64 u4, .int .i64 u5, .int .i64 u6, .int .i64 te]) (t := 44) (by simp) 6; have zh627 := St.cell h62 (b := b8) (cs := #[.int .i64 u0, .int .i64 u1, .int .i64 u2, .int .i64 u3, .int .i64 u4, .int .i64 u5, .int .i64 u6, .int .i64 te]) (t := 44) (by simp) 7; simp only [List.getElem?_toArray, List.getElem?_cons_zero, List.getElem?_cons_succ] at zh620 zh621 zh622 zh623 zh624 zh625 zh626 zh627
          have zh620 := St.cell h62 (b := c61) (cs := #[.int .i64 i0, .int .i64 i1, .int .i64 i2, .int .i64 i3, .int .i64 i4, .int .i64 i5, .int .i64 i6, .int .i64 ie]) (t := 44) (by simp) 0; have zh621 := St.cell h62 (b := c61) (cs := #[.int .i64 i0, .int .i64 i1, .int .i64 i2, .int .i64 i3, .int .i64 i4, .int .i64 i5, .int .i64 i6, .int .i64 ie]) (t := 44) (by simp) 1; have zh622 := St.cell h62 (b := c61) (cs := #[.int .i64 i0, .int .i64 i1, .int .i64 i2, .int .i64 i3, .int .i64 i4, .int .i64 i5, .int .i64 i6, .int .i64 ie]) (t := 44) (by simp) 2; have zh623 := St.cell h62 (b := c61) (cs := #[.int .i64 i0, .int .i64 i1, .int .i64 i2, .int .i64 i3, .int .i64 i4, .int .i64 i5, .int .i64 i6, .int .i64 ie]) (t := 44) (by simp) 3; have zh624 := St.cell h62 (b := c61) (cs := #[.int .i64 i0, .int .i64 i1, .int .i64 i2, .int .i64 i3, .int .i64 i4, .int .i64 i5, .int .i64 i6, .int .i64 ie]) (t := 44) (by simp) 4; have zh625 := St.cell h62 (b := c61) (cs := #[.int .i64 i0, .int .i64 i1, .int .i64 i2, .int .i64 i3, .int .i64 i4, .int .i64 i5, .int .i64 i6, .int .i64 ie]) (t := 44) (by simp) 5; have zh626 := St.cell h62 (b := c61) (cs := #[.int .i64 i0, .int .i64 i1, .int .i64 i2, .int .i64 i3, .int .i64 i4, .int .i64 i5, .int .i64 i6, .int .i64 ie]) (t := 44) (by simp) 6; have zh627 := St.cell h62 (b := c61) (cs := #[.int .i64 i0, .int .i64 i1, .int .i64 i2, .int .i64 i3, .int .i64 i4, .int .i64 i5, .int .i64 i6, .int .i64 ie]) (t := 44) (by simp) 7; simp only [List.getElem?_toArray, List.getElem?_cons_zero, List.getElem?_cons_succ] at zh620 zh621 zh622 zh623 zh624 zh625 zh626 zh627
          go_wp2_with fail
          exact ⟨⟨.inr (.inr (.inl rfl)), h62.sub (by intro x hx; simp at hx ⊢; subst hx; simp)⟩, by decide⟩
    · obtain ⟨u0, u1, u2, u3, u4, u5, u6, te, hth⟩ : ∃ u0 u1 u2 u3 u4 u5 u6 te, thn ⟨p0, p1, p2, p3, p4, p5, p6⟩ ⟨s0, s1, s2, s3, s4, s5, s6⟩ = ⟨⟨u0, u1, u2, u3, u4, u5, u6⟩, te⟩ := ⟨_, _, _, _, _, _, _, _, rfl⟩
      obtain ⟨i0, i1, i2, i3, i4, i5, i6, ie, hiv⟩ : ∃ i0 i1 i2 i3 i4 i5 i6 ie, ivt ⟨p0, p1, p2, p3, p4, p5, p6⟩ = ⟨⟨i0, i1, i2, i3, i4, i5, i6⟩, ie⟩ := ⟨_, _, _, _, _, _, _, _, rfl⟩
      have HT : Hid (∀ W, Calls Try.prog 25 #[av p0 p1 p2 p3 p4 p5 p6, av s0 s1 s2 s3 s4 s5 s6] W fun en w' => en = .returned (.tuple #[av u0 u1 u2 u3 u4 u5 u6, .int .i64 te]) ∧ Below W.heap.size W w') := fun W => by
        have := then_any p0 p1 p2 p3 p4 p5 p6 s0 s1 s2 s3 s4 s5 s6 W; rw [hth] at this; exact this
      have HI : Hid (∀ W, Calls Try.prog 26 #[av p0 p1 p2 p3 p4 p5 p6] W fun en w' => en = .returned (.tuple #[av i0 i1 i2 i3 i4 i5 i6, .int .i64 ie]) ∧ Below W.heap.size W w') := fun W => by
        have := inverse_any p0 p1 p2 p3 p4 p5 p6 W; rw [hiv] at this; exact this
      have HRT : Hid (∀ W, Calls Try.prog 27 #[av p0 p1 p2 p3 p4 p5 p6, av s0 s1 s2 s3 s4 s5 s6] W fun en w' => en = .returned (gv u0 u1 u2 u3 u4 u5 u6 te) ∧ Below W.heap.size W w') := fun W => by
        have := refThen_any p0 p1 p2 p3 p4 p5 p6 s0 s1 s2 s3 s4 s5 s6 W; rw [hth] at this; exact this
      have HRI : Hid (∀ W, Calls Try.prog 28 #[av p0 p1 p2 p3 p4 p5 p6] W fun en w' => en = .returned (gv i0 i1 i2 i3 i4 i5 i6 ie) ∧ Below W.heap.size W w') := fun W => by
        have := refInverse_any p0 p1 p2 p3 p4 p5 p6 W; rw [hiv] at this; exact this
      clear hth hiv
      obtain ⟨_, _, _, _, _, _, _, _, _, _, _, _, _, _⟩ := HC2.out _ (St.row hS (b := c3) (o := O) (by simp))
      go_upto_region 8 with fail
      have HP : Hid (∀ V9, St w [(c3, O)] V9 → St w [(c3, O)] V9 ∧ V9.cell? ⟨c3, 28, none⟩ = some (.int .i64 p0) ∧ V9.cell? ⟨c3, 29, none⟩ = some (.int .i64 p1) ∧ V9.cell? ⟨c3, 30, none⟩ = some (.int .i64 p2) ∧ V9.cell? ⟨c3, 31, none⟩ = some (.int .i64 p3) ∧ V9.cell? ⟨c3, 32, none⟩ = some (.int .i64 p4) ∧ V9.cell? ⟨c3, 33, none⟩ = some (.int .i64 p5) ∧ V9.cell? ⟨c3, 34, none⟩ = some (.int .i64 p6) ∧ V9.cell? ⟨c3, 35, none⟩ = some (.int .i64 s0) ∧ V9.cell? ⟨c3, 36, none⟩ = some (.int .i64 s1) ∧ V9.cell? ⟨c3, 37, none⟩ = some (.int .i64 s2) ∧ V9.cell? ⟨c3, 38, none⟩ = some (.int .i64 s3) ∧ V9.cell? ⟨c3, 39, none⟩ = some (.int .i64 s4) ∧ V9.cell? ⟨c3, 40, none⟩ = some (.int .i64 s5) ∧ V9.cell? ⟨c3, 41, none⟩ = some (.int .i64 s6)) := fun V hV => ⟨hV, HC2.out V (hV.row (b := c3) (o := O) (by simp))⟩
      go_cut [12, 13] (fun v8 v9 wx => ∃ b9, v8 = .pointer (some ⟨b9, 0, none⟩) ∧ v9 = .int .i64 te ∧ Hid (St w ((b9, ao u0 u1 u2 u3 u4 u5 u6) :: [(c3, O)]) wx))
      case first =>
        refine wp_region_held_drew (S := fun V9 => St w [(c3, O)] V9 ∧ V9.cell? ⟨c3, 28, none⟩ = some (.int .i64 p0) ∧ V9.cell? ⟨c3, 29, none⟩ = some (.int .i64 p1) ∧ V9.cell? ⟨c3, 30, none⟩ = some (.int .i64 p2) ∧ V9.cell? ⟨c3, 31, none⟩ = some (.int .i64 p3) ∧ V9.cell? ⟨c3, 32, none⟩ = some (.int .i64 p4) ∧ V9.cell? ⟨c3, 33, none⟩ = some (.int .i64 p5) ∧ V9.cell? ⟨c3, 34, none⟩ = some (.int .i64 p6) ∧ V9.cell? ⟨c3, 35, none⟩ = some (.int .i64 s0) ∧ V9.cell? ⟨c3, 36, none⟩ = some (.int .i64 s1) ∧ V9.cell? ⟨c3, 37, none⟩ = some (.int .i64 s2) ∧ V9.cell? ⟨c3, 38, none⟩ = some (.int .i64 s3) ∧ V9.cell? ⟨c3, 39, none⟩ = some (.int .i64 s4) ∧ V9.cell? ⟨c3, 40, none⟩ = some (.int .i64 s5) ∧ V9.cell? ⟨c3, 41, none⟩ = some (.int .i64 s6)) (by kernel_rfl) ?_ (fun hHeld => ?_)
        · exact HP.out _ (hS.drew)
        have hS0 := hS.drew
        refine wpAnyH_take (i := 0) (oi := { dst := some 43, op := Op.move (Operand.tmp 11), type := 3, pos := "law.go:50", after := #[], guard := none }) (v := ?_) rfl (by kernel_rfl) (by kernel_rfl) (by kernel_rfl) (fun _ _ _ h => h) (Or.inl ⟨by kernel_rfl, ?_⟩) (by assumption) ?_
        rotate_left 1
        focus (intro w hSw; (try dsimp only at hSw); go_simp; (try with_reducible rfl))
        try simp only [Act.put, List.setIfInBounds_toArray, List.set_cons_zero, List.set_cons_succ]
        refine wpAnyH_take (i := 1) (oi := { dst := some 44, op := Op.indexAddr 38 (Operand.tmp 10) (Operand.tmp 43), type := 0, pos := "law.go:50", after := #[{ on := 0, ground := Ground.data }], guard := none }) (v := ?_) rfl (by kernel_rfl) (by kernel_rfl) (by kernel_rfl) (fun _ _ _ h => h) (Or.inl ⟨by kernel_rfl, ?_⟩) (by assumption) ?_
        rotate_left 1
        focus (intro w hSw; (try dsimp only at hSw); go_simp; (try with_reducible rfl))
        try simp only [Act.put, List.setIfInBounds_toArray, List.set_cons_zero, List.set_cons_succ]
        refine wpAnyH_take (i := 2) (oi := { dst := some 45, op := Op.indexAddr 37 (Operand.tmp 44) (Operand.const (Value.int IntKind.i64 0)), type := 0, pos := "law.go:50", after := #[{ on := 1, ground := Ground.data }], guard := none }) (v := ?_) rfl (by kernel_rfl) (by kernel_rfl) (by kernel_rfl) (fun _ _ _ h => h) (Or.inl ⟨by kernel_rfl, ?_⟩) (by assumption) ?_
        rotate_left 1
        focus (intro w hSw; (try dsimp only at hSw); go_simp; (try with_reducible rfl))
        try simp only [Act.put, List.setIfInBounds_toArray, List.set_cons_zero, List.set_cons_succ]
        refine wpAnyH_take (i := 3) (oi := { dst := some 46, op := Op.load 23 (Operand.tmp 45), type := 23, pos := "law.go:50", after := #[{ on := 2, ground := Ground.data }], guard := none }) (v := ?_) rfl (by kernel_rfl) (by kernel_rfl) (by kernel_rfl) (fun _ _ _ h => h) (Or.inl ⟨by kernel_rfl, ?_⟩) (by assumption) ?_
        rotate_left 1
        focus (intro w hSw; (try dsimp only at hSw); go_simp; (try with_reducible rfl))
        try simp only [Act.put, List.setIfInBounds_toArray, List.set_cons_zero, List.set_cons_succ]
        refine wpAnyH_take (i := 4) (oi := { dst := some 47, op := Op.move (Operand.tmp 11), type := 3, pos := "law.go:50", after := #[], guard := none }) (v := ?_) rfl (by kernel_rfl) (by kernel_rfl) (by kernel_rfl) (fun _ _ _ h => h) (Or.inl ⟨by kernel_rfl, ?_⟩) (by assumption) ?_
        rotate_left 1
        focus (intro w hSw; (try dsimp only at hSw); go_simp; (try with_reducible rfl))
        try simp only [Act.put, List.setIfInBounds_toArray, List.set_cons_zero, List.set_cons_succ]
        refine wpAnyH_take (i := 5) (oi := { dst := some 48, op := Op.indexAddr 38 (Operand.tmp 10) (Operand.tmp 47), type := 0, pos := "law.go:50", after := #[{ on := 4, ground := Ground.data }], guard := none }) (v := ?_) rfl (by kernel_rfl) (by kernel_rfl) (by kernel_rfl) (fun _ _ _ h => h) (Or.inl ⟨by kernel_rfl, ?_⟩) (by assumption) ?_
        rotate_left 1
        focus (intro w hSw; (try dsimp only at hSw); go_simp; (try with_reducible rfl))
        try simp only [Act.put, List.setIfInBounds_toArray, List.set_cons_zero, List.set_cons_succ]
        refine wpAnyH_take (i := 6) (oi := { dst := some 49, op := Op.indexAddr 37 (Operand.tmp 48) (Operand.const (Value.int IntKind.i64 1)), type := 0, pos := "law.go:50", after := #[{ on := 5, ground := Ground.data }], guard := none }) (v := ?_) rfl (by kernel_rfl) (by kernel_rfl) (by kernel_rfl) (fun _ _ _ h => h) (Or.inl ⟨by kernel_rfl, ?_⟩) (by assumption) ?_
        rotate_left 1
        focus (intro w hSw; (try dsimp only at hSw); go_simp; (try with_reducible rfl))
        try simp only [Act.put, List.setIfInBounds_toArray, List.set_cons_zero, List.set_cons_succ]
        refine wpAnyH_take (i := 7) (oi := { dst := some 50, op := Op.load 23 (Operand.tmp 49), type := 23, pos := "law.go:50", after := #[{ on := 6, ground := Ground.data }], guard := none }) (v := ?_) rfl (by kernel_rfl) (by kernel_rfl) (by kernel_rfl) (fun _ _ _ h => h) (Or.inl ⟨by kernel_rfl, ?_⟩) (by assumption) ?_
        rotate_left 1
        focus (intro w hSw; (try dsimp only at hSw); go_simp; (try with_reducible rfl))
        try simp only [Act.put, List.setIfInBounds_toArray, List.set_cons_zero, List.set_cons_succ]
        refine wpAnyH_ready (rs := [8, 12]) (by kernel_rfl) (by simp) (AllReadyH.cons (o := { dst := some 51, op := Op.call { callee := Callee.value (Operand.func 25), args := #[Operand.tmp 46, Operand.tmp 50], argTypes := #[23, 23] }, type := 40, pos := "law.go:50", after := #[{ on := 3, ground := Ground.data }, { on := 7, ground := Ground.data }], guard := none }) rfl (fun K hK => ?_) (AllReadyH.cons (o := { dst := some 12, op := Op.alloc 23, type := 0, pos := "law.go:50", after := #[], guard := none }) rfl (fun K hK => ?_) AllReadyH.nil))
        · (go_simp; (go_at_call 25; (refine (St.call hS0 (HT.out _)).mono ?_); rintro e V1r8 ⟨rfl, hS1r8⟩))
          refine hK.out _ _ ?_ (fun hHeld => ?_)
          · exact HP.out _ (hS1r8)
          clear hK K
          try simp only [Act.put, List.setIfInBounds_toArray, List.set_cons_zero, List.set_cons_succ]
          refine wpAnyH_take (i := 9) (oi := { dst := some 42, op := Op.move (Operand.tmp 51), type := 40, pos := "law.go:50", after := #[{ on := 8, ground := Ground.data }], guard := none }) (v := ?_) rfl (by kernel_rfl) (by kernel_rfl) (by kernel_rfl) (fun _ _ _ h => h) (Or.inl ⟨by kernel_rfl, ?_⟩) (by assumption) ?_
          rotate_left 1
          focus (intro w hSw; (try dsimp only at hSw); go_simp; (try with_reducible rfl))
          try simp only [Act.put, List.setIfInBounds_toArray, List.set_cons_zero, List.set_cons_succ]
          refine wpAnyH_take (i := 10) (oi := { dst := some 52, op := Op.extract (Operand.tmp 42) 0, type := 23, pos := "law.go:50", after := #[{ on := 9, ground := Ground.data }], guard := none }) (v := ?_) rfl (by kernel_rfl) (by kernel_rfl) (by kernel_rfl) (fun _ _ _ h => h) (Or.inl ⟨by kernel_rfl, ?_⟩) (by assumption) ?_
          rotate_left 1
          focus (intro w hSw; (try dsimp only at hSw); go_simp; (try with_reducible rfl))
          try simp only [Act.put, List.setIfInBounds_toArray, List.set_cons_zero, List.set_cons_succ]
          refine wpAnyH_take (i := 11) (oi := { dst := some 53, op := Op.extract (Operand.tmp 42) 1, type := 39, pos := "law.go:50", after := #[{ on := 9, ground := Ground.data }, { on := 13, ground := Ground.gcOnly Departure.lateStores }], guard := none }) (v := ?_) rfl (by kernel_rfl) (by kernel_rfl) (by kernel_rfl) (fun _ _ _ h => h) (Or.inl ⟨by kernel_rfl, ?_⟩) (by assumption) ?_
          rotate_left 1
          focus (intro w hSw; (try dsimp only at hSw); go_simp; (try with_reducible rfl))
          try simp only [Act.put, List.setIfInBounds_toArray, List.set_cons_zero, List.set_cons_succ]
          refine wpAnyH_ready (rs := [12]) (by kernel_rfl) (by simp) (AllReadyH.cons (o := { dst := some 12, op := Op.alloc 23, type := 0, pos := "law.go:50", after := #[], guard := none }) rfl (fun K hK => ?_) AllReadyH.nil)
          have hne12r8 := hS1r8.ne
          have hle12r8 := hS1r8.below.size
          have hlt12r8 := fun (b : Nat) (o : Obj) (hm : (b, o) ∈ _) => hS1r8.lt hm
          have hS2r8 := hS1r8.alloc (.cells #[.int .i64 0, .int .i64 0, .int .i64 0, .int .i64 0, .int .i64 0, .int .i64 0, .int .i64 0] 23)
          refine wp_alloc_of 23 rfl _ (zero_aff _) ?_
          refine hK.out _ _ ?_ (fun hHeld => ?_)
          · exact HP.out _ (hS2r8.tl)
          clear hK K
          try simp only [Act.put, List.setIfInBounds_toArray, List.set_cons_zero, List.set_cons_succ]
          refine wpAnyH_ready (rs := [13]) (by kernel_rfl) (by simp) (AllReadyH.cons (o := { dst := none, op := Op.store 23 (Operand.tmp 12) (Operand.tmp 52), type := 0, pos := "law.go:50", after := #[{ on := 12, ground := Ground.data }, { on := 10, ground := Ground.data }, { on := 8, ground := Ground.chain }, { on := 0, ground := Ground.phase }, { on := 1, ground := Ground.phase }, { on := 2, ground := Ground.phase }, { on := 3, ground := Ground.phase }, { on := 4, ground := Ground.phase }, { on := 5, ground := Ground.phase }, { on := 6, ground := Ground.phase }, { on := 7, ground := Ground.phase }, { on := 8, ground := Ground.phase }, { on := 9, ground := Ground.phase }, { on := 10, ground := Ground.phase }, { on := 11, ground := Ground.textOnly Departure.lateStores }, { on := 12, ground := Ground.phase }], guard := none }) rfl (fun K hK => ?_) AllReadyH.nil)
          have hS3r8 := hS2r8.rowset (ds := #[.int .i64 u0, .int .i64 u1, .int .i64 u2, .int .i64 u3, .int .i64 u4, .int .i64 u5, .int .i64 u6]) hle12r8 hne12r8
          refine wp_store_of 23 _ _ rfl (store_row 23 (cs := #[.int .i64 0, .int .i64 0, .int .i64 0, .int .i64 0, .int .i64 0, .int .i64 0, .int .i64 0]) (ds := #[.int .i64 u0, .int .i64 u1, .int .i64 u2, .int .i64 u3, .int .i64 u4, .int .i64 u5, .int .i64 u6]) (by kernel_rfl) rfl (by simp [Value.oneCell']) hS2r8.hd) ?_
          refine hK.out _ _ ?_ (fun hHeld => ?_)
          · exact HP.out _ (hS3r8.tl)
          clear hK K
          try simp only [Act.put]
          refine wpAnyH_take (i := 14) (oi := { dst := some 13, op := Op.assign (Operand.tmp 53), type := 39, pos := "law.go:50", after := #[{ on := 11, ground := Ground.data }, { on := 13, ground := Ground.chain }, { on := 0, ground := Ground.phase }, { on := 1, ground := Ground.phase }, { on := 2, ground := Ground.phase }, { on := 3, ground := Ground.phase }, { on := 4, ground := Ground.phase }, { on := 5, ground := Ground.phase }, { on := 6, ground := Ground.phase }, { on := 7, ground := Ground.phase }, { on := 8, ground := Ground.phase }, { on := 9, ground := Ground.phase }, { on := 10, ground := Ground.phase }, { on := 11, ground := Ground.phase }, { on := 12, ground := Ground.phase }, { on := 13, ground := Ground.phase }], guard := none }) (v := ?_) rfl (by kernel_rfl) (by kernel_rfl) (by kernel_rfl) (fun _ _ _ h => h) (Or.inl ⟨by kernel_rfl, ?_⟩) (by assumption) ?_
          rotate_left 1
          focus (intro w hSw; (try dsimp only at hSw); go_simp; (try with_reducible rfl))
          try simp only [Act.put, List.setIfInBounds_toArray, List.set_cons_zero, List.set_cons_succ]
          refine wpAnyH_done (by kernel_rfl) ?_ _
          have h9 := hS3r8
          go_wp2_with fail
          go_meet
          case rel => exact ⟨_, rfl, rfl, h9⟩
        · have hne12r8 := hS0.ne
          have hle12r8 := hS0.below.size
          have hlt12r8 := fun (b : Nat) (o : Obj) (hm : (b, o) ∈ _) => hS0.lt hm
          have hS4r8 := hS0.alloc (.cells #[.int .i64 0, .int .i64 0, .int .i64 0, .int .i64 0, .int .i64 0, .int .i64 0, .int .i64 0] 23)
          refine wp_alloc_of 23 rfl _ (zero_aff _) ?_
          refine hK.out _ _ ?_ (fun hHeld => ?_)
          · exact HP.out _ (hS4r8.tl)
          clear hK K
          try simp only [Act.put, List.setIfInBounds_toArray, List.set_cons_zero, List.set_cons_succ]
          refine wpAnyH_ready (rs := [8]) (by kernel_rfl) (by simp) (AllReadyH.cons (o := { dst := some 51, op := Op.call { callee := Callee.value (Operand.func 25), args := #[Operand.tmp 46, Operand.tmp 50], argTypes := #[23, 23] }, type := 40, pos := "law.go:50", after := #[{ on := 3, ground := Ground.data }, { on := 7, ground := Ground.data }], guard := none }) rfl (fun K hK => ?_) AllReadyH.nil)
          (go_simp; (go_at_call 25; (refine (St.call hS4r8 (HT.out _)).mono ?_); rintro e V5r8 ⟨rfl, hS5r8⟩))
          refine hK.out _ _ ?_ (fun hHeld => ?_)
          · exact HP.out _ (hS5r8.tl)
          clear hK K
          try simp only [Act.put, List.setIfInBounds_toArray, List.set_cons_zero, List.set_cons_succ]
          refine wpAnyH_take (i := 9) (oi := { dst := some 42, op := Op.move (Operand.tmp 51), type := 40, pos := "law.go:50", after := #[{ on := 8, ground := Ground.data }], guard := none }) (v := ?_) rfl (by kernel_rfl) (by kernel_rfl) (by kernel_rfl) (fun _ _ _ h => h) (Or.inl ⟨by kernel_rfl, ?_⟩) (by assumption) ?_
          rotate_left 1
          focus (intro w hSw; (try dsimp only at hSw); go_simp; (try with_reducible rfl))
          try simp only [Act.put, List.setIfInBounds_toArray, List.set_cons_zero, List.set_cons_succ]
          refine wpAnyH_take (i := 10) (oi := { dst := some 52, op := Op.extract (Operand.tmp 42) 0, type := 23, pos := "law.go:50", after := #[{ on := 9, ground := Ground.data }], guard := none }) (v := ?_) rfl (by kernel_rfl) (by kernel_rfl) (by kernel_rfl) (fun _ _ _ h => h) (Or.inl ⟨by kernel_rfl, ?_⟩) (by assumption) ?_
          rotate_left 1
          focus (intro w hSw; (try dsimp only at hSw); go_simp; (try with_reducible rfl))
          try simp only [Act.put, List.setIfInBounds_toArray, List.set_cons_zero, List.set_cons_succ]
          refine wpAnyH_take (i := 11) (oi := { dst := some 53, op := Op.extract (Operand.tmp 42) 1, type := 39, pos := "law.go:50", after := #[{ on := 9, ground := Ground.data }, { on := 13, ground := Ground.gcOnly Departure.lateStores }], guard := none }) (v := ?_) rfl (by kernel_rfl) (by kernel_rfl) (by kernel_rfl) (fun _ _ _ h => h) (Or.inl ⟨by kernel_rfl, ?_⟩) (by assumption) ?_
          rotate_left 1
          focus (intro w hSw; (try dsimp only at hSw); go_simp; (try with_reducible rfl))
          try simp only [Act.put, List.setIfInBounds_toArray, List.set_cons_zero, List.set_cons_succ]
          refine wpAnyH_ready (rs := [13]) (by kernel_rfl) (by simp) (AllReadyH.cons (o := { dst := none, op := Op.store 23 (Operand.tmp 12) (Operand.tmp 52), type := 0, pos := "law.go:50", after := #[{ on := 12, ground := Ground.data }, { on := 10, ground := Ground.data }, { on := 8, ground := Ground.chain }, { on := 0, ground := Ground.phase }, { on := 1, ground := Ground.phase }, { on := 2, ground := Ground.phase }, { on := 3, ground := Ground.phase }, { on := 4, ground := Ground.phase }, { on := 5, ground := Ground.phase }, { on := 6, ground := Ground.phase }, { on := 7, ground := Ground.phase }, { on := 8, ground := Ground.phase }, { on := 9, ground := Ground.phase }, { on := 10, ground := Ground.phase }, { on := 11, ground := Ground.textOnly Departure.lateStores }, { on := 12, ground := Ground.phase }], guard := none }) rfl (fun K hK => ?_) AllReadyH.nil)
          have hS6r8 := hS5r8.rowset (ds := #[.int .i64 u0, .int .i64 u1, .int .i64 u2, .int .i64 u3, .int .i64 u4, .int .i64 u5, .int .i64 u6]) hle12r8 hne12r8
          refine wp_store_of 23 _ _ rfl (store_row 23 (cs := #[.int .i64 0, .int .i64 0, .int .i64 0, .int .i64 0, .int .i64 0, .int .i64 0, .int .i64 0]) (ds := #[.int .i64 u0, .int .i64 u1, .int .i64 u2, .int .i64 u3, .int .i64 u4, .int .i64 u5, .int .i64 u6]) (by kernel_rfl) rfl (by simp [Value.oneCell']) hS5r8.hd) ?_
          refine hK.out _ _ ?_ (fun hHeld => ?_)
          · exact HP.out _ (hS6r8.tl)
          clear hK K
          try simp only [Act.put]
          refine wpAnyH_take (i := 14) (oi := { dst := some 13, op := Op.assign (Operand.tmp 53), type := 39, pos := "law.go:50", after := #[{ on := 11, ground := Ground.data }, { on := 13, ground := Ground.chain }, { on := 0, ground := Ground.phase }, { on := 1, ground := Ground.phase }, { on := 2, ground := Ground.phase }, { on := 3, ground := Ground.phase }, { on := 4, ground := Ground.phase }, { on := 5, ground := Ground.phase }, { on := 6, ground := Ground.phase }, { on := 7, ground := Ground.phase }, { on := 8, ground := Ground.phase }, { on := 9, ground := Ground.phase }, { on := 10, ground := Ground.phase }, { on := 11, ground := Ground.phase }, { on := 12, ground := Ground.phase }, { on := 13, ground := Ground.phase }], guard := none }) (v := ?_) rfl (by kernel_rfl) (by kernel_rfl) (by kernel_rfl) (fun _ _ _ h => h) (Or.inl ⟨by kernel_rfl, ?_⟩) (by assumption) ?_
          rotate_left 1
          focus (intro w hSw; (try dsimp only at hSw); go_simp; (try with_reducible rfl))
          try simp only [Act.put, List.setIfInBounds_toArray, List.set_cons_zero, List.set_cons_succ]
          refine wpAnyH_done (by kernel_rfl) ?_ _
          have h9 := hS6r8
          go_wp2_with fail
          go_meet
          case rel => exact ⟨_, rfl, rfl, h9⟩
      case rest =>
        obtain ⟨b9, rfl, rfl, HQ⟩ := hcut
        have h40 := HQ.out
        clear HQ HP hS
        obtain ⟨_, _, _, _, _, _, _, _, _, _, _, _, _, _⟩ := HC2.out _ (St.row h40 (b := c3) (o := O) (by simp))
        go_upto_region 10 with (first | (go_at_call 26; (with_reducible refine (St.call h40 (HI.out _)).mono ?_); rintro en w41 ⟨rfl, h41⟩))
        have h42 := h41.alloc (ao i0 i1 i2 i3 i4 i5 i6)
        generalize w41.heap.size = c41 at h42 ⊢
        generalize w41.alloc (ao i0 i1 i2 i3 i4 i5 i6) = w42 at h42 ⊢
        have HP2 : Hid (∀ V9, St w [(c41, ao i0 i1 i2 i3 i4 i5 i6), (b9, ao u0 u1 u2 u3 u4 u5 u6), (c3, O)] V9 → St w [(c41, ao i0 i1 i2 i3 i4 i5 i6), (b9, ao u0 u1 u2 u3 u4 u5 u6), (c3, O)] V9 ∧ V9.cell? ⟨c3, 28, none⟩ = some (.int .i64 p0) ∧ V9.cell? ⟨c3, 29, none⟩ = some (.int .i64 p1) ∧ V9.cell? ⟨c3, 30, none⟩ = some (.int .i64 p2) ∧ V9.cell? ⟨c3, 31, none⟩ = some (.int .i64 p3) ∧ V9.cell? ⟨c3, 32, none⟩ = some (.int .i64 p4) ∧ V9.cell? ⟨c3, 33, none⟩ = some (.int .i64 p5) ∧ V9.cell? ⟨c3, 34, none⟩ = some (.int .i64 p6) ∧ V9.cell? ⟨c3, 35, none⟩ = some (.int .i64 s0) ∧ V9.cell? ⟨c3, 36, none⟩ = some (.int .i64 s1) ∧ V9.cell? ⟨c3, 37, none⟩ = some (.int .i64 s2) ∧ V9.cell? ⟨c3, 38, none⟩ = some (.int .i64 s3) ∧ V9.cell? ⟨c3, 39, none⟩ = some (.int .i64 s4) ∧ V9.cell? ⟨c3, 40, none⟩ = some (.int .i64 s5) ∧ V9.cell? ⟨c3, 41, none⟩ = some (.int .i64 s6)) := fun V hV => ⟨hV, HC2.out V (hV.row (b := c3) (o := O) (by simp))⟩
        go_cut [16] (fun v8 wx => ∃ b8, v8 = .pointer (some ⟨b8, 0, none⟩) ∧ Hid (St w ((b8, go8 u0 u1 u2 u3 u4 u5 u6 te) :: [(c41, ao i0 i1 i2 i3 i4 i5 i6), (b9, ao u0 u1 u2 u3 u4 u5 u6), (c3, O)]) wx))
        case first =>
          refine wp_region_held_drew (S := fun V9 => St w [(c41, ao i0 i1 i2 i3 i4 i5 i6), (b9, ao u0 u1 u2 u3 u4 u5 u6), (c3, O)] V9 ∧ V9.cell? ⟨c3, 28, none⟩ = some (.int .i64 p0) ∧ V9.cell? ⟨c3, 29, none⟩ = some (.int .i64 p1) ∧ V9.cell? ⟨c3, 30, none⟩ = some (.int .i64 p2) ∧ V9.cell? ⟨c3, 31, none⟩ = some (.int .i64 p3) ∧ V9.cell? ⟨c3, 32, none⟩ = some (.int .i64 p4) ∧ V9.cell? ⟨c3, 33, none⟩ = some (.int .i64 p5) ∧ V9.cell? ⟨c3, 34, none⟩ = some (.int .i64 p6) ∧ V9.cell? ⟨c3, 35, none⟩ = some (.int .i64 s0) ∧ V9.cell? ⟨c3, 36, none⟩ = some (.int .i64 s1) ∧ V9.cell? ⟨c3, 37, none⟩ = some (.int .i64 s2) ∧ V9.cell? ⟨c3, 38, none⟩ = some (.int .i64 s3) ∧ V9.cell? ⟨c3, 39, none⟩ = some (.int .i64 s4) ∧ V9.cell? ⟨c3, 40, none⟩ = some (.int .i64 s5) ∧ V9.cell? ⟨c3, 41, none⟩ = some (.int .i64 s6)) (by kernel_rfl) ?_ (fun hHeld => ?_)
          · exact HP2.out _ (h42.drew)
          have h420 := h42.drew
          refine wpAnyH_take (i := 0) (oi := { dst := some 62, op := Op.move (Operand.tmp 11), type := 3, pos := "law.go:52", after := #[], guard := none }) (v := ?_) rfl (by kernel_rfl) (by kernel_rfl) (by kernel_rfl) (fun _ _ _ h => h) (Or.inl ⟨by kernel_rfl, ?_⟩) (by assumption) ?_
          rotate_left 1
          focus (intro w hSw; (try dsimp only at hSw); go_simp; (try with_reducible rfl))
          try simp only [Act.put, List.setIfInBounds_toArray, List.set_cons_zero, List.set_cons_succ]
          refine wpAnyH_take (i := 1) (oi := { dst := some 63, op := Op.indexAddr 38 (Operand.tmp 10) (Operand.tmp 62), type := 0, pos := "law.go:52", after := #[{ on := 0, ground := Ground.data }], guard := none }) (v := ?_) rfl (by kernel_rfl) (by kernel_rfl) (by kernel_rfl) (fun _ _ _ h => h) (Or.inl ⟨by kernel_rfl, ?_⟩) (by assumption) ?_
          rotate_left 1
          focus (intro w hSw; (try dsimp only at hSw); go_simp; (try with_reducible rfl))
          try simp only [Act.put, List.setIfInBounds_toArray, List.set_cons_zero, List.set_cons_succ]
          refine wpAnyH_take (i := 2) (oi := { dst := some 64, op := Op.indexAddr 37 (Operand.tmp 63) (Operand.const (Value.int IntKind.i64 0)), type := 0, pos := "law.go:52", after := #[{ on := 1, ground := Ground.data }], guard := none }) (v := ?_) rfl (by kernel_rfl) (by kernel_rfl) (by kernel_rfl) (fun _ _ _ h => h) (Or.inl ⟨by kernel_rfl, ?_⟩) (by assumption) ?_
          rotate_left 1
          focus (intro w hSw; (try dsimp only at hSw); go_simp; (try with_reducible rfl))
          try simp only [Act.put, List.setIfInBounds_toArray, List.set_cons_zero, List.set_cons_succ]
          refine wpAnyH_take (i := 3) (oi := { dst := some 65, op := Op.load 23 (Operand.tmp 64), type := 23, pos := "law.go:52", after := #[{ on := 2, ground := Ground.data }], guard := none }) (v := ?_) rfl (by kernel_rfl) (by kernel_rfl) (by kernel_rfl) (fun _ _ _ h => h) (Or.inl ⟨by kernel_rfl, ?_⟩) (by assumption) ?_
          rotate_left 1
          focus (intro w hSw; (try dsimp only at hSw); go_simp; (try with_reducible rfl))
          try simp only [Act.put, List.setIfInBounds_toArray, List.set_cons_zero, List.set_cons_succ]
          refine wpAnyH_take (i := 4) (oi := { dst := some 66, op := Op.move (Operand.tmp 11), type := 3, pos := "law.go:52", after := #[], guard := none }) (v := ?_) rfl (by kernel_rfl) (by kernel_rfl) (by kernel_rfl) (fun _ _ _ h => h) (Or.inl ⟨by kernel_rfl, ?_⟩) (by assumption) ?_
          rotate_left 1
          focus (intro w hSw; (try dsimp only at hSw); go_simp; (try with_reducible rfl))
          try simp only [Act.put, List.setIfInBounds_toArray, List.set_cons_zero, List.set_cons_succ]
          refine wpAnyH_take (i := 5) (oi := { dst := some 67, op := Op.indexAddr 38 (Operand.tmp 10) (Operand.tmp 66), type := 0, pos := "law.go:52", after := #[{ on := 4, ground := Ground.data }], guard := none }) (v := ?_) rfl (by kernel_rfl) (by kernel_rfl) (by kernel_rfl) (fun _ _ _ h => h) (Or.inl ⟨by kernel_rfl, ?_⟩) (by assumption) ?_
          rotate_left 1
          focus (intro w hSw; (try dsimp only at hSw); go_simp; (try with_reducible rfl))
          try simp only [Act.put, List.setIfInBounds_toArray, List.set_cons_zero, List.set_cons_succ]
          refine wpAnyH_take (i := 6) (oi := { dst := some 68, op := Op.indexAddr 37 (Operand.tmp 67) (Operand.const (Value.int IntKind.i64 1)), type := 0, pos := "law.go:52", after := #[{ on := 5, ground := Ground.data }], guard := none }) (v := ?_) rfl (by kernel_rfl) (by kernel_rfl) (by kernel_rfl) (fun _ _ _ h => h) (Or.inl ⟨by kernel_rfl, ?_⟩) (by assumption) ?_
          rotate_left 1
          focus (intro w hSw; (try dsimp only at hSw); go_simp; (try with_reducible rfl))
          try simp only [Act.put, List.setIfInBounds_toArray, List.set_cons_zero, List.set_cons_succ]
          refine wpAnyH_take (i := 7) (oi := { dst := some 69, op := Op.load 23 (Operand.tmp 68), type := 23, pos := "law.go:52", after := #[{ on := 6, ground := Ground.data }], guard := none }) (v := ?_) rfl (by kernel_rfl) (by kernel_rfl) (by kernel_rfl) (fun _ _ _ h => h) (Or.inl ⟨by kernel_rfl, ?_⟩) (by assumption) ?_
          rotate_left 1
          focus (intro w hSw; (try dsimp only at hSw); go_simp; (try with_reducible rfl))
          try simp only [Act.put, List.setIfInBounds_toArray, List.set_cons_zero, List.set_cons_succ]
          refine wpAnyH_ready (rs := [8, 9]) (by kernel_rfl) (by simp) (AllReadyH.cons (o := { dst := some 70, op := Op.call { callee := Callee.value (Operand.func 27), args := #[Operand.tmp 65, Operand.tmp 69], argTypes := #[23, 23] }, type := 44, pos := "law.go:52", after := #[{ on := 3, ground := Ground.data }, { on := 7, ground := Ground.data }], guard := none }) rfl (fun K hK => ?_) (AllReadyH.cons (o := { dst := some 16, op := Op.alloc 44, type := 0, pos := "law.go:52", after := #[], guard := none }) rfl (fun K hK => ?_) AllReadyH.nil))
          · (go_simp; (go_at_call 27; (refine (St.call h420 (HRT.out _)).mono ?_); rintro e V1r10 ⟨rfl, h421r10⟩))
            refine hK.out _ _ ?_ (fun hHeld => ?_)
            · exact HP2.out _ (h421r10)
            clear hK K
            try simp only [Act.put, List.setIfInBounds_toArray, List.set_cons_zero, List.set_cons_succ]
            refine wpAnyH_ready (rs := [9]) (by kernel_rfl) (by simp) (AllReadyH.cons (o := { dst := some 16, op := Op.alloc 44, type := 0, pos := "law.go:52", after := #[], guard := none }) rfl (fun K hK => ?_) AllReadyH.nil)
            have hne9r10 := h421r10.ne
            have hle9r10 := h421r10.below.size
            have hlt9r10 := fun (b : Nat) (o : Obj) (hm : (b, o) ∈ _) => h421r10.lt hm
            have h422r10 := h421r10.alloc (.cells #[.int .i64 0, .int .i64 0, .int .i64 0, .int .i64 0, .int .i64 0, .int .i64 0, .int .i64 0, .int .i64 0] 44)
            refine wp_alloc_of 44 rfl _ (zero_got _) ?_
            refine hK.out _ _ ?_ (fun hHeld => ?_)
            · exact HP2.out _ (h422r10.tl)
            clear hK K
            try simp only [Act.put, List.setIfInBounds_toArray, List.set_cons_zero, List.set_cons_succ]
            refine wpAnyH_ready (rs := [10]) (by kernel_rfl) (by simp) (AllReadyH.cons (o := { dst := none, op := Op.store 44 (Operand.tmp 16) (Operand.tmp 70), type := 0, pos := "law.go:52", after := #[{ on := 9, ground := Ground.data }, { on := 8, ground := Ground.data }, { on := 8, ground := Ground.chain }, { on := 0, ground := Ground.phase }, { on := 1, ground := Ground.phase }, { on := 2, ground := Ground.phase }, { on := 3, ground := Ground.phase }, { on := 4, ground := Ground.phase }, { on := 5, ground := Ground.phase }, { on := 6, ground := Ground.phase }, { on := 7, ground := Ground.phase }, { on := 8, ground := Ground.phase }, { on := 9, ground := Ground.phase }], guard := none }) rfl (fun K hK => ?_) AllReadyH.nil)
            have h423r10 := h422r10.rowset (ds := #[.int .i64 u0, .int .i64 u1, .int .i64 u2, .int .i64 u3, .int .i64 u4, .int .i64 u5, .int .i64 u6, .int .i64 te]) hle9r10 hne9r10
            refine wp_store_of 44 _ _ rfl (store_row 44 (cs := #[.int .i64 0, .int .i64 0, .int .i64 0, .int .i64 0, .int .i64 0, .int .i64 0, .int .i64 0, .int .i64 0]) (ds := #[.int .i64 u0, .int .i64 u1, .int .i64 u2, .int .i64 u3, .int .i64 u4, .int .i64 u5, .int .i64 u6, .int .i64 te]) (by kernel_rfl) rfl (by simp [Value.oneCell']) h422r10.hd) ?_
            refine hK.out _ _ ?_ (fun hHeld => ?_)
            · exact HP2.out _ (h423r10.tl)
            clear hK K
            try simp only [Act.put]
            refine wpAnyH_done (by kernel_rfl) ?_ _
            have h9 := h423r10
            go_wp2_with fail
            go_meet
            case rel => exact ⟨_, rfl, h9⟩
          · have hne9r10 := h420.ne
            have hle9r10 := h420.below.size
            have hlt9r10 := fun (b : Nat) (o : Obj) (hm : (b, o) ∈ _) => h420.lt hm
            have h424r10 := h420.alloc (.cells #[.int .i64 0, .int .i64 0, .int .i64 0, .int .i64 0, .int .i64 0, .int .i64 0, .int .i64 0, .int .i64 0] 44)
            refine wp_alloc_of 44 rfl _ (zero_got _) ?_
            refine hK.out _ _ ?_ (fun hHeld => ?_)
            · exact HP2.out _ (h424r10.tl)
            clear hK K
            try simp only [Act.put, List.setIfInBounds_toArray, List.set_cons_zero, List.set_cons_succ]
            refine wpAnyH_ready (rs := [8]) (by kernel_rfl) (by simp) (AllReadyH.cons (o := { dst := some 70, op := Op.call { callee := Callee.value (Operand.func 27), args := #[Operand.tmp 65, Operand.tmp 69], argTypes := #[23, 23] }, type := 44, pos := "law.go:52", after := #[{ on := 3, ground := Ground.data }, { on := 7, ground := Ground.data }], guard := none }) rfl (fun K hK => ?_) AllReadyH.nil)
            (go_simp; (go_at_call 27; (refine (St.call h424r10 (HRT.out _)).mono ?_); rintro e V5r10 ⟨rfl, h425r10⟩))
            refine hK.out _ _ ?_ (fun hHeld => ?_)
            · exact HP2.out _ (h425r10.tl)
            clear hK K
            try simp only [Act.put, List.setIfInBounds_toArray, List.set_cons_zero, List.set_cons_succ]
            refine wpAnyH_ready (rs := [10]) (by kernel_rfl) (by simp) (AllReadyH.cons (o := { dst := none, op := Op.store 44 (Operand.tmp 16) (Operand.tmp 70), type := 0, pos := "law.go:52", after := #[{ on := 9, ground := Ground.data }, { on := 8, ground := Ground.data }, { on := 8, ground := Ground.chain }, { on := 0, ground := Ground.phase }, { on := 1, ground := Ground.phase }, { on := 2, ground := Ground.phase }, { on := 3, ground := Ground.phase }, { on := 4, ground := Ground.phase }, { on := 5, ground := Ground.phase }, { on := 6, ground := Ground.phase }, { on := 7, ground := Ground.phase }, { on := 8, ground := Ground.phase }, { on := 9, ground := Ground.phase }], guard := none }) rfl (fun K hK => ?_) AllReadyH.nil)
            have h426r10 := h425r10.rowset (ds := #[.int .i64 u0, .int .i64 u1, .int .i64 u2, .int .i64 u3, .int .i64 u4, .int .i64 u5, .int .i64 u6, .int .i64 te]) hle9r10 hne9r10
            refine wp_store_of 44 _ _ rfl (store_row 44 (cs := #[.int .i64 0, .int .i64 0, .int .i64 0, .int .i64 0, .int .i64 0, .int .i64 0, .int .i64 0, .int .i64 0]) (ds := #[.int .i64 u0, .int .i64 u1, .int .i64 u2, .int .i64 u3, .int .i64 u4, .int .i64 u5, .int .i64 u6, .int .i64 te]) (by kernel_rfl) rfl (by simp [Value.oneCell']) h425r10.hd) ?_
            refine hK.out _ _ ?_ (fun hHeld => ?_)
            · exact HP2.out _ (h426r10.tl)
            clear hK K
            try simp only [Act.put]
            refine wpAnyH_done (by kernel_rfl) ?_ _
            have h9 := h426r10
            go_wp2_with fail
            go_meet
            case rel => exact ⟨_, rfl, h9⟩
        case rest =>
          obtain ⟨b8, rfl, HQ⟩ := hcut
          have h60 := HQ.out
          clear HQ HP2 h42
          obtain ⟨_, _, _, _, _, _, _, _, _, _, _, _, _, _⟩ := HC2.out _ (St.row h60 (b := c3) (o := O) (by simp))
          go_upto_region 12 with (first | (go_at_call 28; (with_reducible refine (St.call h60 (HRI.out _)).mono ?_); rintro en w61 ⟨rfl, h61⟩))
          have h62 := h61.alloc ((.cells #[.int .i64 i0, .int .i64 i1, .int .i64 i2, .int .i64 i3, .int .i64 i4, .int .i64 i5, .int .i64 i6, .int .i64 ie] 44 : Obj))
          generalize w61.heap.size = c61 at h62 ⊢
          generalize w61.alloc ((.cells #[.int .i64 i0, .int .i64 i1, .int .i64 i2, .int .i64 i3, .int .i64 i4, .int .i64 i5, .int .i64 i6, .int .i64 ie] 44 : Obj)) = w62 at h62 ⊢
          obtain ⟨_, _, _, _, _, _, _⟩ := St.aff h62 (b := b9) (a := u0) (b' := u1) (c := u2) (d := u3) (e := u4) (f := u5) (n := u6) (by simp)
          obtain ⟨_, _, _, _, _, _, _⟩ := St.aff h62 (b := c41) (a := i0) (b' := i1) (c := i2) (d := i3) (e := i4) (f := i5) (n := i6) (by simp)
          have zh620 := St.cell h62 (b := b8) (cs := #[.int .i64 u0, .int .i64 u1, .int .i64 u2, .int .i64 u3, .int .i64 u4, .int .i64 u5, .int .i64 u6, .int .i64 te]) (t := 44) (by simp) 0; have zh621 := St.cell h62 (b := b8) (cs := #[.int .i64 u0, .int .i64 u1, .int .i64 u2, .int .i64 u3, .int .i64 u4, .int .i64 u5, .int .i64 u6, .int .i64 te]) (t := 44) (by simp) 1; have zh622 := St.cell h62 (b := b8) (cs := #[.int .i64 u0, .int .i64 u1, .int .i64 u2, .int .i64 u3, .int .i64 u4, .int .i64 u5, .int .i64 u6, .int .i64 te]) (t := 44) (by simp) 2; have zh623 := St.cell h62 (b := b8) (cs := #[.int .i64 u0, .int .i64 u1, .int .i64 u2, .int .i64 u3, .int .i64 u4, .int .i64 u5, .int .i64 u6, .int .i64 te]) (t := 44) (by simp) 3; have zh624 := St.cell h62 (b := b8) (cs := #[.int .i64 u0, .int .i64 u1, .int .i64 u2, .int .i64 u3, .int .i64 u4, .int .i64 u5, .int .i64 u6, .int .i64 te]) (t := 44) (by simp) 4; have zh625 := St.cell h62 (b := b8) (cs := #[.int .i64 u0, .int .i64 u1, .int .i64 u2, .int .i64 u3, .int .i64 u4, .int .i64 u5, .int .i64 u6, .int .i64 te]) (t := 44) (by simp) 5; have zh626 := St.cell h62 (b := b8) (cs := #[.int .i64 u0, .int .i64 u1, .int .i64 u2, .int .i64 u3, .int .i64 u4, .int .i64 u5, .int .i64 u6, .int .i64 te]) (t := 44) (by simp) 6; have zh627 := St.cell h62 (b := b8) (cs := #[.int .i64 u0, .int .i64 u1, .int .i64 u2, .int .i64 u3, .int .i64 u4, .int .i64 u5, .int .i64 u6, .int .i64 te]) (t := 44) (by simp) 7; simp only [List.getElem?_toArray, List.getElem?_cons_zero, List.getElem?_cons_succ] at zh620 zh621 zh622 zh623 zh624 zh625 zh626 zh627
          have zh620 := St.cell h62 (b := c61) (cs := #[.int .i64 i0, .int .i64 i1, .int .i64 i2, .int .i64 i3, .int .i64 i4, .int .i64 i5, .int .i64 i6, .int .i64 ie]) (t := 44) (by simp) 0; have zh621 := St.cell h62 (b := c61) (cs := #[.int .i64 i0, .int .i64 i1, .int .i64 i2, .int .i64 i3, .int .i64 i4, .int .i64 i5, .int .i64 i6, .int .i64 ie]) (t := 44) (by simp) 1; have zh622 := St.cell h62 (b := c61) (cs := #[.int .i64 i0, .int .i64 i1, .int .i64 i2, .int .i64 i3, .int .i64 i4, .int .i64 i5, .int .i64 i6, .int .i64 ie]) (t := 44) (by simp) 2; have zh623 := St.cell h62 (b := c61) (cs := #[.int .i64 i0, .int .i64 i1, .int .i64 i2, .int .i64 i3, .int .i64 i4, .int .i64 i5, .int .i64 i6, .int .i64 ie]) (t := 44) (by simp) 3; have zh624 := St.cell h62 (b := c61) (cs := #[.int .i64 i0, .int .i64 i1, .int .i64 i2, .int .i64 i3, .int .i64 i4, .int .i64 i5, .int .i64 i6, .int .i64 ie]) (t := 44) (by simp) 4; have zh625 := St.cell h62 (b := c61) (cs := #[.int .i64 i0, .int .i64 i1, .int .i64 i2, .int .i64 i3, .int .i64 i4, .int .i64 i5, .int .i64 i6, .int .i64 ie]) (t := 44) (by simp) 5; have zh626 := St.cell h62 (b := c61) (cs := #[.int .i64 i0, .int .i64 i1, .int .i64 i2, .int .i64 i3, .int .i64 i4, .int .i64 i5, .int .i64 i6, .int .i64 ie]) (t := 44) (by simp) 6; have zh627 := St.cell h62 (b := c61) (cs := #[.int .i64 i0, .int .i64 i1, .int .i64 i2, .int .i64 i3, .int .i64 i4, .int .i64 i5, .int .i64 i6, .int .i64 ie]) (t := 44) (by simp) 7; simp only [List.getElem?_toArray, List.getElem?_cons_zero, List.getElem?_cons_succ] at zh620 zh621 zh622 zh623 zh624 zh625 zh626 zh627
          go_wp2_with fail
          exact ⟨⟨.inr (.inr (.inr (.inl rfl))), h62.sub (by intro x hx; simp at hx ⊢; subst hx; simp)⟩, by decide⟩
    · obtain ⟨u0, u1, u2, u3, u4, u5, u6, te, hth⟩ : ∃ u0 u1 u2 u3 u4 u5 u6 te, thn ⟨t0, t1, t2, t3, t4, t5, t6⟩ ⟨t0, t1, t2, t3, t4, t5, t6⟩ = ⟨⟨u0, u1, u2, u3, u4, u5, u6⟩, te⟩ := ⟨_, _, _, _, _, _, _, _, rfl⟩
      obtain ⟨i0, i1, i2, i3, i4, i5, i6, ie, hiv⟩ : ∃ i0 i1 i2 i3 i4 i5 i6 ie, ivt ⟨t0, t1, t2, t3, t4, t5, t6⟩ = ⟨⟨i0, i1, i2, i3, i4, i5, i6⟩, ie⟩ := ⟨_, _, _, _, _, _, _, _, rfl⟩
      have HT : Hid (∀ W, Calls Try.prog 25 #[av t0 t1 t2 t3 t4 t5 t6, av t0 t1 t2 t3 t4 t5 t6] W fun en w' => en = .returned (.tuple #[av u0 u1 u2 u3 u4 u5 u6, .int .i64 te]) ∧ Below W.heap.size W w') := fun W => by
        have := then_any t0 t1 t2 t3 t4 t5 t6 t0 t1 t2 t3 t4 t5 t6 W; rw [hth] at this; exact this
      have HI : Hid (∀ W, Calls Try.prog 26 #[av t0 t1 t2 t3 t4 t5 t6] W fun en w' => en = .returned (.tuple #[av i0 i1 i2 i3 i4 i5 i6, .int .i64 ie]) ∧ Below W.heap.size W w') := fun W => by
        have := inverse_any t0 t1 t2 t3 t4 t5 t6 W; rw [hiv] at this; exact this
      have HRT : Hid (∀ W, Calls Try.prog 27 #[av t0 t1 t2 t3 t4 t5 t6, av t0 t1 t2 t3 t4 t5 t6] W fun en w' => en = .returned (gv u0 u1 u2 u3 u4 u5 u6 te) ∧ Below W.heap.size W w') := fun W => by
        have := refThen_any t0 t1 t2 t3 t4 t5 t6 t0 t1 t2 t3 t4 t5 t6 W; rw [hth] at this; exact this
      have HRI : Hid (∀ W, Calls Try.prog 28 #[av t0 t1 t2 t3 t4 t5 t6] W fun en w' => en = .returned (gv i0 i1 i2 i3 i4 i5 i6 ie) ∧ Below W.heap.size W w') := fun W => by
        have := refInverse_any t0 t1 t2 t3 t4 t5 t6 W; rw [hiv] at this; exact this
      clear hth hiv
      obtain ⟨_, _, _, _, _, _, _, _, _, _, _, _, _, _⟩ := HC3.out _ (St.row hS (b := c3) (o := O) (by simp))
      go_upto_region 8 with fail
      have HP : Hid (∀ V9, St w [(c3, O)] V9 → St w [(c3, O)] V9 ∧ V9.cell? ⟨c3, 42, none⟩ = some (.int .i64 t0) ∧ V9.cell? ⟨c3, 43, none⟩ = some (.int .i64 t1) ∧ V9.cell? ⟨c3, 44, none⟩ = some (.int .i64 t2) ∧ V9.cell? ⟨c3, 45, none⟩ = some (.int .i64 t3) ∧ V9.cell? ⟨c3, 46, none⟩ = some (.int .i64 t4) ∧ V9.cell? ⟨c3, 47, none⟩ = some (.int .i64 t5) ∧ V9.cell? ⟨c3, 48, none⟩ = some (.int .i64 t6) ∧ V9.cell? ⟨c3, 49, none⟩ = some (.int .i64 t0) ∧ V9.cell? ⟨c3, 50, none⟩ = some (.int .i64 t1) ∧ V9.cell? ⟨c3, 51, none⟩ = some (.int .i64 t2) ∧ V9.cell? ⟨c3, 52, none⟩ = some (.int .i64 t3) ∧ V9.cell? ⟨c3, 53, none⟩ = some (.int .i64 t4) ∧ V9.cell? ⟨c3, 54, none⟩ = some (.int .i64 t5) ∧ V9.cell? ⟨c3, 55, none⟩ = some (.int .i64 t6)) := fun V hV => ⟨hV, HC3.out V (hV.row (b := c3) (o := O) (by simp))⟩
      go_cut [12, 13] (fun v8 v9 wx => ∃ b9, v8 = .pointer (some ⟨b9, 0, none⟩) ∧ v9 = .int .i64 te ∧ Hid (St w ((b9, ao u0 u1 u2 u3 u4 u5 u6) :: [(c3, O)]) wx))
      case first =>
        refine wp_region_held_drew (S := fun V9 => St w [(c3, O)] V9 ∧ V9.cell? ⟨c3, 42, none⟩ = some (.int .i64 t0) ∧ V9.cell? ⟨c3, 43, none⟩ = some (.int .i64 t1) ∧ V9.cell? ⟨c3, 44, none⟩ = some (.int .i64 t2) ∧ V9.cell? ⟨c3, 45, none⟩ = some (.int .i64 t3) ∧ V9.cell? ⟨c3, 46, none⟩ = some (.int .i64 t4) ∧ V9.cell? ⟨c3, 47, none⟩ = some (.int .i64 t5) ∧ V9.cell? ⟨c3, 48, none⟩ = some (.int .i64 t6) ∧ V9.cell? ⟨c3, 49, none⟩ = some (.int .i64 t0) ∧ V9.cell? ⟨c3, 50, none⟩ = some (.int .i64 t1) ∧ V9.cell? ⟨c3, 51, none⟩ = some (.int .i64 t2) ∧ V9.cell? ⟨c3, 52, none⟩ = some (.int .i64 t3) ∧ V9.cell? ⟨c3, 53, none⟩ = some (.int .i64 t4) ∧ V9.cell? ⟨c3, 54, none⟩ = some (.int .i64 t5) ∧ V9.cell? ⟨c3, 55, none⟩ = some (.int .i64 t6)) (by kernel_rfl) ?_ (fun hHeld => ?_)
        · exact HP.out _ (hS.drew)
        have hS0 := hS.drew
        refine wpAnyH_take (i := 0) (oi := { dst := some 43, op := Op.move (Operand.tmp 11), type := 3, pos := "law.go:50", after := #[], guard := none }) (v := ?_) rfl (by kernel_rfl) (by kernel_rfl) (by kernel_rfl) (fun _ _ _ h => h) (Or.inl ⟨by kernel_rfl, ?_⟩) (by assumption) ?_
        rotate_left 1
        focus (intro w hSw; (try dsimp only at hSw); go_simp; (try with_reducible rfl))
        try simp only [Act.put, List.setIfInBounds_toArray, List.set_cons_zero, List.set_cons_succ]
        refine wpAnyH_take (i := 1) (oi := { dst := some 44, op := Op.indexAddr 38 (Operand.tmp 10) (Operand.tmp 43), type := 0, pos := "law.go:50", after := #[{ on := 0, ground := Ground.data }], guard := none }) (v := ?_) rfl (by kernel_rfl) (by kernel_rfl) (by kernel_rfl) (fun _ _ _ h => h) (Or.inl ⟨by kernel_rfl, ?_⟩) (by assumption) ?_
        rotate_left 1
        focus (intro w hSw; (try dsimp only at hSw); go_simp; (try with_reducible rfl))
        try simp only [Act.put, List.setIfInBounds_toArray, List.set_cons_zero, List.set_cons_succ]
        refine wpAnyH_take (i := 2) (oi := { dst := some 45, op := Op.indexAddr 37 (Operand.tmp 44) (Operand.const (Value.int IntKind.i64 0)), type := 0, pos := "law.go:50", after := #[{ on := 1, ground := Ground.data }], guard := none }) (v := ?_) rfl (by kernel_rfl) (by kernel_rfl) (by kernel_rfl) (fun _ _ _ h => h) (Or.inl ⟨by kernel_rfl, ?_⟩) (by assumption) ?_
        rotate_left 1
        focus (intro w hSw; (try dsimp only at hSw); go_simp; (try with_reducible rfl))
        try simp only [Act.put, List.setIfInBounds_toArray, List.set_cons_zero, List.set_cons_succ]
        refine wpAnyH_take (i := 3) (oi := { dst := some 46, op := Op.load 23 (Operand.tmp 45), type := 23, pos := "law.go:50", after := #[{ on := 2, ground := Ground.data }], guard := none }) (v := ?_) rfl (by kernel_rfl) (by kernel_rfl) (by kernel_rfl) (fun _ _ _ h => h) (Or.inl ⟨by kernel_rfl, ?_⟩) (by assumption) ?_
        rotate_left 1
        focus (intro w hSw; (try dsimp only at hSw); go_simp; (try with_reducible rfl))
        try simp only [Act.put, List.setIfInBounds_toArray, List.set_cons_zero, List.set_cons_succ]
        refine wpAnyH_take (i := 4) (oi := { dst := some 47, op := Op.move (Operand.tmp 11), type := 3, pos := "law.go:50", after := #[], guard := none }) (v := ?_) rfl (by kernel_rfl) (by kernel_rfl) (by kernel_rfl) (fun _ _ _ h => h) (Or.inl ⟨by kernel_rfl, ?_⟩) (by assumption) ?_
        rotate_left 1
        focus (intro w hSw; (try dsimp only at hSw); go_simp; (try with_reducible rfl))
        try simp only [Act.put, List.setIfInBounds_toArray, List.set_cons_zero, List.set_cons_succ]
        refine wpAnyH_take (i := 5) (oi := { dst := some 48, op := Op.indexAddr 38 (Operand.tmp 10) (Operand.tmp 47), type := 0, pos := "law.go:50", after := #[{ on := 4, ground := Ground.data }], guard := none }) (v := ?_) rfl (by kernel_rfl) (by kernel_rfl) (by kernel_rfl) (fun _ _ _ h => h) (Or.inl ⟨by kernel_rfl, ?_⟩) (by assumption) ?_
        rotate_left 1
        focus (intro w hSw; (try dsimp only at hSw); go_simp; (try with_reducible rfl))
        try simp only [Act.put, List.setIfInBounds_toArray, List.set_cons_zero, List.set_cons_succ]
        refine wpAnyH_take (i := 6) (oi := { dst := some 49, op := Op.indexAddr 37 (Operand.tmp 48) (Operand.const (Value.int IntKind.i64 1)), type := 0, pos := "law.go:50", after := #[{ on := 5, ground := Ground.data }], guard := none }) (v := ?_) rfl (by kernel_rfl) (by kernel_rfl) (by kernel_rfl) (fun _ _ _ h => h) (Or.inl ⟨by kernel_rfl, ?_⟩) (by assumption) ?_
        rotate_left 1
        focus (intro w hSw; (try dsimp only at hSw); go_simp; (try with_reducible rfl))
        try simp only [Act.put, List.setIfInBounds_toArray, List.set_cons_zero, List.set_cons_succ]
        refine wpAnyH_take (i := 7) (oi := { dst := some 50, op := Op.load 23 (Operand.tmp 49), type := 23, pos := "law.go:50", after := #[{ on := 6, ground := Ground.data }], guard := none }) (v := ?_) rfl (by kernel_rfl) (by kernel_rfl) (by kernel_rfl) (fun _ _ _ h => h) (Or.inl ⟨by kernel_rfl, ?_⟩) (by assumption) ?_
        rotate_left 1
        focus (intro w hSw; (try dsimp only at hSw); go_simp; (try with_reducible rfl))
        try simp only [Act.put, List.setIfInBounds_toArray, List.set_cons_zero, List.set_cons_succ]
        refine wpAnyH_ready (rs := [8, 12]) (by kernel_rfl) (by simp) (AllReadyH.cons (o := { dst := some 51, op := Op.call { callee := Callee.value (Operand.func 25), args := #[Operand.tmp 46, Operand.tmp 50], argTypes := #[23, 23] }, type := 40, pos := "law.go:50", after := #[{ on := 3, ground := Ground.data }, { on := 7, ground := Ground.data }], guard := none }) rfl (fun K hK => ?_) (AllReadyH.cons (o := { dst := some 12, op := Op.alloc 23, type := 0, pos := "law.go:50", after := #[], guard := none }) rfl (fun K hK => ?_) AllReadyH.nil))
        · (go_simp; (go_at_call 25; (refine (St.call hS0 (HT.out _)).mono ?_); rintro e V1r8 ⟨rfl, hS1r8⟩))
          refine hK.out _ _ ?_ (fun hHeld => ?_)
          · exact HP.out _ (hS1r8)
          clear hK K
          try simp only [Act.put, List.setIfInBounds_toArray, List.set_cons_zero, List.set_cons_succ]
          refine wpAnyH_take (i := 9) (oi := { dst := some 42, op := Op.move (Operand.tmp 51), type := 40, pos := "law.go:50", after := #[{ on := 8, ground := Ground.data }], guard := none }) (v := ?_) rfl (by kernel_rfl) (by kernel_rfl) (by kernel_rfl) (fun _ _ _ h => h) (Or.inl ⟨by kernel_rfl, ?_⟩) (by assumption) ?_
          rotate_left 1
          focus (intro w hSw; (try dsimp only at hSw); go_simp; (try with_reducible rfl))
          try simp only [Act.put, List.setIfInBounds_toArray, List.set_cons_zero, List.set_cons_succ]
          refine wpAnyH_take (i := 10) (oi := { dst := some 52, op := Op.extract (Operand.tmp 42) 0, type := 23, pos := "law.go:50", after := #[{ on := 9, ground := Ground.data }], guard := none }) (v := ?_) rfl (by kernel_rfl) (by kernel_rfl) (by kernel_rfl) (fun _ _ _ h => h) (Or.inl ⟨by kernel_rfl, ?_⟩) (by assumption) ?_
          rotate_left 1
          focus (intro w hSw; (try dsimp only at hSw); go_simp; (try with_reducible rfl))
          try simp only [Act.put, List.setIfInBounds_toArray, List.set_cons_zero, List.set_cons_succ]
          refine wpAnyH_take (i := 11) (oi := { dst := some 53, op := Op.extract (Operand.tmp 42) 1, type := 39, pos := "law.go:50", after := #[{ on := 9, ground := Ground.data }, { on := 13, ground := Ground.gcOnly Departure.lateStores }], guard := none }) (v := ?_) rfl (by kernel_rfl) (by kernel_rfl) (by kernel_rfl) (fun _ _ _ h => h) (Or.inl ⟨by kernel_rfl, ?_⟩) (by assumption) ?_
          rotate_left 1
          focus (intro w hSw; (try dsimp only at hSw); go_simp; (try with_reducible rfl))
          try simp only [Act.put, List.setIfInBounds_toArray, List.set_cons_zero, List.set_cons_succ]
          refine wpAnyH_ready (rs := [12]) (by kernel_rfl) (by simp) (AllReadyH.cons (o := { dst := some 12, op := Op.alloc 23, type := 0, pos := "law.go:50", after := #[], guard := none }) rfl (fun K hK => ?_) AllReadyH.nil)
          have hne12r8 := hS1r8.ne
          have hle12r8 := hS1r8.below.size
          have hlt12r8 := fun (b : Nat) (o : Obj) (hm : (b, o) ∈ _) => hS1r8.lt hm
          have hS2r8 := hS1r8.alloc (.cells #[.int .i64 0, .int .i64 0, .int .i64 0, .int .i64 0, .int .i64 0, .int .i64 0, .int .i64 0] 23)
          refine wp_alloc_of 23 rfl _ (zero_aff _) ?_
          refine hK.out _ _ ?_ (fun hHeld => ?_)
          · exact HP.out _ (hS2r8.tl)
          clear hK K
          try simp only [Act.put, List.setIfInBounds_toArray, List.set_cons_zero, List.set_cons_succ]
          refine wpAnyH_ready (rs := [13]) (by kernel_rfl) (by simp) (AllReadyH.cons (o := { dst := none, op := Op.store 23 (Operand.tmp 12) (Operand.tmp 52), type := 0, pos := "law.go:50", after := #[{ on := 12, ground := Ground.data }, { on := 10, ground := Ground.data }, { on := 8, ground := Ground.chain }, { on := 0, ground := Ground.phase }, { on := 1, ground := Ground.phase }, { on := 2, ground := Ground.phase }, { on := 3, ground := Ground.phase }, { on := 4, ground := Ground.phase }, { on := 5, ground := Ground.phase }, { on := 6, ground := Ground.phase }, { on := 7, ground := Ground.phase }, { on := 8, ground := Ground.phase }, { on := 9, ground := Ground.phase }, { on := 10, ground := Ground.phase }, { on := 11, ground := Ground.textOnly Departure.lateStores }, { on := 12, ground := Ground.phase }], guard := none }) rfl (fun K hK => ?_) AllReadyH.nil)
          have hS3r8 := hS2r8.rowset (ds := #[.int .i64 u0, .int .i64 u1, .int .i64 u2, .int .i64 u3, .int .i64 u4, .int .i64 u5, .int .i64 u6]) hle12r8 hne12r8
          refine wp_store_of 23 _ _ rfl (store_row 23 (cs := #[.int .i64 0, .int .i64 0, .int .i64 0, .int .i64 0, .int .i64 0, .int .i64 0, .int .i64 0]) (ds := #[.int .i64 u0, .int .i64 u1, .int .i64 u2, .int .i64 u3, .int .i64 u4, .int .i64 u5, .int .i64 u6]) (by kernel_rfl) rfl (by simp [Value.oneCell']) hS2r8.hd) ?_
          refine hK.out _ _ ?_ (fun hHeld => ?_)
          · exact HP.out _ (hS3r8.tl)
          clear hK K
          try simp only [Act.put]
          refine wpAnyH_take (i := 14) (oi := { dst := some 13, op := Op.assign (Operand.tmp 53), type := 39, pos := "law.go:50", after := #[{ on := 11, ground := Ground.data }, { on := 13, ground := Ground.chain }, { on := 0, ground := Ground.phase }, { on := 1, ground := Ground.phase }, { on := 2, ground := Ground.phase }, { on := 3, ground := Ground.phase }, { on := 4, ground := Ground.phase }, { on := 5, ground := Ground.phase }, { on := 6, ground := Ground.phase }, { on := 7, ground := Ground.phase }, { on := 8, ground := Ground.phase }, { on := 9, ground := Ground.phase }, { on := 10, ground := Ground.phase }, { on := 11, ground := Ground.phase }, { on := 12, ground := Ground.phase }, { on := 13, ground := Ground.phase }], guard := none }) (v := ?_) rfl (by kernel_rfl) (by kernel_rfl) (by kernel_rfl) (fun _ _ _ h => h) (Or.inl ⟨by kernel_rfl, ?_⟩) (by assumption) ?_
          rotate_left 1
          focus (intro w hSw; (try dsimp only at hSw); go_simp; (try with_reducible rfl))
          try simp only [Act.put, List.setIfInBounds_toArray, List.set_cons_zero, List.set_cons_succ]
          refine wpAnyH_done (by kernel_rfl) ?_ _
          have h9 := hS3r8
          go_wp2_with fail
          go_meet
          case rel => exact ⟨_, rfl, rfl, h9⟩
        · have hne12r8 := hS0.ne
          have hle12r8 := hS0.below.size
          have hlt12r8 := fun (b : Nat) (o : Obj) (hm : (b, o) ∈ _) => hS0.lt hm
          have hS4r8 := hS0.alloc (.cells #[.int .i64 0, .int .i64 0, .int .i64 0, .int .i64 0, .int .i64 0, .int .i64 0, .int .i64 0] 23)
          refine wp_alloc_of 23 rfl _ (zero_aff _) ?_
          refine hK.out _ _ ?_ (fun hHeld => ?_)
          · exact HP.out _ (hS4r8.tl)
          clear hK K
          try simp only [Act.put, List.setIfInBounds_toArray, List.set_cons_zero, List.set_cons_succ]
          refine wpAnyH_ready (rs := [8]) (by kernel_rfl) (by simp) (AllReadyH.cons (o := { dst := some 51, op := Op.call { callee := Callee.value (Operand.func 25), args := #[Operand.tmp 46, Operand.tmp 50], argTypes := #[23, 23] }, type := 40, pos := "law.go:50", after := #[{ on := 3, ground := Ground.data }, { on := 7, ground := Ground.data }], guard := none }) rfl (fun K hK => ?_) AllReadyH.nil)
          (go_simp; (go_at_call 25; (refine (St.call hS4r8 (HT.out _)).mono ?_); rintro e V5r8 ⟨rfl, hS5r8⟩))
          refine hK.out _ _ ?_ (fun hHeld => ?_)
          · exact HP.out _ (hS5r8.tl)
          clear hK K
          try simp only [Act.put, List.setIfInBounds_toArray, List.set_cons_zero, List.set_cons_succ]
          refine wpAnyH_take (i := 9) (oi := { dst := some 42, op := Op.move (Operand.tmp 51), type := 40, pos := "law.go:50", after := #[{ on := 8, ground := Ground.data }], guard := none }) (v := ?_) rfl (by kernel_rfl) (by kernel_rfl) (by kernel_rfl) (fun _ _ _ h => h) (Or.inl ⟨by kernel_rfl, ?_⟩) (by assumption) ?_
          rotate_left 1
          focus (intro w hSw; (try dsimp only at hSw); go_simp; (try with_reducible rfl))
          try simp only [Act.put, List.setIfInBounds_toArray, List.set_cons_zero, List.set_cons_succ]
          refine wpAnyH_take (i := 10) (oi := { dst := some 52, op := Op.extract (Operand.tmp 42) 0, type := 23, pos := "law.go:50", after := #[{ on := 9, ground := Ground.data }], guard := none }) (v := ?_) rfl (by kernel_rfl) (by kernel_rfl) (by kernel_rfl) (fun _ _ _ h => h) (Or.inl ⟨by kernel_rfl, ?_⟩) (by assumption) ?_
          rotate_left 1
          focus (intro w hSw; (try dsimp only at hSw); go_simp; (try with_reducible rfl))
          try simp only [Act.put, List.setIfInBounds_toArray, List.set_cons_zero, List.set_cons_succ]
          refine wpAnyH_take (i := 11) (oi := { dst := some 53, op := Op.extract (Operand.tmp 42) 1, type := 39, pos := "law.go:50", after := #[{ on := 9, ground := Ground.data }, { on := 13, ground := Ground.gcOnly Departure.lateStores }], guard := none }) (v := ?_) rfl (by kernel_rfl) (by kernel_rfl) (by kernel_rfl) (fun _ _ _ h => h) (Or.inl ⟨by kernel_rfl, ?_⟩) (by assumption) ?_
          rotate_left 1
          focus (intro w hSw; (try dsimp only at hSw); go_simp; (try with_reducible rfl))
          try simp only [Act.put, List.setIfInBounds_toArray, List.set_cons_zero, List.set_cons_succ]
          refine wpAnyH_ready (rs := [13]) (by kernel_rfl) (by simp) (AllReadyH.cons (o := { dst := none, op := Op.store 23 (Operand.tmp 12) (Operand.tmp 52), type := 0, pos := "law.go:50", after := #[{ on := 12, ground := Ground.data }, { on := 10, ground := Ground.data }, { on := 8, ground := Ground.chain }, { on := 0, ground := Ground.phase }, { on := 1, ground := Ground.phase }, { on := 2, ground := Ground.phase }, { on := 3, ground := Ground.phase }, { on := 4, ground := Ground.phase }, { on := 5, ground := Ground.phase }, { on := 6, ground := Ground.phase }, { on := 7, ground := Ground.phase }, { on := 8, ground := Ground.phase }, { on := 9, ground := Ground.phase }, { on := 10, ground := Ground.phase }, { on := 11, ground := Ground.textOnly Departure.lateStores }, { on := 12, ground := Ground.phase }], guard := none }) rfl (fun K hK => ?_) AllReadyH.nil)
          have hS6r8 := hS5r8.rowset (ds := #[.int .i64 u0, .int .i64 u1, .int .i64 u2, .int .i64 u3, .int .i64 u4, .int .i64 u5, .int .i64 u6]) hle12r8 hne12r8
          refine wp_store_of 23 _ _ rfl (store_row 23 (cs := #[.int .i64 0, .int .i64 0, .int .i64 0, .int .i64 0, .int .i64 0, .int .i64 0, .int .i64 0]) (ds := #[.int .i64 u0, .int .i64 u1, .int .i64 u2, .int .i64 u3, .int .i64 u4, .int .i64 u5, .int .i64 u6]) (by kernel_rfl) rfl (by simp [Value.oneCell']) hS5r8.hd) ?_
          refine hK.out _ _ ?_ (fun hHeld => ?_)
          · exact HP.out _ (hS6r8.tl)
          clear hK K
          try simp only [Act.put]
          refine wpAnyH_take (i := 14) (oi := { dst := some 13, op := Op.assign (Operand.tmp 53), type := 39, pos := "law.go:50", after := #[{ on := 11, ground := Ground.data }, { on := 13, ground := Ground.chain }, { on := 0, ground := Ground.phase }, { on := 1, ground := Ground.phase }, { on := 2, ground := Ground.phase }, { on := 3, ground := Ground.phase }, { on := 4, ground := Ground.phase }, { on := 5, ground := Ground.phase }, { on := 6, ground := Ground.phase }, { on := 7, ground := Ground.phase }, { on := 8, ground := Ground.phase }, { on := 9, ground := Ground.phase }, { on := 10, ground := Ground.phase }, { on := 11, ground := Ground.phase }, { on := 12, ground := Ground.phase }, { on := 13, ground := Ground.phase }], guard := none }) (v := ?_) rfl (by kernel_rfl) (by kernel_rfl) (by kernel_rfl) (fun _ _ _ h => h) (Or.inl ⟨by kernel_rfl, ?_⟩) (by assumption) ?_
          rotate_left 1
          focus (intro w hSw; (try dsimp only at hSw); go_simp; (try with_reducible rfl))
          try simp only [Act.put, List.setIfInBounds_toArray, List.set_cons_zero, List.set_cons_succ]
          refine wpAnyH_done (by kernel_rfl) ?_ _
          have h9 := hS6r8
          go_wp2_with fail
          go_meet
          case rel => exact ⟨_, rfl, rfl, h9⟩
      case rest =>
        obtain ⟨b9, rfl, rfl, HQ⟩ := hcut
        have h40 := HQ.out
        clear HQ HP hS
        obtain ⟨_, _, _, _, _, _, _, _, _, _, _, _, _, _⟩ := HC3.out _ (St.row h40 (b := c3) (o := O) (by simp))
        go_upto_region 10 with (first | (go_at_call 26; (with_reducible refine (St.call h40 (HI.out _)).mono ?_); rintro en w41 ⟨rfl, h41⟩))
        have h42 := h41.alloc (ao i0 i1 i2 i3 i4 i5 i6)
        generalize w41.heap.size = c41 at h42 ⊢
        generalize w41.alloc (ao i0 i1 i2 i3 i4 i5 i6) = w42 at h42 ⊢
        have HP2 : Hid (∀ V9, St w [(c41, ao i0 i1 i2 i3 i4 i5 i6), (b9, ao u0 u1 u2 u3 u4 u5 u6), (c3, O)] V9 → St w [(c41, ao i0 i1 i2 i3 i4 i5 i6), (b9, ao u0 u1 u2 u3 u4 u5 u6), (c3, O)] V9 ∧ V9.cell? ⟨c3, 42, none⟩ = some (.int .i64 t0) ∧ V9.cell? ⟨c3, 43, none⟩ = some (.int .i64 t1) ∧ V9.cell? ⟨c3, 44, none⟩ = some (.int .i64 t2) ∧ V9.cell? ⟨c3, 45, none⟩ = some (.int .i64 t3) ∧ V9.cell? ⟨c3, 46, none⟩ = some (.int .i64 t4) ∧ V9.cell? ⟨c3, 47, none⟩ = some (.int .i64 t5) ∧ V9.cell? ⟨c3, 48, none⟩ = some (.int .i64 t6) ∧ V9.cell? ⟨c3, 49, none⟩ = some (.int .i64 t0) ∧ V9.cell? ⟨c3, 50, none⟩ = some (.int .i64 t1) ∧ V9.cell? ⟨c3, 51, none⟩ = some (.int .i64 t2) ∧ V9.cell? ⟨c3, 52, none⟩ = some (.int .i64 t3) ∧ V9.cell? ⟨c3, 53, none⟩ = some (.int .i64 t4) ∧ V9.cell? ⟨c3, 54, none⟩ = some (.int .i64 t5) ∧ V9.cell? ⟨c3, 55, none⟩ = some (.int .i64 t6)) := fun V hV => ⟨hV, HC3.out V (hV.row (b := c3) (o := O) (by simp))⟩
        go_cut [16] (fun v8 wx => ∃ b8, v8 = .pointer (some ⟨b8, 0, none⟩) ∧ Hid (St w ((b8, go8 u0 u1 u2 u3 u4 u5 u6 te) :: [(c41, ao i0 i1 i2 i3 i4 i5 i6), (b9, ao u0 u1 u2 u3 u4 u5 u6), (c3, O)]) wx))
        case first =>
          refine wp_region_held_drew (S := fun V9 => St w [(c41, ao i0 i1 i2 i3 i4 i5 i6), (b9, ao u0 u1 u2 u3 u4 u5 u6), (c3, O)] V9 ∧ V9.cell? ⟨c3, 42, none⟩ = some (.int .i64 t0) ∧ V9.cell? ⟨c3, 43, none⟩ = some (.int .i64 t1) ∧ V9.cell? ⟨c3, 44, none⟩ = some (.int .i64 t2) ∧ V9.cell? ⟨c3, 45, none⟩ = some (.int .i64 t3) ∧ V9.cell? ⟨c3, 46, none⟩ = some (.int .i64 t4) ∧ V9.cell? ⟨c3, 47, none⟩ = some (.int .i64 t5) ∧ V9.cell? ⟨c3, 48, none⟩ = some (.int .i64 t6) ∧ V9.cell? ⟨c3, 49, none⟩ = some (.int .i64 t0) ∧ V9.cell? ⟨c3, 50, none⟩ = some (.int .i64 t1) ∧ V9.cell? ⟨c3, 51, none⟩ = some (.int .i64 t2) ∧ V9.cell? ⟨c3, 52, none⟩ = some (.int .i64 t3) ∧ V9.cell? ⟨c3, 53, none⟩ = some (.int .i64 t4) ∧ V9.cell? ⟨c3, 54, none⟩ = some (.int .i64 t5) ∧ V9.cell? ⟨c3, 55, none⟩ = some (.int .i64 t6)) (by kernel_rfl) ?_ (fun hHeld => ?_)
          · exact HP2.out _ (h42.drew)
          have h420 := h42.drew
          refine wpAnyH_take (i := 0) (oi := { dst := some 62, op := Op.move (Operand.tmp 11), type := 3, pos := "law.go:52", after := #[], guard := none }) (v := ?_) rfl (by kernel_rfl) (by kernel_rfl) (by kernel_rfl) (fun _ _ _ h => h) (Or.inl ⟨by kernel_rfl, ?_⟩) (by assumption) ?_
          rotate_left 1
          focus (intro w hSw; (try dsimp only at hSw); go_simp; (try with_reducible rfl))
          try simp only [Act.put, List.setIfInBounds_toArray, List.set_cons_zero, List.set_cons_succ]
          refine wpAnyH_take (i := 1) (oi := { dst := some 63, op := Op.indexAddr 38 (Operand.tmp 10) (Operand.tmp 62), type := 0, pos := "law.go:52", after := #[{ on := 0, ground := Ground.data }], guard := none }) (v := ?_) rfl (by kernel_rfl) (by kernel_rfl) (by kernel_rfl) (fun _ _ _ h => h) (Or.inl ⟨by kernel_rfl, ?_⟩) (by assumption) ?_
          rotate_left 1
          focus (intro w hSw; (try dsimp only at hSw); go_simp; (try with_reducible rfl))
          try simp only [Act.put, List.setIfInBounds_toArray, List.set_cons_zero, List.set_cons_succ]
          refine wpAnyH_take (i := 2) (oi := { dst := some 64, op := Op.indexAddr 37 (Operand.tmp 63) (Operand.const (Value.int IntKind.i64 0)), type := 0, pos := "law.go:52", after := #[{ on := 1, ground := Ground.data }], guard := none }) (v := ?_) rfl (by kernel_rfl) (by kernel_rfl) (by kernel_rfl) (fun _ _ _ h => h) (Or.inl ⟨by kernel_rfl, ?_⟩) (by assumption) ?_
          rotate_left 1
          focus (intro w hSw; (try dsimp only at hSw); go_simp; (try with_reducible rfl))
          try simp only [Act.put, List.setIfInBounds_toArray, List.set_cons_zero, List.set_cons_succ]
          refine wpAnyH_take (i := 3) (oi := { dst := some 65, op := Op.load 23 (Operand.tmp 64), type := 23, pos := "law.go:52", after := #[{ on := 2, ground := Ground.data }], guard := none }) (v := ?_) rfl (by kernel_rfl) (by kernel_rfl) (by kernel_rfl) (fun _ _ _ h => h) (Or.inl ⟨by kernel_rfl, ?_⟩) (by assumption) ?_
          rotate_left 1
          focus (intro w hSw; (try dsimp only at hSw); go_simp; (try with_reducible rfl))
          try simp only [Act.put, List.setIfInBounds_toArray, List.set_cons_zero, List.set_cons_succ]
          refine wpAnyH_take (i := 4) (oi := { dst := some 66, op := Op.move (Operand.tmp 11), type := 3, pos := "law.go:52", after := #[], guard := none }) (v := ?_) rfl (by kernel_rfl) (by kernel_rfl) (by kernel_rfl) (fun _ _ _ h => h) (Or.inl ⟨by kernel_rfl, ?_⟩) (by assumption) ?_
          rotate_left 1
          focus (intro w hSw; (try dsimp only at hSw); go_simp; (try with_reducible rfl))
          try simp only [Act.put, List.setIfInBounds_toArray, List.set_cons_zero, List.set_cons_succ]
          refine wpAnyH_take (i := 5) (oi := { dst := some 67, op := Op.indexAddr 38 (Operand.tmp 10) (Operand.tmp 66), type := 0, pos := "law.go:52", after := #[{ on := 4, ground := Ground.data }], guard := none }) (v := ?_) rfl (by kernel_rfl) (by kernel_rfl) (by kernel_rfl) (fun _ _ _ h => h) (Or.inl ⟨by kernel_rfl, ?_⟩) (by assumption) ?_
          rotate_left 1
          focus (intro w hSw; (try dsimp only at hSw); go_simp; (try with_reducible rfl))
          try simp only [Act.put, List.setIfInBounds_toArray, List.set_cons_zero, List.set_cons_succ]
          refine wpAnyH_take (i := 6) (oi := { dst := some 68, op := Op.indexAddr 37 (Operand.tmp 67) (Operand.const (Value.int IntKind.i64 1)), type := 0, pos := "law.go:52", after := #[{ on := 5, ground := Ground.data }], guard := none }) (v := ?_) rfl (by kernel_rfl) (by kernel_rfl) (by kernel_rfl) (fun _ _ _ h => h) (Or.inl ⟨by kernel_rfl, ?_⟩) (by assumption) ?_
          rotate_left 1
          focus (intro w hSw; (try dsimp only at hSw); go_simp; (try with_reducible rfl))
          try simp only [Act.put, List.setIfInBounds_toArray, List.set_cons_zero, List.set_cons_succ]
          refine wpAnyH_take (i := 7) (oi := { dst := some 69, op := Op.load 23 (Operand.tmp 68), type := 23, pos := "law.go:52", after := #[{ on := 6, ground := Ground.data }], guard := none }) (v := ?_) rfl (by kernel_rfl) (by kernel_rfl) (by kernel_rfl) (fun _ _ _ h => h) (Or.inl ⟨by kernel_rfl, ?_⟩) (by assumption) ?_
          rotate_left 1
          focus (intro w hSw; (try dsimp only at hSw); go_simp; (try with_reducible rfl))
          try simp only [Act.put, List.setIfInBounds_toArray, List.set_cons_zero, List.set_cons_succ]
          refine wpAnyH_ready (rs := [8, 9]) (by kernel_rfl) (by simp) (AllReadyH.cons (o := { dst := some 70, op := Op.call { callee := Callee.value (Operand.func 27), args := #[Operand.tmp 65, Operand.tmp 69], argTypes := #[23, 23] }, type := 44, pos := "law.go:52", after := #[{ on := 3, ground := Ground.data }, { on := 7, ground := Ground.data }], guard := none }) rfl (fun K hK => ?_) (AllReadyH.cons (o := { dst := some 16, op := Op.alloc 44, type := 0, pos := "law.go:52", after := #[], guard := none }) rfl (fun K hK => ?_) AllReadyH.nil))
          · (go_simp; (go_at_call 27; (refine (St.call h420 (HRT.out _)).mono ?_); rintro e V1r10 ⟨rfl, h421r10⟩))
            refine hK.out _ _ ?_ (fun hHeld => ?_)
            · exact HP2.out _ (h421r10)
            clear hK K
            try simp only [Act.put, List.setIfInBounds_toArray, List.set_cons_zero, List.set_cons_succ]
            refine wpAnyH_ready (rs := [9]) (by kernel_rfl) (by simp) (AllReadyH.cons (o := { dst := some 16, op := Op.alloc 44, type := 0, pos := "law.go:52", after := #[], guard := none }) rfl (fun K hK => ?_) AllReadyH.nil)
            have hne9r10 := h421r10.ne
            have hle9r10 := h421r10.below.size
            have hlt9r10 := fun (b : Nat) (o : Obj) (hm : (b, o) ∈ _) => h421r10.lt hm
            have h422r10 := h421r10.alloc (.cells #[.int .i64 0, .int .i64 0, .int .i64 0, .int .i64 0, .int .i64 0, .int .i64 0, .int .i64 0, .int .i64 0] 44)
            refine wp_alloc_of 44 rfl _ (zero_got _) ?_
            refine hK.out _ _ ?_ (fun hHeld => ?_)
            · exact HP2.out _ (h422r10.tl)
            clear hK K
            try simp only [Act.put, List.setIfInBounds_toArray, List.set_cons_zero, List.set_cons_succ]
            refine wpAnyH_ready (rs := [10]) (by kernel_rfl) (by simp) (AllReadyH.cons (o := { dst := none, op := Op.store 44 (Operand.tmp 16) (Operand.tmp 70), type := 0, pos := "law.go:52", after := #[{ on := 9, ground := Ground.data }, { on := 8, ground := Ground.data }, { on := 8, ground := Ground.chain }, { on := 0, ground := Ground.phase }, { on := 1, ground := Ground.phase }, { on := 2, ground := Ground.phase }, { on := 3, ground := Ground.phase }, { on := 4, ground := Ground.phase }, { on := 5, ground := Ground.phase }, { on := 6, ground := Ground.phase }, { on := 7, ground := Ground.phase }, { on := 8, ground := Ground.phase }, { on := 9, ground := Ground.phase }], guard := none }) rfl (fun K hK => ?_) AllReadyH.nil)
            have h423r10 := h422r10.rowset (ds := #[.int .i64 u0, .int .i64 u1, .int .i64 u2, .int .i64 u3, .int .i64 u4, .int .i64 u5, .int .i64 u6, .int .i64 te]) hle9r10 hne9r10
            refine wp_store_of 44 _ _ rfl (store_row 44 (cs := #[.int .i64 0, .int .i64 0, .int .i64 0, .int .i64 0, .int .i64 0, .int .i64 0, .int .i64 0, .int .i64 0]) (ds := #[.int .i64 u0, .int .i64 u1, .int .i64 u2, .int .i64 u3, .int .i64 u4, .int .i64 u5, .int .i64 u6, .int .i64 te]) (by kernel_rfl) rfl (by simp [Value.oneCell']) h422r10.hd) ?_
            refine hK.out _ _ ?_ (fun hHeld => ?_)
            · exact HP2.out _ (h423r10.tl)
            clear hK K
            try simp only [Act.put]
            refine wpAnyH_done (by kernel_rfl) ?_ _
            have h9 := h423r10
            go_wp2_with fail
            go_meet
            case rel => exact ⟨_, rfl, h9⟩
          · have hne9r10 := h420.ne
            have hle9r10 := h420.below.size
            have hlt9r10 := fun (b : Nat) (o : Obj) (hm : (b, o) ∈ _) => h420.lt hm
            have h424r10 := h420.alloc (.cells #[.int .i64 0, .int .i64 0, .int .i64 0, .int .i64 0, .int .i64 0, .int .i64 0, .int .i64 0, .int .i64 0] 44)
            refine wp_alloc_of 44 rfl _ (zero_got _) ?_
            refine hK.out _ _ ?_ (fun hHeld => ?_)
            · exact HP2.out _ (h424r10.tl)
            clear hK K
            try simp only [Act.put, List.setIfInBounds_toArray, List.set_cons_zero, List.set_cons_succ]
            refine wpAnyH_ready (rs := [8]) (by kernel_rfl) (by simp) (AllReadyH.cons (o := { dst := some 70, op := Op.call { callee := Callee.value (Operand.func 27), args := #[Operand.tmp 65, Operand.tmp 69], argTypes := #[23, 23] }, type := 44, pos := "law.go:52", after := #[{ on := 3, ground := Ground.data }, { on := 7, ground := Ground.data }], guard := none }) rfl (fun K hK => ?_) AllReadyH.nil)
            (go_simp; (go_at_call 27; (refine (St.call h424r10 (HRT.out _)).mono ?_); rintro e V5r10 ⟨rfl, h425r10⟩))
            refine hK.out _ _ ?_ (fun hHeld => ?_)
            · exact HP2.out _ (h425r10.tl)
            clear hK K
            try simp only [Act.put, List.setIfInBounds_toArray, List.set_cons_zero, List.set_cons_succ]
            refine wpAnyH_ready (rs := [10]) (by kernel_rfl) (by simp) (AllReadyH.cons (o := { dst := none, op := Op.store 44 (Operand.tmp 16) (Operand.tmp 70), type := 0, pos := "law.go:52", after := #[{ on := 9, ground := Ground.data }, { on := 8, ground := Ground.data }, { on := 8, ground := Ground.chain }, { on := 0, ground := Ground.phase }, { on := 1, ground := Ground.phase }, { on := 2, ground := Ground.phase }, { on := 3, ground := Ground.phase }, { on := 4, ground := Ground.phase }, { on := 5, ground := Ground.phase }, { on := 6, ground := Ground.phase }, { on := 7, ground := Ground.phase }, { on := 8, ground := Ground.phase }, { on := 9, ground := Ground.phase }], guard := none }) rfl (fun K hK => ?_) AllReadyH.nil)
            have h426r10 := h425r10.rowset (ds := #[.int .i64 u0, .int .i64 u1, .int .i64 u2, .int .i64 u3, .int .i64 u4, .int .i64 u5, .int .i64 u6, .int .i64 te]) hle9r10 hne9r10
            refine wp_store_of 44 _ _ rfl (store_row 44 (cs := #[.int .i64 0, .int .i64 0, .int .i64 0, .int .i64 0, .int .i64 0, .int .i64 0, .int .i64 0, .int .i64 0]) (ds := #[.int .i64 u0, .int .i64 u1, .int .i64 u2, .int .i64 u3, .int .i64 u4, .int .i64 u5, .int .i64 u6, .int .i64 te]) (by kernel_rfl) rfl (by simp [Value.oneCell']) h425r10.hd) ?_
            refine hK.out _ _ ?_ (fun hHeld => ?_)
            · exact HP2.out _ (h426r10.tl)
            clear hK K
            try simp only [Act.put]
            refine wpAnyH_done (by kernel_rfl) ?_ _
            have h9 := h426r10
            go_wp2_with fail
            go_meet
            case rel => exact ⟨_, rfl, h9⟩
        case rest =>
          obtain ⟨b8, rfl, HQ⟩ := hcut
          have h60 := HQ.out
          clear HQ HP2 h42
          obtain ⟨_, _, _, _, _, _, _, _, _, _, _, _, _, _⟩ := HC3.out _ (St.row h60 (b := c3) (o := O) (by simp))
          go_upto_region 12 with (first | (go_at_call 28; (with_reducible refine (St.call h60 (HRI.out _)).mono ?_); rintro en w61 ⟨rfl, h61⟩))
          have h62 := h61.alloc ((.cells #[.int .i64 i0, .int .i64 i1, .int .i64 i2, .int .i64 i3, .int .i64 i4, .int .i64 i5, .int .i64 i6, .int .i64 ie] 44 : Obj))
          generalize w61.heap.size = c61 at h62 ⊢
          generalize w61.alloc ((.cells #[.int .i64 i0, .int .i64 i1, .int .i64 i2, .int .i64 i3, .int .i64 i4, .int .i64 i5, .int .i64 i6, .int .i64 ie] 44 : Obj)) = w62 at h62 ⊢
          obtain ⟨_, _, _, _, _, _, _⟩ := St.aff h62 (b := b9) (a := u0) (b' := u1) (c := u2) (d := u3) (e := u4) (f := u5) (n := u6) (by simp)
          obtain ⟨_, _, _, _, _, _, _⟩ := St.aff h62 (b := c41) (a := i0) (b' := i1) (c := i2) (d := i3) (e := i4) (f := i5) (n := i6) (by simp)
          have zh620 := St.cell h62 (b := b8) (cs := #[.int .i64 u0, .int .i64 u1, .int .i64 u2, .int .i64 u3, .int .i64 u4, .int .i64 u5, .int .i64 u6, .int .i64 te]) (t := 44) (by simp) 0; have zh621 := St.cell h62 (b := b8) (cs := #[.int .i64 u0, .int .i64 u1, .int .i64 u2, .int .i64 u3, .int .i64 u4, .int .i64 u5, .int .i64 u6, .int .i64 te]) (t := 44) (by simp) 1; have zh622 := St.cell h62 (b := b8) (cs := #[.int .i64 u0, .int .i64 u1, .int .i64 u2, .int .i64 u3, .int .i64 u4, .int .i64 u5, .int .i64 u6, .int .i64 te]) (t := 44) (by simp) 2; have zh623 := St.cell h62 (b := b8) (cs := #[.int .i64 u0, .int .i64 u1, .int .i64 u2, .int .i64 u3, .int .i64 u4, .int .i64 u5, .int .i64 u6, .int .i64 te]) (t := 44) (by simp) 3; have zh624 := St.cell h62 (b := b8) (cs := #[.int .i64 u0, .int .i64 u1, .int .i64 u2, .int .i64 u3, .int .i64 u4, .int .i64 u5, .int .i64 u6, .int .i64 te]) (t := 44) (by simp) 4; have zh625 := St.cell h62 (b := b8) (cs := #[.int .i64 u0, .int .i64 u1, .int .i64 u2, .int .i64 u3, .int .i64 u4, .int .i64 u5, .int .i64 u6, .int .i64 te]) (t := 44) (by simp) 5; have zh626 := St.cell h62 (b := b8) (cs := #[.int .i64 u0, .int .i64 u1, .int .i64 u2, .int .i64 u3, .int .i64 u4, .int .i64 u5, .int .i64 u6, .int .i64 te]) (t := 44) (by simp) 6; have zh627 := St.cell h62 (b := b8) (cs := #[.int .i64 u0, .int .i64 u1, .int .i64 u2, .int .i64 u3, .int .i64 u4, .int .i64 u5, .int .i64 u6, .int .i64 te]) (t := 44) (by simp) 7; simp only [List.getElem?_toArray, List.getElem?_cons_zero, List.getElem?_cons_succ] at zh620 zh621 zh622 zh623 zh624 zh625 zh626 zh627
          have zh620 := St.cell h62 (b := c61) (cs := #[.int .i64 i0, .int .i64 i1, .int .i64 i2, .int .i64 i3, .int .i64 i4, .int .i64 i5, .int .i64 i6, .int .i64 ie]) (t := 44) (by simp) 0; have zh621 := St.cell h62 (b := c61) (cs := #[.int .i64 i0, .int .i64 i1, .int .i64 i2, .int .i64 i3, .int .i64 i4, .int .i64 i5, .int .i64 i6, .int .i64 ie]) (t := 44) (by simp) 1; have zh622 := St.cell h62 (b := c61) (cs := #[.int .i64 i0, .int .i64 i1, .int .i64 i2, .int .i64 i3, .int .i64 i4, .int .i64 i5, .int .i64 i6, .int .i64 ie]) (t := 44) (by simp) 2; have zh623 := St.cell h62 (b := c61) (cs := #[.int .i64 i0, .int .i64 i1, .int .i64 i2, .int .i64 i3, .int .i64 i4, .int .i64 i5, .int .i64 i6, .int .i64 ie]) (t := 44) (by simp) 3; have zh624 := St.cell h62 (b := c61) (cs := #[.int .i64 i0, .int .i64 i1, .int .i64 i2, .int .i64 i3, .int .i64 i4, .int .i64 i5, .int .i64 i6, .int .i64 ie]) (t := 44) (by simp) 4; have zh625 := St.cell h62 (b := c61) (cs := #[.int .i64 i0, .int .i64 i1, .int .i64 i2, .int .i64 i3, .int .i64 i4, .int .i64 i5, .int .i64 i6, .int .i64 ie]) (t := 44) (by simp) 5; have zh626 := St.cell h62 (b := c61) (cs := #[.int .i64 i0, .int .i64 i1, .int .i64 i2, .int .i64 i3, .int .i64 i4, .int .i64 i5, .int .i64 i6, .int .i64 ie]) (t := 44) (by simp) 6; have zh627 := St.cell h62 (b := c61) (cs := #[.int .i64 i0, .int .i64 i1, .int .i64 i2, .int .i64 i3, .int .i64 i4, .int .i64 i5, .int .i64 i6, .int .i64 ie]) (t := 44) (by simp) 7; simp only [List.getElem?_toArray, List.getElem?_cons_zero, List.getElem?_cons_succ] at zh620 zh621 zh622 zh623 zh624 zh625 zh626 zh627
          go_wp2_with fail
          exact ⟨⟨.inr (.inr (.inr (.inr rfl))), h62.sub (by intro x hx; simp at hx ⊢; subst hx; simp)⟩, by decide⟩
    · go_wp2
      go_ret
      subst hb0
      exact ⟨rfl, hS.below⟩

set_option maxRecDepth 100000 in
theorem lifted (os : Os) (started : os.Started) (H : Type) (enc : TypeId × Value → H) :
    ReturnsInHanded {} Try.checked os 4 .any (Rows.affineComposesSpec.pre6 enc Try.prog Try.f4 Rows.affineComposesRow.domain false) (Rows.affineComposesSpec.post enc Try.prog Try.f4 false true false false) := by
  refine returnsInHanded_of_change_sized (C := Try.checked) own started (by kernel_rfl) Try.func4
    (ChangeSpec.witness6 (enc := enc) (C := Try.checked) false ⟨#[], #[.agg #[.int .i64 0, .int .i64 0, .int .i64 0, .int .i64 0, .int .i64 0, .int .i64 0, .int .i64 0], .agg #[.int .i64 0, .int .i64 0, .int .i64 0, .int .i64 0, .int .i64 0, .int .i64 0, .int .i64 0], .agg #[.int .i64 0, .int .i64 0, .int .i64 0, .int .i64 0, .int .i64 0, .int .i64 0, .int .i64 0, .int .i64 0, .int .i64 0, .int .i64 0, .int .i64 0, .int .i64 0, .int .i64 0, .int .i64 0]], []⟩ 8 (by kernel_rfl) (by kernel_rfl) (by kernel_rfl) (by kernel_rfl)) ?_
  intro W base args ds gs before hval0 hW _ _ _
  have hval : ∀ (j : Nat) t v, Try.f4.params[j]? = some t → args[j]? = some v → Value.okWide Try.prog W .any base t v := hval0
  have hW' := hW
  obtain ⟨p, q, hA0, hV, rfl, hfz, hnd⟩ := hW
  have hA : DataW.TrodAll enc Try.prog W 0 (fun _ => true) true Try.f4.params.toList args.toList ds p := hA0
  rw [Try.params4] at hA hval
  obtain ⟨v0, v1, v2, d0, d1, d2, p0, p1, p2, rfl, rfl, rfl, h0, h1, h2⟩ := trodAll_three hA
  obtain ⟨rfl, rfl⟩ := trodVars_none hV
  obtain ⟨p0, p1, p2, p3, p4, p5, p6, rfl⟩ := op_api_Affine (hval 0 23 v0 rfl rfl)
  obtain ⟨r0, r1, r2, r3, r4, r5, r6, rfl⟩ := op_api_Affine (hval 1 23 v1 rfl rfl)
  obtain ⟨q0, q1, q2, q3, q4, q5, q6, q7, q8, q9, q10, q11, q12, q13, rfl⟩ := op__2__7_int (hval 2 27 v2 rfl rfl)
  refine (walk p0 p1 p2 p3 p4 p5 p6 r0 r1 r2 r3 r4 r5 r6 q0 q1 q2 q3 q4 q5 q6 q7 q8 q9 q10 q11 q12 q13 W).mono fun en W' ⟨he, hb⟩ => ?_
  subst he
  exact ⟨_, rfl, law_post hW' rfl (by kernel_rfl) rfl (by intro t ht; rw [Try.params4] at ht; simp at ht; rcases ht with rfl | rfl <;> exact ⟨by kernel_rfl, of_decide_eq_true (by kernel_rfl)⟩) hb⟩

theorem holds : Rows.AffineComposesSaid :=
  OpenClaim.holds_of_wide 4 Try.f4 rfl rfl rfl rfl rfl rfl rfl ⟨rfl, rfl, rfl, rfl, rfl⟩ rfl rfl rfl rfl rfl (by kernel_rfl) Try.func4 (by kernel_rfl)
    (of_decide_eq_true (by kernel_rfl)) (by unfold Func.isWrapper; first | (rw [if_pos (by decide +kernel)]; kernel_rfl) | (rw [if_neg (by decide +kernel)]; exact ⟨rfl, rfl⟩))
    (fun os started H enc _ => lifted os started H enc)
end Go.Proofs.Ytgipfcpkphmbpaa.F.ALComposes
