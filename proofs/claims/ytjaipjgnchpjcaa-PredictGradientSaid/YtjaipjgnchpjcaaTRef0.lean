/-
  Laws over single operations; a tile of which the first pixels are replaced.
-/
import Derived.Test.YtjaipjgnchpjcaaTSq
namespace Go.Proofs.Ytjaipjgnchpjcaa.T
open Go.RowKit Go.Shelf

theorem wpList_build2 {P : Program} {ops : Array Oper} {rest : List Oper} {o : Oper} {a : Act} {Q : Exit → Act → World → Prop} {w : World} (hg : o.guard = none) (t : TypeId) (x y : Operand) (ho : o.op = .build t #[(0, x), (1, y)]) (v x' y' : Value) (hx : a.eval x = x') (hy : a.eval y = y')
    (hl : (Instr.build t #[(0, x'), (1, y')]).run P w = .ok v w) (h : wpList P ops Q rest (a.put o.dst v) w) : wpList P ops Q (o :: rest) a w :=
  wpList_build_of hg t _ ho v (by subst hx hy; simpa using hl) h
theorem wpList_alloc_of {P : Program} {ops : Array Oper} {rest : List Oper} {o : Oper} {a : Act} {Q : Exit → Act → World → Prop} {w : World} (hg : o.guard = none) (t : TypeId) (ho : o.op = .alloc t) (cs : Array Value) (hz : (zeroValue t).run P w = .ok (.agg cs) w)
    (h : wpList P ops Q rest (a.put o.dst (.pointer (some ⟨w.heap.size, 0, none⟩))) (w.alloc (.cells cs t))) : wpList P ops Q (o :: rest) a w :=
  wpList_plain hg fun _ hK => by
    have hn : (newVar t (.agg cs)).run P w = .ok ⟨w.heap.size, 0, none⟩ (w.alloc (.cells cs t)) := rfl
    unfold Oper.wp execOp
    simp only [ho, Instr.alloc, Sem.run_bind, hz, hn, Result.andThen_ok, Sem.run_pure]
    exact hK _ _ h
theorem wpList_build0 {P : Program} {ops : Array Oper} {rest : List Oper} {o : Oper} {a : Act} {Q : Exit → Act → World → Prop} {w : World} (hg : o.guard = none) (t : TypeId) (ho : o.op = .build t #[]) (v : Value)
    (hl : (Instr.build t #[]).run P w = .ok v w) (h : wpList P ops Q rest (a.put o.dst v) w) : wpList P ops Q (o :: rest) a w :=
  wpList_build_of hg t _ ho v (by simpa using hl) h
theorem wp_store_of {P : Program} {o : Oper} {a : Act} {w w' : World} {K : Act → World → Prop} {Q : Exit → Act → World → Prop} (ty : TypeId) (x y : Operand) (ho : o.op = .store ty x y)
    (hl : (Instr.storeAt ty (a.eval x) (a.eval y)).run P w = .ok () w') (h : K (a.put o.dst undef) w') : o.wp P a w K Q := by
  unfold Oper.wp execOp
  simp only [ho, Sem.run_bind, hl, Result.andThen_ok, Sem.run_pure]
  exact h
theorem wp_load_of {P : Program} {o : Oper} {a : Act} {w : World} {K : Act → World → Prop} {Q : Exit → Act → World → Prop} (ty : TypeId) (x : Operand) (ho : o.op = .load ty x) (v : Value)
    (hl : (Instr.loadAt ty (a.eval x)).run P w = .ok v w) (h : K (a.put o.dst v) w) : o.wp P a w K Q := by
  unfold Oper.wp execOp
  simp only [ho, Sem.run_bind, hl, Result.andThen_ok, Sem.run_pure]
  exact h
theorem wp_build0 {P : Program} {o : Oper} {a : Act} {w : World} {K : Act → World → Prop} {Q : Exit → Act → World → Prop} (t : TypeId) (ho : o.op = .build t #[]) (v : Value)
    (hl : (Instr.build t #[]).run P w = .ok v w) (h : K (a.put o.dst v) w) : o.wp P a w K Q := by
  unfold Oper.wp execOp
  have hl' : (Instr.build t ((#[] : Array (Nat × Operand)).map fun (i, x) => (i, a.eval x))).run P w = .ok v w := by simpa using hl
  simp only [ho, Sem.run_bind, hl', Result.andThen_ok, Sem.run_pure]
  exact h
theorem yields_load {P : Program} {ops : Array Oper} {S : World → Prop} {o : Oper} {a : Act} (hw : Region.wanted o (yielded ops a.tmps) = true) (ty : TypeId) (x : Operand) (ho : o.op = .load ty x) (v : Value)
    (hl : ∀ w, S w → (Instr.loadAt ty (a.eval x)).run P w = .ok v w) : YieldsIf P ops S o v a :=
  .inl ⟨hw, fun w hw' => by
    unfold execOp
    simp only [ho, Sem.run_bind, hl w hw', Result.andThen_ok, Sem.run_pure]⟩
theorem yields_bin {P : Program} {ops : Array Oper} {S : World → Prop} {o : Oper} {a : Act} (hw : Region.wanted o (yielded ops a.tmps) = true) (bop : BinOp) (t : TypeId) (x y : Operand) (t' : TypeId) (ho : o.op = .binOp bop t x y t') (xs ys : Array Value) (hx : a.eval x = .agg xs) (hy : a.eval y = .agg ys)
    (hm : P.eqGuardType P.depth t = false) (v : Value) (hl : ∀ w, (Go.binOp bop t (.agg xs) (.agg ys)).run P w = .ok v w) : YieldsIf P ops S o v a :=
  .inl ⟨hw, fun w _ => by
    unfold execOp
    simp only [ho, hx, hy, Sem.run_bind, run_eqGuard_agg _ bop t x y xs ys hm, hl w, Result.andThen_ok, Sem.run_pure]⟩
theorem yields_build0 {P : Program} {ops : Array Oper} {S : World → Prop} {o : Oper} {a : Act} (hw : Region.wanted o (yielded ops a.tmps) = true) (t : TypeId) (ho : o.op = .build t #[]) (v : Value)
    (hl : ∀ w, (Instr.build t #[]).run P w = .ok v w) : YieldsIf P ops S o v a :=
  .inl ⟨hw, fun w _ => by
    unfold execOp
    have hl' : (Instr.build t ((#[] : Array (Nat × Operand)).map fun (i, x) => (i, a.eval x))).run P w = .ok v w := by simpa using hl w
    simp only [ho, Sem.run_bind, hl', Result.andThen_ok, Sem.run_pure]⟩
theorem wpList_bin_of {P : Program} {ops : Array Oper} {rest : List Oper} {o : Oper} {a : Act} {Q : Exit → Act → World → Prop} {w : World} (hg : o.guard = none) (bop : BinOp) (t : TypeId) (x y : Operand) (t' : TypeId) (ho : o.op = .binOp bop t x y t') (xs ys : Array Value) (hx : a.eval x = .agg xs) (hy : a.eval y = .agg ys)
    (hm : P.eqGuardType P.depth t = false) (v : Value) (hl : (Go.binOp bop t (.agg xs) (.agg ys)).run P w = .ok v w) (h : wpList P ops Q rest (a.put o.dst v) w) : wpList P ops Q (o :: rest) a w :=
  wpList_plain hg fun _ hK => by
    unfold Oper.wp execOp
    simp only [ho, hx, hy, Sem.run_bind, run_eqGuard_agg _ bop t x y xs ys hm, hl, Result.andThen_ok, Sem.run_pure]
    exact hK _ _ h
theorem guard_tile : Try.prog.eqGuardType Try.prog.depth 25 = false := by kernel_rfl
theorem guard_px : Try.prog.eqGuardType Try.prog.depth 23 = false := by kernel_rfl
set_option maxRecDepth 100000 in
theorem built0 (w : World) : (Instr.build 25 #[]).run Try.prog w = .ok (tv z0) w := run_build w 25 _ _ (by kernel_rfl)
theorem built0p (w : World) : (Instr.build 23 #[]).run Try.prog w = .ok zp.v w := run_build w 23 _ _ (by kernel_rfl)
/-- the tile f with the first n pixels of g -/
def pt (f g : Nat → Px) (n : Nat) : Nat → Px := fun k => if k < n then g k else f k
theorem pt_zero (f g : Nat → Px) : pt f g 0 = f := by funext k; simp [pt]
theorem pt_succ (f g : Nat → Px) (n : Nat) : upd (pt f g n) n (g n) = pt f g (n + 1) := by
  funext k
  unfold upd pt
  by_cases h : k = n
  · subst h; rw [if_pos rfl, if_pos (by omega)]
  · rw [if_neg h]; by_cases h2 : k < n
    · rw [if_pos h2, if_pos (by omega)]
    · rw [if_neg h2, if_neg (by omega)]
theorem pt_all (f g : Nat → Px) : tc (pt f g 64) = tc g := tc_ext fun _ hi => if_pos hi
theorem pt_at (f g : Nat → Px) (k : Nat) : pt f g k k = f k := if_neg (by omega)
end Go.Proofs.Ytjaipjgnchpjcaa.T
