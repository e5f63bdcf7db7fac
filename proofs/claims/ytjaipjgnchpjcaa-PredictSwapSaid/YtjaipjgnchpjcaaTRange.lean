/-
  A range over a function whose assignment makes one variable in new memory; tile's places.
-/
import Derived.Test.YtjaipjgnchpjcaaRange
import Derived.Test.YtjaipjgnchpjcaaTEq
namespace Go.Proofs.Ytjaipjgnchpjcaa.T
open Go.RowKit Go.Shelf
attribute [local go_sem] Oper.semAt_some
variable {M : Nat → Prop} {A B C W W' w : World}

theorem range_box {α : Type} {P : Program} {n : Nat} {g : Operand} {ps : Array Tmp} {assign body : Code} {Q : Exit → Act → World → Prop} {a : Act} {w : World} {gf : Nat} {lb : Array Value}
    (hg : a.eval g = .func (.func gf) #[] lb) (eg : ∀ args w, (callFunc gf args).run P w = .ok (.enter gf args) w) {encs : α → Array Value} {M : Nat → Prop} {xs : List α} {w0 : World}
    (hseq : SeqAll P gf lb encs M xs w0) (hb0 : Below w0.heap.size w0 w) (hM : ∀ k, M k → k < w.heap.size) (hps : ∀ x, (encs x).size = ps.size)
    (I : List α → World → Prop) (hI : Abd w.heap.size I) (h0 : I [] w) (a₁ : α → Nat → Act) (o : α → Obj)
    (hassign : ∀ (l : Nat) (x : α) (W : World) (K : Act → World → Prop), K (a₁ x W.heap.size) (W.alloc (o x)) →
      assign.wpIn (Fence.wide.inRound l) n P (Exit.then K (fun _ _ _ => False)) { tmps := (ps.zip (encs x)).foldl (fun t (p, v) => t.setIfInBounds p v) a.tmps, defers := [] } W)
    (hbody : ∀ (l : Nat) (pre : List α) (x : α) (b : Nat) (W : World), I pre W → (pre ++ [x]) <+: xs → w.heap.size + 2 ≤ b → W.heap[b]? = some (o x) → body.wpIn (Fence.wide.inRound l) n P (roundEnd M I (pre ++ [x]) W) (a₁ x b) W)
    (hdone : ∀ (D : Nat) (W : World), w.heap.size ≤ D → I xs W → W.heap[D]? = some (.deferred (some [])) → Kept M w W → Q .normal { a with defers := { target := .collected D, args := #[] } :: a.defers } W) :
    (Code.rangeFunc g ps assign body).wpIn Fence.wide n P Q a w := by
  refine wpIn_rangeFunc (fun fn hfn => ?_)
  let rec₀ : LoopState → Loop := fun st => { state := st, pending := none, fn, tmps := a.tmps, params := ps, assign, body, defers := w.heap.size }
  obtain ⟨W1, hW1⟩ : ∃ W1, (w.alloc (.deferred (some []))).alloc (.loop (rec₀ .ready)) = W1 := ⟨_, rfl⟩
  have hz : W1.heap.size = w.heap.size + 1 + 1 := by rw [← hW1]; simp
  have hB1 : Below w.heap.size w W1 := by rw [← hW1]; exact below1.alloc (by simp) _
  have hL : W1.heap[w.heap.size + 1]? = some (.loop (rec₀ .ready)) := by
    rw [← hW1]; have := World.alloc_heap_new (w.alloc (.deferred (some []))) (.loop (rec₀ .ready)); rwa [World.size_alloc] at this
  have hD : W1.heap[w.heap.size]? = some (.deferred (some [])) := by
    rw [← hW1]; exact (Below.heap_alloc _ _ _ (by simp)).trans (World.alloc_heap_new w _)
  refine ⟨w.heap.size + 1, [{ target := .collected w.heap.size, args := #[] }], W1, { target := .fn (.func gf) lb, args := #[.func (.yield (w.heap.size + 1)) #[] #[]] }, W1, gf,
    #[.func (.yield (w.heap.size + 1)) #[] #[]] ++ lb, W1, by rw [← hW1]; exact run_enterLoop_outer _ _ _ _ _, by simp only [resolve, hg]; simp [go_sem], fun _ _ => trivial, (by simp [invoke, go_sem, eg]), (fun h => by cases h), ?_⟩
  -- what is carried through the rounds: the body's own word, the loop's record and its block for deferred calls
  have key := hseq (w.heap.size + 1) (fun pre W => I pre W ∧ (w.heap.size + 2 ≤ W.heap.size ∧ W.heap[w.heap.size + 1]? = some (.loop (rec₀ .ready))) ∧ W.heap[w.heap.size]? = some (.deferred (some []))) W1
    (hb0.trans (hB1.mono hb0.size)) (fun k hk => by have := hM k hk; omega)
    (fun s X Y ⟨h1, ⟨h4, h2⟩, h3⟩ hb => ⟨hI s X Y h1 (hb.mono (by omega)), ⟨Nat.le_trans h4 hb.size, (hb.block _ (by omega)).trans h2⟩, (hb.block _ (by omega)).trans h3⟩) ?_ ⟨hI _ _ _ h0 hB1, ⟨by omega, hL⟩, hD⟩
  · refine callsIn_wide.2 (key.mono ?_)
    rintro e W2 ⟨⟨v, rfl⟩, ⟨hi, ⟨_, hl⟩, hd⟩, hk⟩
    refine ⟨none, _, run_endLoop hl (by simp [rec₀]), ?_⟩
    refine hdone _ _ (Nat.le_refl _) (hI _ _ _ hi (below_putObj _ (by omega))) ((World.putObj_heap_other (by omega)).trans hd) ?_
    have hk2 : Kept M w W2 := (Kept.of_below hB1).trans hk
    exact ⟨hk2.os, hk2.tape, hk2.output, by simpa [World.putObj] using hk2.size, fun k hk3 hm => (World.putObj_heap_other (by omega)).trans (hk2.block k hk3 hm)⟩
  · rintro pre x W m ⟨hi, ⟨hle, hl⟩, hd⟩ hpre
    have hlt : w.heap.size + 1 < W.heap.size := (Array.getElem?_eq_some_iff.1 hl).1
    have hlo : (W.alloc (o x)).heap[w.heap.size + 1]? = some (.loop (rec₀ .ready)) := (Below.heap_alloc _ _ _ hlt).trans hl
    refine ⟨fn, _, assign, body, run_yield hl (by simpa [rec₀] using hps x), round_any (roundIn_of_wpIn (n := n) hfn (hassign _ x W _ ⟨_, run_beginRound hlo rfl, ?_⟩))⟩
    have hkA : Kept M W (W.alloc (o x)) := Kept.of_below (Below.refl _ _ |>.alloc (Nat.le_refl _) _)
    have hiA := hI _ _ _ hi ((Below.refl w.heap.size W).alloc (by omega) (o x))
    have hdA : (W.alloc (o x)).heap[w.heap.size]? = some (.deferred (some [])) := (Below.heap_alloc _ _ _ (by omega)).trans hd
    have hbA : (W.alloc (o x)).heap[W.heap.size]? = some (o x) := World.alloc_heap_new W _
    have hzA : (W.alloc (o x)).heap.size = W.heap.size + 1 := by simp
    generalize hVA : W.alloc (o x) = VA at hlo hkA hiA hdA hbA hzA ⊢
    have hl2 : (VA.putObj (w.heap.size + 1) (.loop (rec₀ .busy))).heap[w.heap.size + 1]? = some (.loop (rec₀ .busy)) := World.putObj_heap_same (by omega)
    have hz2 : (VA.putObj (w.heap.size + 1) (.loop (rec₀ .busy))).heap.size = VA.heap.size := by simp [World.putObj]
    refine wpIn_mono (hbody _ pre x W.heap.size (VA.putObj (w.heap.size + 1) (.loop (rec₀ .busy))) (hI _ _ _ hiA (below_putObj _ (by omega))) hpre (by omega) ((World.putObj_heap_other (by omega)).trans hbA)) ?_
    rintro e a3 W3 hp
    cases e with
    | normal =>
      obtain ⟨hk3, hi3⟩ := hp
      have hnm : ∀ k, w.heap.size ≤ k → ¬ M k := fun k hk hm => by have := hM k hm; omega
      have hl3 : W3.heap[w.heap.size + 1]? = some (.loop (rec₀ .busy)) := hk3.row hl2 (hnm _ (by omega))
      have hd3 : W3.heap[w.heap.size]? = some (.deferred (some [])) := hk3.row ((World.putObj_heap_other (by omega)).trans hdA) (hnm _ (by omega))
      have hz3 := hk3.size
      refine ⟨_, _, run_endRound none hl3, rfl, ⟨hI _ _ _ hi3 (below_putObj _ (by omega)), ⟨by simp [World.putObj]; omega, World.putObj_heap_same (Array.getElem?_eq_some_iff.1 hl3).1⟩, (World.putObj_heap_other (by omega)).trans hd3⟩, ?_⟩
      refine ⟨hk3.os.trans hkA.os, hk3.tape.trans hkA.tape, hk3.output.trans hkA.output, by simp [World.putObj]; omega, fun k hk hm => ?_⟩
      by_cases he : k = w.heap.size + 1
      · subst he
        rw [hl]
        exact World.putObj_heap_same (Array.getElem?_eq_some_iff.1 hl3).1
      · exact (World.putObj_heap_other he).trans ((hk3.block k (by omega) hm).trans ((World.putObj_heap_other he).trans (hkA.block k hk hm)))
    | ret => exact hp.elim
    | exit id => exact hp.elim
    | goto t => exact hp.elim
    | panic ch => exact hp.elim
    | outgrown => exact hp.elim

/-- loads and stores by their run equations, in a fenced walk and in a plain one -/
theorem wpListIn_load_of {F : Fence} {n : Nat} {P : Program} {ops : Array Oper} {rest : List Oper} {o : Oper} {a : Act} {Q : Exit → Act → World → Prop} {w : World} (hg : o.guard = none) (ty : TypeId) (x : Operand) (ho : o.op = .load ty x) (v : Value)
    (hl : (Instr.loadAt ty (a.eval x)).run P w = .ok v w) (h : wpListIn F n P ops Q rest (a.put o.dst v) w) : wpListIn F n P ops Q (o :: rest) a w := by
  refine wpListIn_plain hg fun K hK => ?_
  unfold Oper.wpIn
  refine ⟨by simp [Oper.about, ho], ?_⟩
  rw [Oper.semAt_plain F _ _ (by rw [ho]; intro c hc; cases hc)]
  simp only [execOp, ho, Sem.run_bind, hl, Result.andThen_ok, Sem.run_pure, Oper.uponIn_value]
  exact hK _ _ h
theorem wpListIn_store_of {F : Fence} {n : Nat} {P : Program} {ops : Array Oper} {rest : List Oper} {o : Oper} {a : Act} {Q : Exit → Act → World → Prop} {w w' : World} (hg : o.guard = none) (ty : TypeId) (x y : Operand) (ho : o.op = .store ty x y)
    (hl : (Instr.storeAt ty (a.eval x) (a.eval y)).run P w = .ok () w') (h : wpListIn F n P ops Q rest (a.put o.dst undef) w') : wpListIn F n P ops Q (o :: rest) a w := by
  refine wpListIn_plain hg fun K hK => ?_
  unfold Oper.wpIn
  refine ⟨by simp [Oper.about, ho], ?_⟩
  rw [Oper.semAt_plain F _ _ (by rw [ho]; intro c hc; cases hc)]
  simp only [execOp, ho, Sem.run_bind, hl, Result.andThen_ok, Sem.run_pure, Oper.uponIn_skip]
  exact hK _ _ h
theorem wpList_load_of {P : Program} {ops : Array Oper} {rest : List Oper} {o : Oper} {a : Act} {Q : Exit → Act → World → Prop} {w : World} (hg : o.guard = none) (ty : TypeId) (x : Operand) (ho : o.op = .load ty x) (v : Value)
    (hl : (Instr.loadAt ty (a.eval x)).run P w = .ok v w) (h : wpList P ops Q rest (a.put o.dst v) w) : wpList P ops Q (o :: rest) a w :=
  wpList_plain hg fun _ hK => by
    unfold Oper.wp execOp
    simp only [ho, Sem.run_bind, hl, Result.andThen_ok, Sem.run_pure]
    exact hK _ _ h
theorem wpList_store_of {P : Program} {ops : Array Oper} {rest : List Oper} {o : Oper} {a : Act} {Q : Exit → Act → World → Prop} {w w' : World} (hg : o.guard = none) (ty : TypeId) (x y : Operand) (ho : o.op = .store ty x y)
    (hl : (Instr.storeAt ty (a.eval x) (a.eval y)).run P w = .ok () w') (h : wpList P ops Q rest (a.put o.dst undef) w') : wpList P ops Q (o :: rest) a w :=
  wpList_plain hg fun _ hK => by
    unfold Oper.wp execOp
    simp only [ho, Sem.run_bind, hl, Result.andThen_ok, Sem.run_pure]
    exact hK _ _ h
theorem inWide {P : Program} {f : FuncId} {args : Array Value} {w : World} {R : Ending → World → Prop} {n : Nat} (h : Calls P f args w R) : CallsIn Fence.wide n P f args w R := callsIn_wide.2 h
theorem range_pre {k n : Nat} (h : k < n) : (List.range k ++ [k]) <+: List.range n := by
  rw [← List.range_succ]
  have e : n = (k + 1) + (n - (k + 1)) := by omega
  rw [e, List.range_add]
  exact ⟨_, rfl⟩
/-- a place -/
abbrev ptv (i : Nat) : Value := .agg #[.int .i64 ((i : Int) % 8), .int .i64 ((i : Int) / 8)]
end Go.Proofs.Ytjaipjgnchpjcaa.T
