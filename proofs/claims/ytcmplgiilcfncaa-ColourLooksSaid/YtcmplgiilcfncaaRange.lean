/-
  A range over a function whose body never leaves: the iterator may itself range over a function, and the body writes blocks that are named ahead.
-/
import Derived.Test.YtcmplgiilcfncaaSt
import Derived.RangeFuncNested
import Derived.RangeFuncBound
import Derived.RangeFuncCalls
import Derived.RangeFuncLeaves
import Derived.RangeFuncBox
import Derived.Shelf.Abstract
import Derived.Shelf.RegionOpen
import Derived.OwnWalkIn
import Derived.TacticsInMore
import Derived.LoopNIn
import Derived.LoopIn
import Derived.Maps.AppendAt
import Derived.Sort.CutIn
namespace Go.Proofs.Ytcmplgiilcfncaa
open Go.RowKit

/-- whatever lay is as it was, but the blocks of M -/
structure Kept (M : Nat → Prop) (W W' : World) : Prop where
  os : W'.os = W.os
  tape : W'.tape = W.tape
  output : W'.output = W.output
  size : W.heap.size ≤ W'.heap.size
  block : ∀ k, k < W.heap.size → ¬ M k → W'.heap[k]? = W.heap[k]?
variable {M : Nat → Prop} {A B C W W' w : World}
theorem Kept.refl (M : Nat → Prop) (W : World) : Kept M W W := ⟨rfl, rfl, rfl, Nat.le_refl _, fun _ _ _ => rfl⟩
theorem Kept.trans (h : Kept M A B) (k : Kept M B C) : Kept M A C :=
  ⟨k.os.trans h.os, k.tape.trans h.tape, k.output.trans h.output, Nat.le_trans h.size k.size, fun i hi hm => (k.block i (Nat.lt_of_lt_of_le hi h.size) hm).trans (h.block i hi hm)⟩
theorem Kept.of_below (h : Below W.heap.size W W') : Kept M W W' := ⟨h.os, h.tape, h.output, h.size, fun k hk _ => h.block k hk⟩
theorem Kept.setCell (h : Kept M W W') {p : Addr} (hp : M p.block) (u : Value) : Kept M W (W'.setCell p u) :=
  h.trans ⟨rfl, rfl, rfl, by simp [World.setCell], fun k _ hm => Below.heap_setCell _ _ _ _ (fun e => hm (by rw [e]; exact hp))⟩
theorem Kept.of_grown {row : Option Nat} (hg : W.grownBy W' row) (hr : ∀ k, row = some k → M k) : Kept M W W' :=
  ⟨hg.os, hg.tape, hg.output, hg.size, fun k hk hm => hg.block k hk (fun e => hm (hr k e.symm))⟩
theorem Kept.below (h : Kept M W W') {n : Nat} (hn : n ≤ W.heap.size) (hm : ∀ k, k < n → ¬ M k) : Below n W W' := ⟨h.os, h.tape, h.output, h.size, fun k hk => h.block k (by omega) (hm k hk)⟩
theorem Kept.row (h : Kept M W W') {k : Nat} {o : Obj} (hk : W.heap[k]? = some o) (hm : ¬ M k) : W'.heap[k]? = some o := (h.block k (Array.getElem?_eq_some_iff.1 hk).1 hm).trans hk
/-- what J says hangs on the blocks below n alone -/
def Abd {β : Type} (n : Nat) (J : β → World → Prop) : Prop := ∀ s A B, J s A → Below n A B → J s B
theorem below_putObj {n l : Nat} (o : Obj) (hl : n ≤ l) : Below n W (W.putObj l o) := ⟨rfl, rfl, rfl, by simp [World.putObj], fun k hk => World.putObj_heap_other (by omega)⟩

/-- every x of xs comes, in order, whatever the body does to the blocks of M -/
def SeqAll {α : Type} (P : Program) (g : Nat) (lb : Array Value) (encs : α → Array Value) (M : Nat → Prop) (xs : List α) (w : World) : Prop :=
  ∀ (l : Nat) (J : List α → World → Prop) (W : World), Below w.heap.size w W → (∀ k, M k → k < W.heap.size) → Abd W.heap.size J →
    (∀ pre x W1 m, J pre W1 → (pre ++ [x]) <+: xs → YieldAt Fence.wide m P l (encs x) W1 fun e W' => e = .returned (.bool true) ∧ J (pre ++ [x]) W' ∧ Kept M W1 W') →
    J [] W → Calls P g (#[.func (.yield l) #[] #[]] ++ lb) W fun e W' => (∃ v, e = .returned v) ∧ J xs W' ∧ Kept M W W'

theorem round_any {m m' : Nat} {P : Program} {l : Nat} {f : FuncId} {tmps : Array Value} {assign body : Code} {w : World} {R : Ending → World → Prop}
    (h : RoundIn Fence.wide m P l f tmps assign body w R) : RoundIn Fence.wide m' P l f tmps assign body w R := ⟨h.1, fun c cs _ => h.2 c cs (fun d hd => by cases hd)⟩

/-- where the body's walk ends -/
def roundEnd {α : Type} (M : Nat → Prop) (I : List α → World → Prop) (xs : List α) (W : World) : Exit → Act → World → Prop
  | .normal, _, W' => Kept M W W' ∧ I xs W'
  | _, _, _ => False

theorem range_all {α : Type} {P : Program} {n : Nat} {g : Operand} {ps : Array Tmp} {assign body : Code} {Q : Exit → Act → World → Prop} {a : Act} {w : World} {gf : Nat} {lb : Array Value}
    (hg : a.eval g = .func (.func gf) #[] lb) (eg : ∀ args w, (callFunc gf args).run P w = .ok (.enter gf args) w) {encs : α → Array Value} {M : Nat → Prop} {xs : List α} {w0 : World}
    (hseq : SeqAll P gf lb encs M xs w0) (hb0 : Below w0.heap.size w0 w) (hM : ∀ k, M k → k < w.heap.size) (hps : ∀ x, (encs x).size = ps.size)
    (I : List α → World → Prop) (hI : Abd w.heap.size I) (h0 : I [] w) (a₁ : α → Act)
    (hassign : ∀ (l : Nat) (x : α) (W : World) (K : Act → World → Prop), K (a₁ x) W →
      assign.wpIn (Fence.wide.inRound l) n P (Exit.then K (fun _ _ _ => False)) { tmps := (ps.zip (encs x)).foldl (fun t (p, v) => t.setIfInBounds p v) a.tmps, defers := [] } W)
    (hbody : ∀ (l : Nat) (pre : List α) (x : α) (W : World), I pre W → (pre ++ [x]) <+: xs → w.heap.size ≤ W.heap.size → body.wpIn (Fence.wide.inRound l) n P (roundEnd M I (pre ++ [x]) W) (a₁ x) W)
    (hdone : ∀ (D : Nat) (W : World), w.heap.size ≤ D → I xs W → W.heap[D]? = some (.deferred (some [])) → Kept M w W → Q .normal { a with defers := { target := .collected D, args := #[] } :: a.defers } W) :
    (Code.rangeFunc g ps assign body).wpIn Fence.wide n P Q a w := by
  refine wpIn_rangeFunc (fun fn hfn => ?_)
  let rec₀ : LoopState → Loop := fun st => { state := st, pending := none, fn, tmps := a.tmps, params := ps, assign, body, defers := w.heap.size }
  obtain ⟨W1, hW1⟩ : ∃ W1, (w.alloc (.deferred (some []))).alloc (.loop (rec₀ .ready)) = W1 := ⟨_, rfl⟩
  have hz : W1.heap.size = w.heap.size + 1 + 1 := by rw [← hW1]; simp
  have hB1 : Below w.heap.size w W1 := by rw [← hW1]; exact below1.alloc (by simp) _
  have hL : W1.heap[w.heap.size + 1]? = some (.loop (rec₀ .ready)) := by
    rw [← hW1]; have := World.alloc_heap_new (w.alloc (.deferred (some []))) (.loop (rec₀ .ready)); rwa [World.size_alloc] at this
  have hD : W1.heap[w.heap.size]? = some (.deferred (some [])) := by
    rw [← hW1]; exact (Below.heap_alloc _ _ _ (by simp)).trans (World.alloc_heap_new w _)
  refine ⟨w.heap.size + 1, [{ target := .collected w.heap.size, args := #[] }], W1, { target := .fn (.func gf) lb, args := #[.func (.yield (w.heap.size + 1)) #[] #[]] }, W1, gf,
    #[.func (.yield (w.heap.size + 1)) #[] #[]] ++ lb, W1, by rw [← hW1]; exact run_enterLoop_outer _ _ _ _ _, by simp only [resolve, hg]; simp [go_sem], fun _ _ => trivial, (by simp [invoke, go_sem, eg]), (fun h => by cases h), ?_⟩
  -- what is carried through the rounds: the body's own word, the loop's record and its block for deferred calls
  have key := hseq (w.heap.size + 1) (fun pre W => I pre W ∧ (w.heap.size ≤ W.heap.size ∧ W.heap[w.heap.size + 1]? = some (.loop (rec₀ .ready))) ∧ W.heap[w.heap.size]? = some (.deferred (some []))) W1
    (hb0.trans (hB1.mono hb0.size)) (fun k hk => by have := hM k hk; omega)
    (fun s X Y ⟨h1, ⟨h4, h2⟩, h3⟩ hb => ⟨hI s X Y h1 (hb.mono (by omega)), ⟨Nat.le_trans h4 hb.size, (hb.block _ (by omega)).trans h2⟩, (hb.block _ (by omega)).trans h3⟩) ?_ ⟨hI _ _ _ h0 hB1, ⟨by omega, hL⟩, hD⟩
  · refine callsIn_wide.2 (key.mono ?_)
    rintro e W2 ⟨⟨v, rfl⟩, ⟨hi, ⟨_, hl⟩, hd⟩, hk⟩
    refine ⟨none, _, run_endLoop hl (by simp [rec₀]), ?_⟩
    refine hdone _ _ (Nat.le_refl _) (hI _ _ _ hi (below_putObj _ (by omega))) ((World.putObj_heap_other (by omega)).trans hd) ?_
    have hk2 : Kept M w W2 := (Kept.of_below hB1).trans hk
    exact ⟨hk2.os, hk2.tape, hk2.output, by simpa [World.putObj] using hk2.size, fun k hk3 hm => (World.putObj_heap_other (by omega)).trans (hk2.block k hk3 hm)⟩
  · rintro pre x W m ⟨hi, ⟨hle, hl⟩, hd⟩ hpre
    have hlt : w.heap.size + 1 < W.heap.size := (Array.getElem?_eq_some_iff.1 hl).1
    refine ⟨fn, _, assign, body, run_yield hl (by simpa [rec₀] using hps x), round_any (roundIn_of_wpIn (n := n) hfn (hassign _ x W _ ⟨_, run_beginRound hl rfl, ?_⟩))⟩
    have hl2 : (W.putObj (w.heap.size + 1) (.loop (rec₀ .busy))).heap[w.heap.size + 1]? = some (.loop (rec₀ .busy)) := World.putObj_heap_same hlt
    have hz2 : (W.putObj (w.heap.size + 1) (.loop (rec₀ .busy))).heap.size = W.heap.size := by simp [World.putObj]
    refine wpIn_mono (hbody _ pre x (W.putObj (w.heap.size + 1) (.loop (rec₀ .busy))) (hI _ _ _ hi (below_putObj _ (by omega))) hpre (by omega)) ?_
    rintro e a3 W3 hp
    cases e with
    | normal =>
      obtain ⟨hk3, hi3⟩ := hp
      have hnm : ∀ k, w.heap.size ≤ k → ¬ M k := fun k hk hm => by have := hM k hm; omega
      have hl3 : W3.heap[w.heap.size + 1]? = some (.loop (rec₀ .busy)) := hk3.row hl2 (hnm _ (by omega))
      have hd3 : W3.heap[w.heap.size]? = some (.deferred (some [])) := hk3.row ((World.putObj_heap_other (by omega)).trans hd) (hnm _ (by omega))
      have hz3 := hk3.size
      refine ⟨_, _, run_endRound none hl3, rfl, ⟨hI _ _ _ hi3 (below_putObj _ (by omega)), ⟨by simp [World.putObj]; omega, World.putObj_heap_same (Array.getElem?_eq_some_iff.1 hl3).1⟩, (World.putObj_heap_other (by omega)).trans hd3⟩, ?_⟩
      refine ⟨hk3.os, hk3.tape, hk3.output, by simp [World.putObj]; omega, fun k hk hm => ?_⟩
      by_cases he : k = w.heap.size + 1
      · subst he
        rw [hl]
        exact World.putObj_heap_same (Array.getElem?_eq_some_iff.1 hl3).1
      · exact (World.putObj_heap_other he).trans ((hk3.block k (by omega) hm).trans (World.putObj_heap_other he))
    | ret => exact hp.elim
    | exit id => exact hp.elim
    | goto t => exact hp.elim
    | panic ch => exact hp.elim
    | outgrown => exact hp.elim
end Go.Proofs.Ytcmplgiilcfncaa
