/-
  Iterators that may run loops over iterators themselves: what they promise, and a loop over one.
-/
import Derived.Test.YtbodmeiecdomfaaGreatWPix
import Derived.Test.YtbodmeiecdomfaaGreatWFen
import Derived.RangeFuncNested
import Derived.RangeFuncCalls
import Derived.RangeFuncLeaves
import Derived.RangeFuncBox
import Derived.Shelf.Abstract
import Derived.Shelf.RegionOpen
import Derived.OwnWalkIn
import Derived.TacticsInMore
import Derived.LoopNIn
import Derived.LoopIn
namespace Go.Proofs.YtbodmeiecdomfaaGreat.W
open Go.RowKit
variable {P : Program} {W W' w w' : World} {X Y : List Nat}

/-- every block but those of X is as it was -/
structure Mv (X : List Nat) (W W' : World) : Prop where
  os : W'.os = W.os
  tape : W'.tape = W.tape
  output : W'.output = W.output
  size : W.heap.size ≤ W'.heap.size
  block : ∀ b, b < W.heap.size → b ∉ X → W'.heap[b]? = W.heap[b]?
theorem Mv.refl (X : List Nat) (W : World) : Mv X W W := ⟨rfl, rfl, rfl, Nat.le_refl _, fun _ _ _ => rfl⟩
theorem Mv.trans {Z : World} (h : Mv X W W') (k : Mv X W' Z) : Mv X W Z := ⟨k.os.trans h.os, k.tape.trans h.tape, k.output.trans h.output, Nat.le_trans h.size k.size, fun b hb hx => (k.block b (Nat.lt_of_lt_of_le hb h.size) hx).trans (h.block b hb hx)⟩
theorem Mv.of_below (h : Below W.heap.size W W') : Mv X W W' := ⟨h.os, h.tape, h.output, h.size, fun b hb _ => h.block b hb⟩
theorem Mv.below {B : Nat} (h : Mv X W W') (hX : ∀ b ∈ X, B ≤ b) (hB : B ≤ W.heap.size) : Below B W W' := ⟨h.os, h.tape, h.output, h.size, fun b hb => h.block b (by omega) (fun hx => by have := hX b hx; omega)⟩
theorem Mv.row {b : Nat} {o : Obj} (h : Mv X W W') (hb : b ∉ X) (ho : W.heap[b]? = some o) : W'.heap[b]? = some o := (h.block b (Array.getElem?_eq_some_iff.1 ho).1 hb).trans ho
theorem Mv.put {l : Nat} (W : World) (o : Obj) : Mv [l] W (W.putObj l o) := ⟨rfl, rfl, rfl, by simp, fun _ _ hb => World.putObj_heap_other (by simpa using hb)⟩
theorem Mv.alloc (W : World) (o : Obj) : Mv X W (W.alloc o) := .of_below below1
theorem Mv.drew (W : World) : Mv X W W.drew := .of_below (Below.refl _ W).drew
theorem Mv.set {b j : Nat} {v : Value} (hb : b ∈ X) : Mv X W (W.setCell ⟨b, j, none⟩ v) :=
  ⟨rfl, rfl, rfl, by simp [World.setCell], fun c _ hc => Below.heap_setCell _ _ _ _ (fun e => hc (by have e' : c = b := e; rw [e']; exact hb))⟩
/-- what speaks of blocks below B alone -/
def Loc {β : Type} (B : Nat) (J : β → World → Prop) : Prop := ∀ s W W', J s W → Below B W W' → J s W'
theorem Loc.mono {β : Type} {B C : Nat} {J : β → World → Prop} (h : Loc B J) (hB : B ≤ C) : Loc C J := fun s W W' hs hb => h s W W' hs (hb.mono hB)
theorem Loc.and {β : Type} {B : Nat} {J K : β → World → Prop} (h : Loc B J) (k : Loc B K) : Loc B (fun s W => J s W ∧ K s W) := fun s W W' hs hb => ⟨h s W W' hs.1 hb, k s W W' hs.2 hb⟩
theorem Loc.row {β : Type} {B b : Nat} {o : Obj} (hb : b < B) : Loc B (fun (_ : β) W => W.heap[b]? = some o) := fun _ _ _ hs h => (h.block b hb).trans hs

theorem Loc.mv {β : Type} {B : Nat} {W0 : World} (hB : W0.heap.size ≤ B) : Loc B (fun (_ : β) W => Mv X W0 W) := fun _ _ _ hs h => ⟨h.os.trans hs.os, h.tape.trans hs.tape, h.output.trans hs.output, Nat.le_trans hs.size h.size, fun b hb hx => (h.block b (by omega)).trans (hs.block b hb hx)⟩
/-- the function g of lb, called with a yield, yields xs one by one, as long as it is told to go on -/
def Iter {α : Type} (P : Program) (g : Nat) (lb : Array Value) (encs : α → Array Value) (X : List Nat) (xs : List α) (w : World) : Prop :=
  ∀ (m l : Nat) (J Jx : List α → World → Prop) (W : World), Mv X w W → Loc W.heap.size J → Loc W.heap.size Jx →
    (∀ pre x post W1, xs = pre ++ x :: post → J pre W1 → W.heap.size ≤ W1.heap.size → YieldAt Fence.wide m P l (encs x) W1 fun e W' =>
      (e = .returned (.bool true) ∧ J (pre ++ [x]) W' ∧ Mv X W1 W') ∨ (e = .returned (.bool false) ∧ Jx (pre ++ [x]) W' ∧ ∃ Y, (∀ b ∈ Y, b < W.heap.size) ∧ Mv Y W1 W')) →
    J [] W →
    CallsIn Fence.wide m P g (#[.func (.yield l) #[] #[]] ++ lb) W fun e W' => (∃ v, e = .returned v) ∧ (J xs W' ∨ ∃ pre, Jx pre W')

theorem yield_any {l m m' : Nat} {args : Array Value} {R : Ending → World → Prop} (h : YieldAt Fence.wide m P l args W R) : YieldAt Fence.wide m' P l args W R := by
  obtain ⟨fn, tmps, assign, body, hy, hR⟩ := h
  exact ⟨fn, tmps, assign, body, hy, hR.1, fun c cs _ => hR.2 c cs (room_wide _)⟩
theorem calls_any {g m m' : Nat} {args : Array Value} {R : Ending → World → Prop} (h : CallsIn Fence.wide m P g args W R) : CallsIn Fence.wide m' P g args W R := ⟨h.1, fun cs _ => h.2 cs (room_wide _)⟩

/-- how a round may be left -/
def rnd (B : Nat) (X : List Nat) (W : World) (N R : World → Prop) : Exit → Act → World → Prop
  | .normal, _, V => Mv X W V ∧ N V
  | .ret, _, V => (∃ Y, (∀ b ∈ Y, b < B) ∧ Mv Y W V) ∧ R V
  | _, _, _ => False

/-- the loop's record -/
def rec (fn : FuncId) (tmps : Array Value) (ps : Array Tmp) (assign body : Code) (D : Nat) (st : LoopState) (pe : Option Code) : Loop := { state := st, pending := pe, fn, tmps, params := ps, assign, body, defers := D }

theorem range_iter {α : Type} {g : Operand} {ps : Array Tmp} {assign body : Code} {Q : Exit → Act → World → Prop} {a : Act} {w w0 : World} {n gf : Nat} {lb : Array Value} {encs : α → Array Value} {xs : List α}
    (hg : a.eval g = .func (.func gf) #[] lb) (eg : ∀ args w, (callFunc gf args).run P w = .ok (.enter gf args) w) (hit : Iter P gf lb encs X xs w0) (hw : Mv X w0 w) (hX : ∀ b ∈ X, b < w.heap.size) (hps : ∀ x, (encs x).size = ps.size)
    (I Ix : List α → World → Prop) (hI : Loc w.heap.size I) (hIx : Loc w.heap.size Ix) (h0 : I [] w)
    (hround : ∀ l pre x post V, xs = pre ++ x :: post → w.heap.size ≤ l → l < V.heap.size → I pre V → assign.wpIn (FW (some l)) 6 P
      (Exit.then (fun a' V' => Mv X V V' ∧ ∀ V2, Mv [l] V' V2 → body.wpIn (FW (some l)) 6 P (rnd w.heap.size X V2 (I (pre ++ [x])) (Ix (pre ++ [x]))) a' V2) (fun _ _ _ => False)) { tmps := (ps.zip (encs x)).foldl (fun t (p, v) => t.setIfInBounds p v) a.tmps, defers := [] } V)
    (hdone : ∀ D V, w.heap.size ≤ D → I xs V → V.heap[D]? = some (.deferred (some [])) → Q .normal { a with defers := { target := .collected D, args := #[] } :: a.defers } V)
    (hret : ∀ D pre V, w.heap.size ≤ D → Ix pre V → V.heap[D]? = some (.deferred (some [])) → Code.ret.wpIn Fence.wide n P Q { a with defers := { target := .collected D, args := #[] } :: a.defers } V) :
    (Code.rangeFunc g ps assign body).wpIn Fence.wide n P Q a w := by
  refine wpIn_rangeFunc (fun fn _ => ?_)
  let r : LoopState → Option Code → Obj := fun st pe => .loop (rec fn a.tmps ps assign body w.heap.size st pe)
  have hr : ∀ st pe, r st pe = .loop (rec fn a.tmps ps assign body w.heap.size st pe) := fun _ _ => rfl
  obtain ⟨W1, hW1⟩ : ∃ W1, W1 = (w.alloc (.deferred (some []))).alloc (r .ready none) := ⟨_, rfl⟩
  have hz1 : W1.heap.size = w.heap.size + 2 := by rw [hW1]; simp
  have hD1 : W1.heap[w.heap.size]? = some (.deferred (some [])) := by rw [hW1]; exact (Below.heap_alloc _ _ _ (by simp)).trans (World.alloc_heap_new w _)
  have hl1 : W1.heap[w.heap.size + 1]? = some (r .ready none) := by rw [hW1]; have := World.alloc_heap_new (w.alloc (.deferred (some []))) (r .ready none); rwa [World.size_alloc] at this
  have hb1 : Below w.heap.size w W1 := by rw [hW1]; exact below2
  have hDX : w.heap.size ∉ X := fun h => by have := hX _ h; omega
  have hlX : w.heap.size + 1 ∉ X := fun h => by have := hX _ h; omega
  refine ⟨w.heap.size + 1, [{ target := .collected w.heap.size, args := #[] }], W1, { target := .fn (.func gf) lb, args := #[.func (.yield (w.heap.size + 1)) #[] #[]] }, W1, gf, #[.func (.yield (w.heap.size + 1)) #[] #[]] ++ lb, W1, ?_, ?_, fun _ _ => trivial, ?_, (fun h => by cases h), ?_⟩
  · rw [hW1]; exact run_enterLoop_outer _ _ _ _ _
  · simp only [resolve, hg]
    simp [go_sem]
  · simp [invoke, go_sem, eg]
  -- a turn of the record
  have turn : ∀ {V : World} {st pe}, V.heap[w.heap.size + 1]? = some (r st pe) → V.heap[w.heap.size]? = some (.deferred (some [])) → ∀ st' pe', (V.putObj (w.heap.size + 1) (r st' pe')).heap[w.heap.size + 1]? = some (r st' pe') ∧ (V.putObj (w.heap.size + 1) (r st' pe')).heap[w.heap.size]? = some (.deferred (some [])) ∧ Below w.heap.size V (V.putObj (w.heap.size + 1) (r st' pe')) := fun {V} _ _ h hD st' pe' => by
    have hlt := (Array.getElem?_eq_some_iff.1 h).1
    exact ⟨World.putObj_heap_same hlt, (World.putObj_heap_other (by omega)).trans hD, (Mv.put V _).below (by simp) (by omega)⟩
  have hJ : Loc W1.heap.size (fun pre V => I pre V ∧ V.heap[w.heap.size + 1]? = some (r .ready none) ∧ V.heap[w.heap.size]? = some (.deferred (some []))) :=
    (hI.mono (by omega)).and ((Loc.row (by omega)).and (Loc.row (by omega)))
  have hJx : Loc W1.heap.size (fun pre V => Ix pre V ∧ V.heap[w.heap.size + 1]? = some (r .done (some .ret)) ∧ V.heap[w.heap.size]? = some (.deferred (some []))) :=
    (hIx.mono (by omega)).and ((Loc.row (by omega)).and (Loc.row (by omega)))
  refine (hit (n - 1) (w.heap.size + 1) _ _ W1 (hw.trans (.of_below hb1)) hJ hJx ?_ ⟨hI _ _ _ h0 hb1, hl1, hD1⟩).mono ?_
  · rintro pre x post V hx ⟨hi, hl, hD⟩ hz
    refine yield_any (m := 6) ?_
    refine ⟨fn, _, assign, body, run_yield hl (hps x), roundIn_of_wpIn trivial (wpIn_mono (hround (w.heap.size + 1) pre x post V hx (by omega) (Array.getElem?_eq_some_iff.1 hl).1 hi) ?_)⟩
    intro e a' V' he
    cases e with
    | normal =>
      obtain ⟨hm, hbody⟩ := he
      have hl' := hm.row hlX hl
      have hD' := hm.row hDX hD
      refine ⟨_, run_beginRound hl' rfl, ?_⟩
      obtain ⟨t1, t2, t3⟩ := turn (st' := .busy) (pe' := none) hl' hD'
      refine wpIn_mono (hbody _ (Mv.put V' _)) ?_
      intro e a3 V3 hp
      have back : ∀ Y, Mv Y (V'.putObj (w.heap.size + 1) (r .busy none)) V3 → ∀ st pe, Mv ((w.heap.size + 1) :: (Y ++ X)) V (V3.putObj (w.heap.size + 1) (r st pe)) := fun Y h st pe =>
        ⟨h.os.trans hm.os, h.tape.trans hm.tape, h.output.trans hm.output, by have := hm.size; have := h.size; simp at this ⊢; omega, fun b hb hx => by
          have n1 : b ≠ w.heap.size + 1 := fun e => hx (by simp [e])
          have n2 : b ∉ X := fun e => hx (by simp [e])
          have n3 : b ∉ Y := fun e => hx (by simp [e])
          rw [World.putObj_heap_other n1, h.block b (by have := hm.size; simp; omega) n3, World.putObj_heap_other n1, hm.block b hb n2]⟩
      cases e with
      | normal =>
        obtain ⟨m3, i3⟩ := hp
        have l3 := m3.row hlX t1
        obtain ⟨s1, s2, s3⟩ := turn (st' := .ready) (pe' := none) l3 (m3.row hDX t2)
        refine ⟨_, _, run_endRound none l3, .inl ⟨rfl, ⟨hI _ _ _ i3 s3, s1, s2⟩, ?_⟩⟩
        have hb := back X m3 .ready none
        refine ⟨hb.os, hb.tape, hb.output, hb.size, fun b hlt hx => ?_⟩
        by_cases he : b = w.heap.size + 1
        · subst he; exact s1.trans hl.symm
        · exact hb.block b hlt (by simp [he, hx])
      | ret =>
        obtain ⟨⟨Y, hY, m3⟩, i3⟩ := hp
        have l3 := m3.row (fun h => by have := hY _ h; omega) t1
        obtain ⟨s1, s2, s3⟩ := turn (st' := .done) (pe' := some .ret) l3 (m3.row (fun h => by have := hY _ h; omega) t2)
        exact ⟨_, _, run_endRound (some .ret) l3, .inr ⟨rfl, ⟨hIx _ _ _ i3 s3, s1, s2⟩, _, (fun b hb => by
          simp only [List.mem_cons, List.mem_append] at hb
          rcases hb with rfl | hb | hb
          · omega
          · have := hY b hb; omega
          · have := hX b hb; omega), back Y m3 _ _⟩⟩
      | _ => exact hp.elim
    | _ => exact he.elim
  · rintro e V ⟨⟨v, rfl⟩, (⟨hi, hl, hD⟩ | ⟨pre, hi, hl, hD⟩)⟩
    · obtain ⟨s1, s2, s3⟩ := turn (st' := .exhausted) (pe' := none) hl hD
      exact ⟨none, _, run_endLoop hl (by simp [rec]), hdone _ _ (Nat.le_refl _) (hI _ _ _ hi s3) s2⟩
    · obtain ⟨s1, s2, s3⟩ := turn (st' := .exhausted) (pe' := some .ret) hl hD
      exact ⟨some .ret, _, run_endLoop hl (by simp [rec]), hret _ _ _ (Nat.le_refl _) (hIx _ _ _ hi s3) s2⟩
end Go.Proofs.YtbodmeiecdomfaaGreat.W
