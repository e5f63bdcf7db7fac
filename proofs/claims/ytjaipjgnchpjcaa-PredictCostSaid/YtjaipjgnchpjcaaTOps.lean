/-
  What the laws' walks share: comparisons that come out, new tiles.
-/
import Derived.Test.YtjaipjgnchpjcaaTRefAt
import Derived.Test.YtjaipjgnchpjcaaMeanPix
import Derived.Test.YtjaipjgnchpjcaaTSolid
namespace Go.Proofs.Ytjaipjgnchpjcaa
open Go.RowKit T
variable {W w w' : World} {L : List (Nat × Obj)}
theorem St.tl {x : Nat × Obj} (h : St W (x :: L) w) : St W L w := h.sub fun _ hx => List.mem_cons_of_mem _ hx
theorem St.hd {b : Nat} {o : Obj} (h : St W ((b, o) :: L) w) : w.heap[b]? = some o := h.row (List.mem_cons_self ..)
theorem St.newT {b : Nat} (T : Nat → Px) (h : St W ((b, tob z0) :: L) w) (hb : W.heap.size ≤ b) (hL : ∀ x ∈ L, x.1 ≠ b) : St W ((b, tob T) :: L) (w.setRow b (tc T)) := St.rowset h hb hL
theorem St.ne (h : St W L w) : ∀ x ∈ L, x.1 ≠ w.heap.size := fun x hx => Nat.ne_of_lt (Array.getElem?_eq_some_iff.1 (h.rows x hx)).1
end Go.Proofs.Ytjaipjgnchpjcaa
namespace Go.Proofs.Ytjaipjgnchpjcaa.T
open Go.RowKit Go.Shelf
theorem peq_self (p : Px) : peq p p = true := (peq_iff p p).2 rfl
theorem eqlT {p q : Px} (h : p = q) (V : World) : (Go.binOp .eql 23 p.v q.v).run Try.prog V = .ok (.bool true) V := by rw [eql_px, h, peq_self]
theorem neqT {p q : Px} (h : p = q) (V : World) : (Go.binOp .neq 23 p.v q.v).run Try.prog V = .ok (.bool false) V := by rw [neq_px, h, peq_self]; rfl
theorem eqlTT {f g : Nat → Px} (h : ∀ i, i < 64 → f i = g i) (V : World) : (Go.binOp .eql 25 (tv f) (tv g)).run Try.prog V = .ok (.bool true) V := by rw [eql_tile, teq_true h]
theorem neqTT {f g : Nat → Px} (h : ∀ i, i < 64 → f i = g i) (V : World) : (Go.binOp .neq 25 (tv f) (tv g)).run Try.prog V = .ok (.bool false) V := by rw [neq_tile, teq_true h]; rfl
theorem wp_alloc_of {P : Program} {o : Oper} {a : Act} {w : World} {K : Act → World → Prop} {Q : Exit → Act → World → Prop} (t : TypeId) (ho : o.op = .alloc t) (cs : Array Value) (hz : (zeroValue t).run P w = .ok (.agg cs) w)
    (h : K (a.put o.dst (.pointer (some ⟨w.heap.size, 0, none⟩))) (w.alloc (.cells cs t))) : o.wp P a w K Q := by
  have hn : (newVar t (.agg cs)).run P w = .ok ⟨w.heap.size, 0, none⟩ (w.alloc (.cells cs t)) := rfl
  unfold Oper.wp execOp
  simp only [ho, Instr.alloc, Sem.run_bind, hz, hn, Result.andThen_ok, Sem.run_pure]
  exact h
theorem wp_bin_of {P : Program} {o : Oper} {a : Act} {w : World} {K : Act → World → Prop} {Q : Exit → Act → World → Prop} (bop : BinOp) (t : TypeId) (x y : Operand) (t' : TypeId) (ho : o.op = .binOp bop t x y t') (xs ys : Array Value) (hx : a.eval x = .agg xs) (hy : a.eval y = .agg ys)
    (hm : P.eqGuardType P.depth t = false) (v : Value) (hl : (Go.binOp bop t (.agg xs) (.agg ys)).run P w = .ok v w) (h : K (a.put o.dst v) w) : o.wp P a w K Q := by
  unfold Oper.wp execOp
  simp only [ho, hx, hy, Sem.run_bind, run_eqGuard_agg _ bop t x y xs ys hm, hl, Result.andThen_ok, Sem.run_pure]
  exact h
/-- an operation under a guard that lets it by -/
theorem wpList_on {P : Program} {ops : Array Oper} {rest : List Oper} {o : Oper} {a : Act} {Q : Exit → Act → World → Prop} {w : World} (hw : Region.wanted o (yielded ops a.tmps) = true) (h : o.wp P a w (wpList P ops Q rest) Q) : wpList P ops Q (o :: rest) a w := by
  show if Region.wanted o (yielded ops a.tmps) = true then _ else _
  rw [if_pos hw]
  exact .inl h
/-- the tile in block b -/
theorem ld {L : List (Nat × Obj)} {W V : World} {b : Nat} {f : Nat → Px} (h : St W L V) (hm : (b, tob f) ∈ L) : (Instr.loadAt 25 (.pointer (some ⟨b, 0, none⟩))).run Try.prog V = .ok (tv f) V := load_tile b f V (h.row hm)
theorem ldp {L : List (Nat × Obj)} {W V : World} {b : Nat} {p : Px} (h : St W L V) (hm : (b, pxo p) ∈ L) : (Instr.loadAt 23 (.pointer (some ⟨b, 0, none⟩))).run Try.prog V = .ok p.v V := load_px0 b p V (h.row hm)
theorem ldi {L : List (Nat × Obj)} {W V : World} {b : Nat} {f : Nat → Px} (h : St W L V) (hm : (b, tob f) ∈ L) (i : Nat) (hi : i < 64) : (Instr.loadAt 23 (.pointer (some ⟨b, 4 * i, none⟩))).run Try.prog V = .ok (f i).v V := load_px b f i hi V (h.row hm)
end Go.Proofs.Ytjaipjgnchpjcaa.T
