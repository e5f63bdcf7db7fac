/-
  Laws over single operations of a drawn region; blocks of one's own that are stored to.
-/
import Derived.Test.YtgipfcpkphmbpaaAIf
import Derived.Deep.WholeRow
namespace Go.Proofs.Ytgipfcpkphmbpaa
open Go.RowKit
variable {W w : World} {L : List (Nat × Obj)}
theorem St.tl {x : Nat × Obj} (h : St W (x :: L) w) : St W L w := h.sub fun _ hx => List.mem_cons_of_mem _ hx
theorem St.hd {b : Nat} {o : Obj} (h : St W ((b, o) :: L) w) : w.heap[b]? = some o := h.row (List.mem_cons_self ..)
theorem St.ne (h : St W L w) : ∀ x ∈ L, x.1 ≠ w.heap.size := fun x hx => Nat.ne_of_lt (Array.getElem?_eq_some_iff.1 (h.rows x hx)).1
theorem St.rowset {b : Nat} {cs ds : Array Value} {t : TypeId} (h : St W ((b, .cells cs t) :: L) w) (hb : W.heap.size ≤ b) (hL : ∀ x ∈ L, x.1 ≠ b) : St W ((b, .cells ds t) :: L) (w.setRow b ds) := by
  refine ⟨h.below.trans ⟨rfl, rfl, rfl, by simp [World.setRow], fun k hk => setRow_other w b k ds (by omega)⟩, fun x hx => ?_⟩
  rcases List.mem_cons.1 hx with rfl | hx
  · exact setRow_heap w b cs ds t (0, 0) (h.row (b := b) (o := .cells cs t) (by simp))
  · rw [setRow_other w b x.1 ds (hL x hx)]
    exact h.rows x (List.mem_cons_of_mem _ hx)
/-- the head block goes behind the second one -/
theorem St.swp {x y : Nat × Obj} (h : St W (x :: y :: L) w) : St W (y :: x :: L) w := h.sub fun z hz => by
  simp only [List.mem_cons] at hz ⊢
  rcases hz with h1 | h1 | h1
  · exact .inr (.inl h1)
  · exact .inl h1
  · exact .inr (.inr h1)
theorem St.put {b : Nat} {cs : Array Value} {t : TypeId} (h : St W ((b, .cells cs t) :: L) w) {j : Nat} {v : Value} (hb : W.heap.size ≤ b) (hL : ∀ x ∈ L, x.1 ≠ b) : St W ((b, .cells (cs.setIfInBounds j v) t) :: L) (w.setCell ⟨b, j, none⟩ v) := by
  refine ⟨h.below.setCell (p := ⟨b, j, none⟩) hb _, fun x hx => ?_⟩
  rcases List.mem_cons.1 hx with rfl | hx
  · obtain ⟨hlt, hk⟩ := Array.getElem?_eq_some_iff.1 (h.row (b := b) (o := .cells cs t) (by simp))
    show (w.heap.modify b _)[b]? = _
    rw [Array.getElem?_eq_getElem (by rw [Array.size_modify]; exact hlt), Array.getElem_modify_self, hk]
    simp
  · rw [Below.heap_setCell _ _ _ _ (hL x hx)]
    exact h.rows x (List.mem_cons_of_mem _ hx)
theorem St.put7 {b : Nat} {x0 x1 x2 x3 x4 x5 x6 v0 v1 v2 v3 v4 v5 v6 : Value} {t : TypeId} (h : St W ((b, .cells #[x0, x1, x2, x3, x4, x5, x6] t) :: L) w) (hb : W.heap.size ≤ b) (hL : ∀ x ∈ L, x.1 ≠ b) :
    St W ((b, .cells #[v0, v1, v2, v3, v4, v5, v6] t) :: L) (((((((w.setCell ⟨b, 0, none⟩ v0).setCell ⟨b, 1, none⟩ v1).setCell ⟨b, 2, none⟩ v2).setCell ⟨b, 3, none⟩ v3).setCell ⟨b, 4, none⟩ v4).setCell ⟨b, 5, none⟩ v5).setCell ⟨b, 6, none⟩ v6) := by
  have h0 : St W ((b, .cells #[v0, x1, x2, x3, x4, x5, x6] t) :: L) (w.setCell ⟨b, 0, none⟩ v0) := h.put (j := 0) (v := v0) hb hL
  have h1 : St W ((b, .cells #[v0, v1, x2, x3, x4, x5, x6] t) :: L) ((w.setCell ⟨b, 0, none⟩ v0).setCell ⟨b, 1, none⟩ v1) := h0.put (j := 1) (v := v1) hb hL
  have h2 : St W ((b, .cells #[v0, v1, v2, x3, x4, x5, x6] t) :: L) (((w.setCell ⟨b, 0, none⟩ v0).setCell ⟨b, 1, none⟩ v1).setCell ⟨b, 2, none⟩ v2) := h1.put (j := 2) (v := v2) hb hL
  have h3 : St W ((b, .cells #[v0, v1, v2, v3, x4, x5, x6] t) :: L) ((((w.setCell ⟨b, 0, none⟩ v0).setCell ⟨b, 1, none⟩ v1).setCell ⟨b, 2, none⟩ v2).setCell ⟨b, 3, none⟩ v3) := h2.put (j := 3) (v := v3) hb hL
  have h4 : St W ((b, .cells #[v0, v1, v2, v3, v4, x5, x6] t) :: L) (((((w.setCell ⟨b, 0, none⟩ v0).setCell ⟨b, 1, none⟩ v1).setCell ⟨b, 2, none⟩ v2).setCell ⟨b, 3, none⟩ v3).setCell ⟨b, 4, none⟩ v4) := h3.put (j := 4) (v := v4) hb hL
  have h5 : St W ((b, .cells #[v0, v1, v2, v3, v4, v5, x6] t) :: L) ((((((w.setCell ⟨b, 0, none⟩ v0).setCell ⟨b, 1, none⟩ v1).setCell ⟨b, 2, none⟩ v2).setCell ⟨b, 3, none⟩ v3).setCell ⟨b, 4, none⟩ v4).setCell ⟨b, 5, none⟩ v5) := h4.put (j := 5) (v := v5) hb hL
  have h6 : St W ((b, .cells #[v0, v1, v2, v3, v4, v5, v6] t) :: L) (((((((w.setCell ⟨b, 0, none⟩ v0).setCell ⟨b, 1, none⟩ v1).setCell ⟨b, 2, none⟩ v2).setCell ⟨b, 3, none⟩ v3).setCell ⟨b, 4, none⟩ v4).setCell ⟨b, 5, none⟩ v5).setCell ⟨b, 6, none⟩ v6) := h5.put (j := 6) (v := v6) hb hL
  exact h6
theorem St.put4 {b : Nat} {x0 x1 x2 x3 v0 v1 v2 v3 : Value} {t : TypeId} (h : St W ((b, .cells #[x0, x1, x2, x3] t) :: L) w) (hb : W.heap.size ≤ b) (hL : ∀ x ∈ L, x.1 ≠ b) :
    St W ((b, .cells #[v0, v1, v2, v3] t) :: L) ((((w.setCell ⟨b, 0, none⟩ v0).setCell ⟨b, 1, none⟩ v1).setCell ⟨b, 2, none⟩ v2).setCell ⟨b, 3, none⟩ v3) := by
  have h0 : St W ((b, .cells #[v0, x1, x2, x3] t) :: L) (w.setCell ⟨b, 0, none⟩ v0) := h.put (j := 0) (v := v0) hb hL
  have h1 : St W ((b, .cells #[v0, v1, x2, x3] t) :: L) ((w.setCell ⟨b, 0, none⟩ v0).setCell ⟨b, 1, none⟩ v1) := h0.put (j := 1) (v := v1) hb hL
  have h2 : St W ((b, .cells #[v0, v1, v2, x3] t) :: L) (((w.setCell ⟨b, 0, none⟩ v0).setCell ⟨b, 1, none⟩ v1).setCell ⟨b, 2, none⟩ v2) := h1.put (j := 2) (v := v2) hb hL
  have h3 : St W ((b, .cells #[v0, v1, v2, v3] t) :: L) ((((w.setCell ⟨b, 0, none⟩ v0).setCell ⟨b, 1, none⟩ v1).setCell ⟨b, 2, none⟩ v2).setCell ⟨b, 3, none⟩ v3) := h2.put (j := 3) (v := v3) hb hL
  exact h3
theorem St.put2 {b : Nat} {x0 x1 v0 v1 : Value} {t : TypeId} (h : St W ((b, .cells #[x0, x1] t) :: L) w) (hb : W.heap.size ≤ b) (hL : ∀ x ∈ L, x.1 ≠ b) :
    St W ((b, .cells #[v0, v1] t) :: L) ((w.setCell ⟨b, 0, none⟩ v0).setCell ⟨b, 1, none⟩ v1) := by
  have h0 : St W ((b, .cells #[v0, x1] t) :: L) (w.setCell ⟨b, 0, none⟩ v0) := h.put (j := 0) (v := v0) hb hL
  have h1 : St W ((b, .cells #[v0, v1] t) :: L) ((w.setCell ⟨b, 0, none⟩ v0).setCell ⟨b, 1, none⟩ v1) := h0.put (j := 1) (v := v1) hb hL
  exact h1
namespace F
theorem wp_store_of {P : Program} {o : Oper} {a : Act} {w w' : World} {K : Act → World → Prop} {Q : Exit → Act → World → Prop} (ty : TypeId) (x y : Operand) (ho : o.op = .store ty x y)
    (hl : (Instr.storeAt ty (a.eval x) (a.eval y)).run P w = .ok () w') (h : K (a.put o.dst undef) w') : o.wp P a w K Q := by
  unfold Oper.wp execOp
  simp only [ho, Sem.run_bind, hl, Result.andThen_ok, Sem.run_pure]
  exact h
theorem wp_alloc_of {P : Program} {o : Oper} {a : Act} {w : World} {K : Act → World → Prop} {Q : Exit → Act → World → Prop} (t : TypeId) (ho : o.op = .alloc t) (cs : Array Value) (hz : (zeroValue t).run P w = .ok (.agg cs) w)
    (h : K (a.put o.dst (.pointer (some ⟨w.heap.size, 0, none⟩))) (w.alloc (.cells cs t))) : o.wp P a w K Q := by
  have hn : (newVar t (.agg cs)).run P w = .ok ⟨w.heap.size, 0, none⟩ (w.alloc (.cells cs t)) := rfl
  unfold Oper.wp execOp
  simp only [ho, Instr.alloc, Sem.run_bind, hz, hn, Result.andThen_ok, Sem.run_pure]
  exact h
theorem store_row (ty : TypeId) {b : Nat} {cs ds : Array Value} {t : TypeId} {w : World} (hi : (Try.prog.info? ty).map (·.size) = some ds.size) (hs : cs.size = ds.size) (h1 : ds.all (·.oneCell') = true) (h : w.heap[b]? = some (.cells cs t)) :
    (Instr.storeAt ty (.pointer (some ⟨b, 0, none⟩)) (.agg ds)).run Try.prog w = .ok () (w.setRow b ds) := by
  simp only [Instr.storeAt, Instr.sureAddr, Sem.run_bind, Sem.run_pure, Result.andThen_ok, run_storeVar_row w b _ ty _ _ h hi hs h1]
end F
end Go.Proofs.Ytgipfcpkphmbpaa
