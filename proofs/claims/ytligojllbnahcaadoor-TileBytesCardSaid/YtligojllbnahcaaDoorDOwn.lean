/-
  A slice of bytes that the call owns, and append to it.
-/
import Derived.Test.YtligojllbnahcaaDoorDLib
namespace Go.Proofs.YtligojllbnahcaaDoor.D
open Go.RowKit

/-- the bytes p lie at the head of the slice v, which the call owns -/
def OwnsB (B : Nat) (w : World) (v : Value) (p : List UInt8) : Prop := w.ownsRow B 5 1 v p.length (p.map bcell)
theorem owns_convD {B : Nat} {w : World} {v : Value} {p : List UInt8} (h : OwnsB B w v p) (D : TypeId) (hD : Tryd.prog.underlying D = some .string) : (convert 44 D v).run Tryd.prog w = .ok (.string (str p)) w := by
  obtain ⟨hl, h | ⟨g, cap, cur, rfl, hg, hh, hn, hc, hs, ht⟩⟩ := h
  · obtain ⟨rfl, h0⟩ := h
    have : p = [] := List.eq_nil_of_length_eq_zero h0
    subst this
    exact run_convert_bytes_nil w _ _ Tryd.underlying44 Tryd.underlying5 _ _ _ hD
  · refine run_convert_bytes_back w _ _ _ ⟨g, 0, none⟩ cap p Tryd.underlying44 Tryd.underlying5 hD fun j hj => ?_
    have hadd : (⟨g, 0, none⟩ : Addr).add j = ⟨g, j, none⟩ := by unfold Addr.add; split <;> simp_all
    rw [hadd, cell_of_row _ _ _ _ _ _ hh]
    have h2 : (cur.toList.take (p.length * 1))[j]? = (p.map bcell)[j]? := by rw [ht]
    rw [List.getElem?_take_of_lt (by omega)] at h2
    rw [← Array.getElem?_toList, h2]; simp [hj, bcell]
theorem owns_conv {B : Nat} {w : World} {v : Value} {p : List UInt8} (h : OwnsB B w v p) : (convert 44 9 v).run Tryd.prog w = .ok (.string (str p)) w := owns_convD h 9 Tryd.underlying9
theorem OwnsB.later {B : Nat} {w w' : World} {v : Value} {p : List UInt8} (h : OwnsB B w v p) (hb : Below w.heap.size w w') : OwnsB B w' v p := by
  obtain ⟨hl, h | ⟨g, cap, cur, hv, hg, hh, h⟩⟩ := h
  · exact ⟨hl, Or.inl h⟩
  · exact ⟨hl, Or.inr ⟨g, cap, cur, hv, hg, by rw [hb.block g (Array.getElem?_eq_some_iff.1 hh).1]; exact hh, h⟩⟩
theorem one_cell (w : World) (v : Value) (T : TypeId) : ∀ j u, [v][j]? = some u → (w.alloc (.cells #[v] T)).cell? ((⟨w.heap.size, 0, none⟩ : Addr).add j) = some u := by
  intro j u hj
  match j, hj with
  | 0, hj => simp at hj; subst hj; simp [Addr.add]
/-- 'append(v, b)': one byte behind what the call owns -/
theorem wp_app1 {ops : Array Oper} {rest : List Oper} {o : Oper} {a : Act} {Q : Exit → Act → World → Prop} (hgd : o.guard = none) (s x : Operand)
    (ho : o.op = .call { callee := .builtin .append, args := #[s, x], argTypes := #[44, 44] }) (B : Nat) (W : World) (v : Value) (p : List UInt8) (b : UInt8) (xv : Int)
    (hs : a.eval s = v) (hown : OwnsB B W v p) (hx : a.eval x = .slice (some ⟨W.heap.size, 0, none⟩) 1 1) (hb : xv = b.toNat) (hp : p.length < 140737488355328) (hB : B ≤ W.heap.size)
    (h : ∀ v' w', OwnsB B w' v' (p ++ [b]) → W.grownBy w' v.ownBlock → wpList Tryd.prog ops Q rest (a.put o.dst v') w') : wpList Tryd.prog ops Q (o :: rest) a (W.alloc (.cells #[.int .u8 xv] 5)) := by
  subst hb
  obtain ⟨i0, hi, hz0, hz1, hz2⟩ := info_parts Tryd.infoB
  refine wpList_append_own _ hgd s x 44 ho B 5 i0 (.int .u8 0) 1 1 Tryd.underlying44 hi hz0 hz1 hz2 rfl (by decide) v _ _ hs (World.ownsRow.alloc hown _) ⟨W.heap.size, 0, none⟩ 1 1 [bcell b] hx rfl (one_cell W _ _)
    (by intro u hu; simp at hu; subst hu; rfl) (by unfold maxLen; omega) (by omega) (by simp; omega) ?_
  intro v' w' h1 h2 _
  have e := World.grownBy_alloc W (.cells #[bcell b] 5) v.ownBlock
  refine h v' w' (by simpa [OwnsB] using h1) ⟨h2.1.trans e.1, h2.2.trans e.2, h2.3.trans e.3, Nat.le_trans e.4 h2.4, fun k hk hne => ?_⟩
  have := e.5 k hk hne
  rw [← this]
  exact h2.5 k (Nat.lt_of_lt_of_le hk e.4) hne
theorem OwnsB.own_lt {B : Nat} {w : World} {v : Value} {p : List UInt8} (h : OwnsB B w v p) : ∀ k, v.ownBlock = some k → B ≤ k := by
  intro k hk
  obtain ⟨_, ⟨rfl, _⟩ | ⟨g, cap, cur, rfl, hg, _⟩⟩ := h
  · simp [Value.ownBlock] at hk
  · simp [Value.ownBlock] at hk; omega

theorem OwnsB.shape {B : Nat} {w : World} {v : Value} {p : List UInt8} (h : OwnsB B w v p) : ∃ po cap, v = .slice po p.length cap := by
  obtain ⟨_, ⟨rfl, h0⟩ | ⟨g, cap, cur, rfl, hg, _⟩⟩ := h
  · exact ⟨none, 0, by rw [h0]⟩
  · exact ⟨_, _, rfl⟩

theorem two_cells (w : World) (u v : Value) (T : TypeId) : ∀ j x, [u, v][j]? = some x → (w.alloc (.cells #[u, v] T)).cell? ((⟨w.heap.size, 0, none⟩ : Addr).add j) = some x := by
  intro j x hj
  match j, hj with
  | 0, hj => simp at hj; subst hj; simp [Addr.add]
  | 1, hj => simp at hj; subst hj; simp [Addr.add]
/-- 'append(v, b, c)' -/
theorem wp_app2 {ops : Array Oper} {rest : List Oper} {o : Oper} {a : Act} {Q : Exit → Act → World → Prop} (hgd : o.guard = none) (s x : Operand)
    (ho : o.op = .call { callee := .builtin .append, args := #[s, x], argTypes := #[44, 44] }) (B : Nat) (W : World) (v : Value) (p : List UInt8) (b c : UInt8) (xv yv : Int)
    (hs : a.eval s = v) (hown : OwnsB B W v p) (hx : a.eval x = .slice (some ⟨W.heap.size, 0, none⟩) 2 2) (hb : xv = b.toNat) (hc : yv = c.toNat) (hp : p.length < 140737488355327) (hB : B ≤ W.heap.size)
    (h : ∀ v' w', OwnsB B w' v' (p ++ [b, c]) → Below B W w' → wpList Tryd.prog ops Q rest (a.put o.dst v') w') : wpList Tryd.prog ops Q (o :: rest) a (W.alloc (.cells #[.int .u8 xv, .int .u8 yv] 5)) := by
  subst hb hc
  obtain ⟨i0, hi, hz0, hz1, hz2⟩ := info_parts Tryd.infoB
  refine wpList_append_own _ hgd s x 44 ho B 5 i0 (.int .u8 0) 1 1 Tryd.underlying44 hi hz0 hz1 hz2 rfl (by decide) v _ _ hs (World.ownsRow.alloc hown _) ⟨W.heap.size, 0, none⟩ 2 2 [bcell b, bcell c] hx rfl (two_cells W _ _ _)
    (by intro u hu; simp at hu; rcases hu with rfl | rfl <;> rfl) (by unfold maxLen; omega) (by omega) (by simp; omega) ?_
  intro v' w' h1 h2 _
  refine h v' w' (by simpa [OwnsB] using h1) (((Below.refl B W).alloc hB _).grown h2 (by simp; omega) ?_)
  intro k hk
  obtain ⟨_, ⟨rfl, _⟩ | ⟨g, cap, cur, rfl, hg, _⟩⟩ := hown
  · simp [Value.ownBlock] at hk
  · simp [Value.ownBlock] at hk; omega
theorem two0 (w : World) (u v : Value) (T : TypeId) : (w.alloc (.cells #[u, v] T)).cell? ⟨w.heap.size, 0, none⟩ = some u := by rw [cell_of_row _ _ _ _ _ _ (heap_alloc_new _ _)]; rfl
theorem two1 (w : World) (u v : Value) (T : TypeId) : (w.alloc (.cells #[u, v] T)).cell? ⟨w.heap.size, 1, none⟩ = some v := by rw [cell_of_row _ _ _ _ _ _ (heap_alloc_new _ _)]; rfl
/-- 'append(v, b, c)' as one step of a region that draws its order -/
theorem step_app2 {ops : Array Oper} {o : Oper} {a : Act} {V : World} {K : Act → World → Prop} {Q : Exit → Act → World → Prop} {E : Prop} (hgd : o.guard = none) (s x : Operand)
    (ho : o.op = .call { callee := .builtin .append, args := #[s, x], argTypes := #[44, 44] }) (B g : Nat) (v : Value) (p : List UInt8) (b c : UInt8)
    (hs : a.eval s = v) (hown : OwnsB B V v p) (hx : a.eval x = .slice (some ⟨g, 0, none⟩) 2 2) (h0 : V.cell? ⟨g, 0, none⟩ = some (bcell b)) (h1 : V.cell? ⟨g, 1, none⟩ = some (bcell c)) (hp : p.length < 140737488355327) (hB : B ≤ V.heap.size)
    (h : ∀ v' w', OwnsB B w' v' (p ++ [b, c]) → Below B V w' → K (a.put o.dst v') w') : if Region.wanted o (yielded ops a.tmps) = true then Oper.wp Tryd.prog o a V K Q else E := by
  rw [if_pos (by simp [Region.wanted, hgd])]
  obtain ⟨i0, hi, hz0, hz1, hz2⟩ := info_parts Tryd.infoB
  refine wp_append_own V s x 44 ho B 5 i0 (.int .u8 0) 1 1 Tryd.underlying44 hi hz0 hz1 hz2 rfl (by decide) v _ _ hs hown ⟨g, 0, none⟩ 2 2 [bcell b, bcell c] hx rfl ?_
    (by intro u hu; simp at hu; rcases hu with rfl | rfl <;> rfl) (by unfold maxLen; omega) (by omega) hB ?_
  · intro j u hj
    match j, hj with
    | 0, hj => simp at hj; subst hj; simpa [Addr.add] using h0
    | 1, hj => simp at hj; subst hj; simpa [Addr.add] using h1
  · intro v' w' h1 h2 _
    refine h v' w' (by simpa [OwnsB] using h1) ((Below.refl B V).grown h2 hB ?_)
    intro k hk
    obtain ⟨_, ⟨rfl, _⟩ | ⟨g, cap, cur, rfl, hg, _⟩⟩ := hown
    · simp [Value.ownBlock] at hk
    · simp [Value.ownBlock] at hk; omega
end Go.Proofs.YtligojllbnahcaaDoor.D
