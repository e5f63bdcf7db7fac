/-
  What a loop over an iterator that collects into a slice of its own keeps: all cells but the box of the slice and the slice's own row.
-/
import Derived.Test.YtjadccelplnpnaaZoom
import Derived.Test.YtjadccelplnpnaaPos
import Derived.RangeFuncNested
import Derived.RangeFuncBound
import Derived.RangeFuncCalls
import Derived.RangeFuncLeaves
import Derived.RangeFuncBox
import Derived.Shelf.Abstract
import Derived.Shelf.RegionOpen
import Derived.OwnWalkIn
import Derived.TacticsInMore
import Derived.LoopNIn
import Derived.LoopIn
import Derived.Maps.AppendAt
namespace Go.Proofs.Ytjadccelplnpnaa
open Go.RowKit Go.Shelf

/-- the row of the slice that box B holds -/
def rowB (W : World) (B : Nat) : Option Nat := (W.cell? ⟨B, 0, none⟩).bind Value.ownBlock
/-- all cells below B's row, but those of B, are as they were, and the row moves up only -/
structure Kp (B : Nat) (W W' : World) : Prop where
  size : W.heap.size ≤ W'.heap.size
  same : ∀ b cs t fr, b ≠ B → (∀ g, rowB W B = some g → b < g) → W.heap[b]? = some (.cells cs t fr) → W'.heap[b]? = some (.cells cs t fr)
  row : ∀ g, rowB W' B = some g → (∃ g0, g0 ≤ g ∧ rowB W B = some g0) ∨ W.heap.size ≤ g
theorem Kp.under {B b : Nat} {W W' : World} {o : Obj} (h : Kp B W W') (hc : W.heap[b]? = some o) (hr : ∀ g, rowB W B = some g → b < g) : ∀ g, rowB W' B = some g → b < g := fun g e => by
  rcases h.row g e with ⟨g0, h0, e⟩ | e
  · exact Nat.lt_of_lt_of_le (hr g0 e) h0
  · have := (Array.getElem?_eq_some_iff.1 hc).1; omega
theorem Kp.trans {B : Nat} {X Y Z : World} (h : Kp B X Y) (k : Kp B Y Z) : Kp B X Z := by
  refine ⟨Nat.le_trans h.size k.size, fun b cs t fr hb hr hc => k.same b cs t fr hb (h.under hc hr) (h.same b cs t fr hb hr hc), fun g hg => ?_⟩
  rcases k.row g hg with ⟨g0, h0, e⟩ | e
  · rcases h.row g0 e with ⟨g1, h1, e⟩ | e
    · exact .inl ⟨g1, Nat.le_trans h1 h0, e⟩
    · exact .inr (Nat.le_trans e h0)
  · exact .inr (Nat.le_trans h.size e)
theorem rowB_of_heap {W W' : World} {B : Nat} (h : W'.heap[B]? = W.heap[B]?) : rowB W' B = rowB W B := by
  unfold rowB World.cell?; simp only [h]
theorem Kp.of_others {B : Nat} {W W' : World} (hs : W.heap.size ≤ W'.heap.size) (h : ∀ b, b < W.heap.size → W'.heap[b]? = W.heap[b]?) (hB : B < W.heap.size) : Kp B W W' :=
  ⟨hs, fun b cs t fr _ _ hc => by rw [h b (Array.getElem?_eq_some_iff.1 hc).1]; exact hc, fun g hg => .inl ⟨g, Nat.le_refl _, by rw [← rowB_of_heap (h B hB)]; exact hg⟩⟩
theorem Kp.below {B : Nat} {W W' : World} (h : Below W.heap.size W W') (hB : B < W.heap.size) : Kp B W W' := .of_others h.size (fun b hb => h.block b hb) hB
theorem Kp.putObj {B : Nat} {W : World} {l : Nat} {o : Obj} (o' : Obj) (hB : B ≠ l) (hl : W.heap[l]? = some o) (ho : o.isCells = false) : Kp B W (W.putObj l o') := by
  have hlt := (Array.getElem?_eq_some_iff.1 hl).1
  have hg := grownBy_putObj' W l o'
  refine ⟨hg.size, fun b cs t fr hb hr hc => ?_, fun g hg' => .inl ⟨g, Nat.le_refl _, ?_⟩⟩
  · have hbl : b ≠ l := fun e => by subst e; rw [hl] at hc; cases hc; cases ho
    exact (hg.block b (Array.getElem?_eq_some_iff.1 hc).1 (fun e => hbl (by cases e; rfl))).trans hc
  · rw [← hg']
    refine (rowB_of_heap ?_).symm
    by_cases hb : B < W.heap.size
    · exact hg.block B hb (fun e => hB (by cases e; rfl))
    · have hz : (W.putObj l o').heap.size = W.heap.size := by simp [World.putObj]
      rw [Array.getElem?_eq_none (by omega), Array.getElem?_eq_none (by omega)]
theorem rowB_boxed {W : World} {B : Nat} {t : TypeId} {v : Value} (h : Boxed W B t v) : rowB W B = v.ownBlock := by
  unfold rowB; rw [h.cell]; rfl
/-- where the row of v begins, or would -/
def bas (v : Value) (W : World) : Nat := v.ownBlock.getD W.heap.size
theorem bas_le {W : World} {n₀ e size k : Nat} {v : Value} {xs : List Value} (h : W.ownsRow n₀ e size v k xs) (hn : n₀ ≤ W.heap.size) : n₀ ≤ bas v W ∧ bas v W ≤ W.heap.size ∧ W.ownsRow (bas v W) e size v k xs := by
  obtain ⟨h0, ⟨rfl, hk⟩ | ⟨g, cap, cur, rfl, hg, hgb, rest⟩⟩ := h
  · exact ⟨hn, Nat.le_refl _, h0, .inl ⟨rfl, hk⟩⟩
  · have := (Array.getElem?_eq_some_iff.1 hgb).1
    exact ⟨hg, Nat.le_of_lt this, h0, .inr ⟨g, cap, cur, rfl, Nat.le_refl _, hgb, rest⟩⟩
theorem ownsRow_le {W : World} {n₀ n₁ e size k : Nat} {v : Value} {xs : List Value} (h : W.ownsRow n₁ e size v k xs) (hn : n₀ ≤ n₁) : W.ownsRow n₀ e size v k xs := by
  obtain ⟨h0, ⟨rfl, hk⟩ | ⟨g, cap, cur, rfl, hg, hgb, rest⟩⟩ := h
  · exact ⟨h0, .inl ⟨rfl, hk⟩⟩
  · exact ⟨h0, .inr ⟨g, cap, cur, rfl, Nat.le_trans hn hg, hgb, rest⟩⟩
/-- 'out = append(out, ..)' keeps them -/
theorem Kp.appended {W w1 : World} {B : Nat} {t e : TypeId} {size n₀ : Nat} {v v' : Value} {k m : Nat} {xs ys : List Value} {tmp : Obj}
    (hv : Boxed W B t v) (hte : t ≠ e) (hrow : W.ownsRow n₀ e size v k xs) (hown' : w1.ownsRow (bas v W) e size v' m ys) (hgrow : (W.alloc tmp).grownBy w1 v.ownBlock) : Kp B W (w1.setCell ⟨B, 0, none⟩ v') := by
  have hv1 : Boxed w1 B t v := (hv.alloc tmp).kept hgrow (hv.not_row hte hrow)
  have hv2 := hv1.set v'
  have hg2 := grownBy_setCell' w1 B v'
  have hz : W.heap.size ≤ w1.heap.size := by have := hgrow.size; simp at this; omega
  refine ⟨Nat.le_trans hz hg2.size, fun b cs t' fr hb hr hc => ?_, fun g hg => ?_⟩
  · have hlt := (Array.getElem?_eq_some_iff.1 hc).1
    rw [rowB_boxed hv] at hr
    have h1 : (W.alloc tmp).heap[b]? = some (.cells cs t' fr) := by
      have := (World.grownBy_alloc W tmp none).block b hlt (by simp); rw [this]; exact hc
    have h2 := (hgrow.block b (by simp; omega) (fun e' => by have := hr b e'.symm; omega)).trans h1
    exact (hg2.block b (by omega) (fun e' => hb (by cases e'; rfl))).trans h2
  · rw [rowB_boxed hv2] at hg
    rw [rowB_boxed hv]
    have hle : bas v W ≤ g := by
      obtain ⟨_, ⟨rfl, _⟩ | ⟨g', cap, cur, rfl, hg', _⟩⟩ := hown'
      · cases hg
      · cases hg; exact hg'
    unfold bas at hle
    cases hb : v.ownBlock with
    | none => rw [hb] at hle; exact .inr hle
    | some g0 => rw [hb] at hle; exact .inl ⟨g0, hle, rfl⟩
end Go.Proofs.Ytjadccelplnpnaa
