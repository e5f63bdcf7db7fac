/-
  Over (contract).
-/
import Derived.Test.YtjaipjgnchpjcaaOver1
import Derived.Laws.EntriesVeiled
namespace Go.Proofs.Ytjaipjgnchpjcaa
open Go.RowKit

section
variable {W w : World} {L : List (Nat × Obj)} {x y z : Value} {t : TypeId}
theorem fin1 (h : St W L w) : St W ((w.heap.size, vo x t) :: (w.heap.size + 1, vo y t) :: L) ((w.alloc (vo x t)).alloc (vo y t)) := by
  have h1 := (h.alloc (vo x t)).alloc (vo y t)
  rw [World.size_alloc] at h1
  exact h1.sub (fun x hx => by simp only [List.mem_cons] at hx ⊢; rcases hx with h | h | h <;> simp [h])
theorem fin2 (h : St W L w) : St W ((w.heap.size + 1, vo x t) :: (w.heap.size, vo y t) :: L) ((w.alloc (vo y t)).alloc (vo x t)) := by
  have h1 := (h.alloc (vo y t)).alloc (vo x t)
  rw [World.size_alloc] at h1
  exact h1
theorem fin3 {b : Nat} (h : St W ((b, vo z t) :: L) w) (hb : W.heap.size ≤ b) (hL : ∀ x ∈ L, x.1 ≠ b) : St W ((b, vo x t) :: (w.heap.size, vo y t) :: L) ((w.setCell ⟨b, 0, none⟩ x).alloc (vo y t)) := by
  have h1 : St W ((b, vo x t) :: L) (w.setCell ⟨b, 0, none⟩ x) := h.put (j := 0) (v := x) hb hL
  have h2 := h1.alloc (vo y t)
  rw [show (w.setCell ⟨b, 0, none⟩ x).heap.size = w.heap.size by simp] at h2
  exact h2.sub (fun x hx => by simp only [List.mem_cons] at hx ⊢; rcases hx with h | h | h <;> simp [h])
theorem fin5 {b : Nat} (h : St W ((b, vo z t) :: L) w) (hb : W.heap.size ≤ b) (hL : ∀ x ∈ L, x.1 ≠ b) : St W ((w.heap.size, vo x t) :: (b, vo y t) :: L) ((w.setCell ⟨b, 0, none⟩ y).alloc (vo x t)) := by
  have h1 : St W ((b, vo y t) :: L) (w.setCell ⟨b, 0, none⟩ y) := h.put (j := 0) (v := y) hb hL
  have h2 := h1.alloc (vo x t)
  rw [show (w.setCell ⟨b, 0, none⟩ y).heap.size = w.heap.size by simp] at h2
  exact h2
theorem fin4 {b c : Nat} (h : St W ((c, vo z t) :: (b, vo z t) :: L) w) (hc : W.heap.size ≤ c) (hb : W.heap.size ≤ b) (hcb : b ≠ c) (hL : ∀ x ∈ L, x.1 ≠ b) (hL' : ∀ x ∈ L, x.1 ≠ c) : St W ((b, vo x t) :: (c, vo y t) :: L) ((w.setCell ⟨b, 0, none⟩ x).setCell ⟨c, 0, none⟩ y) := by
  have h0 : St W ((b, vo z t) :: (c, vo z t) :: L) w := h.sub (fun x hx => by simp only [List.mem_cons] at hx ⊢; rcases hx with h | h | h <;> simp [h])
  have h1 : St W ((b, vo x t) :: (c, vo z t) :: L) (w.setCell ⟨b, 0, none⟩ x) := h0.put (j := 0) (v := x) hb (fun x hx => by rcases List.mem_cons.1 hx with rfl | hx; exact (fun e => hcb e.symm); exact hL x hx)
  have h2 : St W ((c, vo z t) :: (b, vo x t) :: L) (w.setCell ⟨b, 0, none⟩ x) := h1.sub (fun x hx => by simp only [List.mem_cons] at hx ⊢; rcases hx with h | h | h <;> simp [h])
  have h3 : St W ((c, vo y t) :: (b, vo x t) :: L) ((w.setCell ⟨b, 0, none⟩ x).setCell ⟨c, 0, none⟩ y) := h2.put (j := 0) (v := y) hc (fun x hx => by rcases List.mem_cons.1 hx with rfl | hx; exact hcb; exact hL' x hx)
  exact h3.sub (fun x hx => by simp only [List.mem_cons] at hx ⊢; rcases hx with h | h | h <;> simp [h])
theorem fin6 {b c : Nat} (h : St W ((c, vo z t) :: (b, vo z t) :: L) w) (hc : W.heap.size ≤ c) (hb : W.heap.size ≤ b) (hcb : c ≠ b) (hL : ∀ x ∈ L, x.1 ≠ b) (hL' : ∀ x ∈ L, x.1 ≠ c) : St W ((c, vo x t) :: (b, vo y t) :: L) ((w.setCell ⟨c, 0, none⟩ x).setCell ⟨b, 0, none⟩ y) :=
  fin4 (z := z) (h.sub (fun x hx => by simp only [List.mem_cons] at hx ⊢; rcases hx with h | h | h <;> simp [h])) hb hc hcb hL' hL
end
end Go.Proofs.Ytjaipjgnchpjcaa
