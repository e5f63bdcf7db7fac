/-
  Two writers that have written the first bits of lists, and a reader of them; bits in memory.
-/
import Derived.Test.YtbfnahclkajahaaCLaw
namespace Go.Proofs.Ytbfnahclkajahaa.C
open Go.RowKit Go.Shelf
set_option maxRecDepth 100000
variable {W w w' : World} {L : List (Nat × Obj)} {F G : Cd → Value → Obj} {f g : Nat → Int × Int} {b b2 k k2 : Nat}

def SF (F G : Cd → Value → Obj) (W : World) (L : List (Nat × Obj)) (f g : Nat → Int × Int) (b k b2 k2 : Nat) (w : World) : Prop :=
  TF F G W L b (fin c0 (ops f k)) (wt c0 (ops f k)) b2 (fin c0 (ops g k2)) (wt c0 (ops g k2)) w
/-- what a writer's Bytes are behind the first bits -/
def yb (f : Nat → Int × Int) (k : Nat) : List UInt8 := byts (ops f k)
theorem wt_ops (f : Nat → Int × Int) (k : Nat) : (wt c0 (ops f k)).length ≤ 4 * k := by have := wt_len c0_ok (ops f k); rwa [ops_len] at this
theorem SF.swap (h : SF F G W L f g b k b2 k2 w) : SF G F W L g f b2 k2 b k w := TF.swap h
theorem SF.later (h : SF F G W L f g b k b2 k2 w) (hb : Below w.heap.size w w') : SF F G W L f g b k b2 k2 w' := TF.later h hb
theorem SF.below (h : SF F G W L f g b k b2 k2 w) : Below W.heap.size W w := TF.below h
theorem SF.drew (h : SF F G W L f g b k b2 k2 w) : SF F G W L f g b k b2 k2 w.drew := TF.drew h
theorem SF.drewN (h : SF F G W L f g b k b2 k2 w) (n : Nat) : SF F G W L f g b k b2 k2 (w.drewN n) := TF.later h (below_drewN n)
theorem SF.bit {x y : Int} (hx : f k = (x, y)) (hk : k ≤ 1000) (h : SF wob G W L f g b k b2 k2 w) :
    Calls Try.prog 21 #[.pointer (some ⟨b, 0, none⟩), .int .i64 x, .int .i64 y] w fun e w' => e = .returned (.tuple #[]) ∧ SF wob G W L f g b (k + 1) b2 k2 w' := by
  have h2 := TF.bit (n := x) (m := y) (fin_ok c0_ok _) h (by have := wt_ops f k; omega)
  unfold SF
  rw [ops_succ, fin_snoc, wt_snoc, hx]
  exact h2
theorem SF.refBit {x y : Int} (hx : f k = (x, y)) (hk : k ≤ 1000) (h : SF rwob G W L f g b k b2 k2 w) :
    Calls Try.prog 22 #[.pointer (some ⟨b, 0, none⟩), .int .i64 x, .int .i64 y] w fun e w' => e = .returned (.tuple #[]) ∧ SF rwob G W L f g b (k + 1) b2 k2 w' := by
  have h2 := TF.refBit (n := x) (m := y) (fin_ok c0_ok _) h (by have := wt_ops f k; omega)
  unfold SF
  rw [ops_succ, fin_snoc, wt_snoc, hx]
  exact h2
theorem SF.bytes (hk : k ≤ 1000) (h : SF wob G W L f g b k b2 k2 w) :
    Calls Try.prog 23 #[.pointer (some ⟨b, 0, none⟩)] w fun e w' => e = .returned (.string (str (yb f k))) ∧ SF wob G W L f g b k b2 k2 w' :=
  TF.bytes (fin_ok c0_ok _) h (by have := wt_ops f k; omega)
theorem SF.refBytes (hk : k ≤ 1000) (h : SF rwob G W L f g b k b2 k2 w) :
    Calls Try.prog 24 #[.pointer (some ⟨b, 0, none⟩)] w fun e w' => e = .returned (.string (str (yb f k))) ∧ SF rwob G W L f g b k b2 k2 w' :=
  TF.refBytes (fin_ok c0_ok _) h (by have := wt_ops f k; omega)
/-- two new writers -/
theorem SF.new (h : HS W ((b, wob c0 (.slice none 0 0)) :: (b2, wob c0 (.slice none 0 0)) :: L) w) : SF wob wob W L f g b 0 b2 0 w :=
  ⟨_, [], _, [], SL.nil, SL.nil, h⟩
theorem SF.newRef (h : RWS W ((b2, wob c0 (.slice none 0 0)) :: L) b c0 [] w) : SF rwob wob W L f g b 0 b2 0 w := by
  obtain ⟨v, l, hv, h⟩ := h
  exact ⟨v, l, _, [], hv, SL.nil, h⟩
/-- a bit's place in memory, and what lies there later -/
theorem BitAt.at {po : Option Addr} {i : Nat} {x y : Int} (h : BitAt W po i x y) : ∃ bl off, po = some ⟨bl, off, none⟩ ∧ ∀ V, Below W.heap.size W V → V.cell? ⟨bl, off + i * 2, none⟩ = some (.int .i64 x) ∧ V.cell? ⟨bl, off + i * 2 + 1, none⟩ = some (.int .i64 y) := by
  obtain ⟨bl, off, h1, h2, h3, h4⟩ := h
  exact ⟨bl, off, h1, fun V hV => ⟨cell_later h3 hV h2, cell_later h4 hV h2⟩⟩
theorem IntAt.at {po : Option Addr} {i : Nat} {z : Int} (h : IntAt W po i z) : ∃ bl off, po = some ⟨bl, off, none⟩ ∧ ∀ V, Below W.heap.size W V → V.cell? ⟨bl, off + i, none⟩ = some (.int .i64 z) := by
  obtain ⟨bl, off, h1, h2, h3⟩ := h
  exact ⟨bl, off, h1, fun V hV => cell_later h3 hV h2⟩
/-- one writer that has written the first bits -/
def SW (W : World) (L : List (Nat × Obj)) (f : Nat → Int × Int) (b k : Nat) (w : World) : Prop := WS W L b (fin c0 (ops f k)) (wt c0 (ops f k)) w
theorem SW.below (h : SW W L f b k w) : Below W.heap.size W w := (WS.hs h).below
theorem SW.later (h : SW W L f b k w) (hb : Below w.heap.size w w') : SW W L f b k w' := WS.later h hb
theorem SW.drew (h : SW W L f b k w) : SW W L f b k w.drew := WS.drew h
theorem SW.bit {x y : Int} (hx : f k = (x, y)) (hk : k ≤ 1000) (h : SW W L f b k w) :
    Calls Try.prog 21 #[.pointer (some ⟨b, 0, none⟩), .int .i64 x, .int .i64 y] w fun e w' => e = .returned (.tuple #[]) ∧ SW W L f b (k + 1) w' := by
  have h2 := bit_ws (n := x) (m := y) (fin_ok c0_ok _) h (by have := wt_ops f k; omega)
  unfold SW
  rw [ops_succ, fin_snoc, wt_snoc, hx]
  exact h2
theorem SW.bytes (hk : k ≤ 1000) (h : SW W L f b k w) :
    Calls Try.prog 23 #[.pointer (some ⟨b, 0, none⟩)] w fun e w' => e = .returned (.string (str (yb f k))) ∧ SW W L f b k w' :=
  (bytes_ws (fin_ok c0_ok _) h (by have := wt_ops f k; omega)).mono fun e w' ⟨h1, h2, _⟩ => ⟨h1, h2⟩
theorem SW.new (h : HS W ((b, wob c0 (.slice none 0 0)) :: L) w) : SW W L f b 0 w := ⟨_, [], SL.nil, h⟩
theorem yb_len (f : Nat → Int × Int) (k : Nat) : (yb f k).length = (wt c0 (ops f k)).length + 4 := by unfold yb byts; rw [List.length_append, be4_len]
/-- the first bytes agree -/
theorem heads_eq (a b : List UInt8) (n : Nat) (h : a.take n = b.take n) : (((str a).extract 0 n).toList == ((str b).extract 0 n).toList) = true := by
  rw [take_str, take_str, str_toList, str_toList, h]; exact beq_self_eq_true _
theorem yb_heads (f : Nat → Int × Int) (k : Nat) : (yb f (k + 1)).take (wt c0 (ops f k)).length = (yb f k).take (wt c0 (ops f k)).length := by
  unfold yb byts
  rw [ops_succ, wt_snoc, List.append_assoc, List.take_left' rfl, List.take_left' rfl]
theorem yb_mono (f : Nat → Int × Int) (k : Nat) : (yb f k).length ≤ (yb f (k + 1)).length := by
  rw [yb_len, yb_len, ops_succ, wt_snoc, List.length_append]; omega
end Go.Proofs.Ytbfnahclkajahaa.C
