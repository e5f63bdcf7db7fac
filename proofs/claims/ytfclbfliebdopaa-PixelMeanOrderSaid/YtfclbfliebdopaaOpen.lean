/-
  An argument that is a slice of pixels, or of pixels with a number: what its cells hold.
-/
import Derived.Test.YtfclbfliebdopaaLaw
import Derived.ChangeSlices
import Derived.Lib.LaidTab
namespace Go.Proofs.Ytfclbfliebdopaa
open Go.ChangeShapes Go.WideShapes Go.ChangeAt Go.RowKit
variable {H : Type} {enc : TypeId × Value → H} {w : World} {base : Nat} {sp : Nat → Bool} {held : Bool}

theorem trod_u8 {fuel : Nat} {cs : List Value} {x : DataW H × List MemPlace}
    (h : DataW.trod enc Try.prog w base sp held fuel 5 cs = some x) : ∃ z : Int, cs = [.int .u8 z] ∧ Ch z := by
  obtain ⟨z, hc, _, hw⟩ := DataW.trod_int Try.underlying5 h
  have hb : 0 ≤ z ∧ z ≤ 255 := by simpa [Lit.wf, IntKind.min, IntKind.max, IntKind.signed, IntKind.bits] using hw
  exact ⟨z, hc, hb⟩
theorem trod_pix {fuel : Nat} {cs : List Value} {x : DataW H × List MemPlace}
    (h : DataW.trod enc Try.prog w base sp held fuel 27 cs = some x) : ∃ r g b a : Int, cs = [.int .u8 r, .int .u8 g, .int .u8 b, .int .u8 a] ∧ Ch r ∧ Ch g ∧ Ch b ∧ Ch a := by
  obtain ⟨xs, n, rfl, rfl, hl, hx, hf⟩ := DataW.trod_struct Try.underlying27 h
  rw [show Try.prog.cellsOf 27 = 4 by kernel_rfl] at hl
  have hc : Try.prog.cellsOf 5 = 1 := by kernel_rfl
  obtain ⟨c0, c1, c2, c3, rfl⟩ := list_rect hl
  obtain ⟨x0, x1, x2, x3, rfl⟩ := list_rect (hx.trans rfl)
  have f0 : DataW.trod enc Try.prog w base sp held n 5 (([c0, c1, c2, c3].drop 0).take (Try.prog.cellsOf 5)) = some x0 := hf 0 _ rfl
  have f1 : DataW.trod enc Try.prog w base sp held n 5 (([c0, c1, c2, c3].drop 1).take (Try.prog.cellsOf 5)) = some x1 := hf 1 _ rfl
  have f2 : DataW.trod enc Try.prog w base sp held n 5 (([c0, c1, c2, c3].drop 2).take (Try.prog.cellsOf 5)) = some x2 := hf 2 _ rfl
  have f3 : DataW.trod enc Try.prog w base sp held n 5 (([c0, c1, c2, c3].drop 3).take (Try.prog.cellsOf 5)) = some x3 := hf 3 _ rfl
  rw [hc] at f0 f1 f2 f3
  obtain ⟨r, hr, kr⟩ := trod_u8 f0
  obtain ⟨g, hg, kg⟩ := trod_u8 f1
  obtain ⟨b, hb, kb⟩ := trod_u8 f2
  obtain ⟨a, ha, ka⟩ := trod_u8 f3
  simp at hr hg hb ha
  exact ⟨r, g, b, a, by rw [hr, hg, hb, ha], kr, kg, kb, ka⟩
theorem trod_item {fuel : Nat} {cs : List Value} {x : DataW H × List MemPlace}
    (h : DataW.trod enc Try.prog w base sp held fuel 44 cs = some x) : ∃ r g b a k : Int, cs = [.int .u8 r, .int .u8 g, .int .u8 b, .int .u8 a, .int .i64 k] ∧ Ch r ∧ Ch g ∧ Ch b ∧ Ch a := by
  obtain ⟨xs, n, rfl, rfl, hl, hx, hf⟩ := DataW.trod_struct Try.underlying44 h
  rw [show Try.prog.cellsOf 44 = 5 by kernel_rfl] at hl
  have hc : Try.prog.cellsOf 27 = 4 := by kernel_rfl
  have hc1 : Try.prog.cellsOf 3 = 1 := by kernel_rfl
  have hx2 : xs.length = 2 := hx.trans rfl
  obtain ⟨x0, x1, rfl⟩ := list_n2 hx2
  have f0 : DataW.trod enc Try.prog w base sp held n 27 ((cs.drop 0).take (Try.prog.cellsOf 27)) = some x0 := hf 0 _ rfl
  have f1 : DataW.trod enc Try.prog w base sp held n 3 ((cs.drop 4).take (Try.prog.cellsOf 3)) = some x1 := hf 1 _ rfl
  rw [hc] at f0
  rw [hc1] at f1
  obtain ⟨r, g, b, a, hp, kr, kg, kb, ka⟩ := trod_pix f0
  obtain ⟨k, hk, _, _⟩ := DataW.trod_int Try.underlying3 f1
  refine ⟨r, g, b, a, k, ?_, kr, kg, kb, ka⟩
  match cs, hl with
  | [c0, c1, c2, c3, c4], _ =>
    simp at hp hk
    obtain ⟨rfl, rfl, rfl, rfl⟩ := hp
    rw [hk]
/-- the i-th of the pixels, of the pixels with a number -/
def PixAt (W : World) (po : Option Addr) (i : Nat) (r g b a : Int) : Prop :=
  ∃ bl off, po = some ⟨bl, off, none⟩ ∧ bl < W.heap.size ∧ W.cell? ⟨bl, off + i * 4, none⟩ = some (.int .u8 r) ∧ W.cell? ⟨bl, off + i * 4 + 1, none⟩ = some (.int .u8 g) ∧ W.cell? ⟨bl, off + i * 4 + 2, none⟩ = some (.int .u8 b) ∧ W.cell? ⟨bl, off + i * 4 + 3, none⟩ = some (.int .u8 a)
def ItemAt (W : World) (po : Option Addr) (i : Nat) (r g b a k : Int) : Prop :=
  ∃ bl off, po = some ⟨bl, off, none⟩ ∧ bl < W.heap.size ∧ W.cell? ⟨bl, off + i * 5, none⟩ = some (.int .u8 r) ∧ W.cell? ⟨bl, off + i * 5 + 1, none⟩ = some (.int .u8 g) ∧ W.cell? ⟨bl, off + i * 5 + 2, none⟩ = some (.int .u8 b) ∧ W.cell? ⟨bl, off + i * 5 + 3, none⟩ = some (.int .u8 a) ∧ W.cell? ⟨bl, off + i * 5 + 4, none⟩ = some (.int .i64 k)
theorem add_at {b off i j : Nat} : ((⟨b, off, none⟩ : Addr).add i).add j = ⟨b, off + i + j, none⟩ := by
  unfold Addr.add; by_cases h : i = 0 <;> by_cases h2 : j = 0 <;> simp [h, h2]
theorem spot_of {w : World} {base n : Nat} {a : Addr} {cs : List Value} (hn : 0 < n) (h : w.cells? base (a.add (0 * n)) n = some cs) : a.spot = none := by
  have h0 := (World.cells?_some h).2.2 0 hn
  have hl := (World.cells?_some h).2.1
  rw [List.getElem?_eq_getElem (by omega)] at h0
  simpa [Addr.add] using World.cell?_spot h0
theorem opened_pix {W : World} {b0 : Nat} {r : Reach} {v : Value} {d : DataW H} {p : List MemPlace} (hv : Value.okWide Try.prog W r b0 52 v) (h : DataW.Trod enc Try.prog W 0 (fun _ => true) true 52 v d p) :
    ∃ (po : Option Addr) (n c : Nat), v = .slice po n c ∧ n ≤ 9223372036854775807 ∧ ∀ i, i < n → ∃ r g b a, PixAt W po i r g b a ∧ Ch r ∧ Ch g ∧ Ch b ∧ Ch a := by
  obtain ⟨a0, len, cap, rfl⟩ := okWide_slice Try.underlying52 hv
  obtain ⟨fuel, hf⟩ := h
  rcases DataW.trod_slice Try.underlying52 hf with ⟨hcs, _⟩ | ⟨a, len', cap', elems, rest, n, _, hcs, _, hb, hl, hm, hlen, hel, _, _⟩
  · simp [Value.cells] at hcs
    obtain ⟨rfl, rfl, rfl⟩ := hcs
    exact ⟨none, 0, 0, rfl, by omega, fun i hi => by omega⟩
  · simp [Value.cells] at hcs
    obtain ⟨rfl, rfl, rfl⟩ := hcs
    refine ⟨some a, len, cap, rfl, by unfold maxLen at hm; omega, fun i hi => ?_⟩
    have hi2 := hel i hi
    rw [List.getElem?_eq_getElem (by omega), Option.bind_eq_some_iff] at hi2
    obtain ⟨cs, hcs, hx⟩ := hi2
    obtain ⟨r, g, b, al, rfl, kr, kg, kb, ka⟩ := trod_pix hx
    have hs := (World.cells?_some hcs).2.2
    rw [show Try.prog.cellsOf 27 = 4 by kernel_rfl] at hs hcs
    have h0 := hs 0 (by omega); have h1 := hs 1 (by omega); have h2 := hs 2 (by omega); have h3 := hs 3 (by omega)
    obtain ⟨bl, off, spot⟩ := a
    have hspot : spot = none := by
      have hz := hel 0 (by omega)
      rw [List.getElem?_eq_getElem (by omega), Option.bind_eq_some_iff] at hz
      obtain ⟨cz, hcz, _⟩ := hz
      exact spot_of (by rw [show Try.prog.cellsOf 27 = 4 by kernel_rfl]; omega) hcz
    subst hspot
    rw [add_at] at h0 h1 h2 h3
    exact ⟨r, g, b, al, ⟨bl, off, rfl, block_lt_of_cell h0, h0, h1, h2, h3⟩, kr, kg, kb, ka⟩
theorem opened_items {W : World} {b0 : Nat} {r : Reach} {v : Value} {d : DataW H} {p : List MemPlace} (hv : Value.okWide Try.prog W r b0 35 v) (h : DataW.Trod enc Try.prog W 0 (fun _ => true) true 35 v d p) :
    ∃ (po : Option Addr) (n c : Nat), v = .slice po n c ∧ n ≤ 9223372036854775807 ∧ ∀ i, i < n → ∃ r g b a k, ItemAt W po i r g b a k ∧ Ch r ∧ Ch g ∧ Ch b ∧ Ch a := by
  obtain ⟨a0, len, cap, rfl⟩ := okWide_slice Try.underlying35 hv
  obtain ⟨fuel, hf⟩ := h
  rcases DataW.trod_slice Try.underlying35 hf with ⟨hcs, _⟩ | ⟨a, len', cap', elems, rest, n, _, hcs, _, hb, hl, hm, hlen, hel, _, _⟩
  · simp [Value.cells] at hcs
    obtain ⟨rfl, rfl, rfl⟩ := hcs
    exact ⟨none, 0, 0, rfl, by omega, fun i hi => by omega⟩
  · simp [Value.cells] at hcs
    obtain ⟨rfl, rfl, rfl⟩ := hcs
    refine ⟨some a, len, cap, rfl, by unfold maxLen at hm; omega, fun i hi => ?_⟩
    have hi2 := hel i hi
    rw [List.getElem?_eq_getElem (by omega), Option.bind_eq_some_iff] at hi2
    obtain ⟨cs, hcs, hx⟩ := hi2
    obtain ⟨r, g, b, al, k, rfl, kr, kg, kb, ka⟩ := trod_item hx
    have hs := (World.cells?_some hcs).2.2
    rw [show Try.prog.cellsOf 44 = 5 by kernel_rfl] at hs hcs
    have h0 := hs 0 (by omega); have h1 := hs 1 (by omega); have h2 := hs 2 (by omega); have h3 := hs 3 (by omega); have h4 := hs 4 (by omega)
    obtain ⟨bl, off, spot⟩ := a
    have hspot : spot = none := by
      have hz := hel 0 (by omega)
      rw [List.getElem?_eq_getElem (by omega), Option.bind_eq_some_iff] at hz
      obtain ⟨cz, hcz, _⟩ := hz
      exact spot_of (by rw [show Try.prog.cellsOf 44 = 5 by kernel_rfl]; omega) hcz
    subst hspot
    rw [add_at] at h0 h1 h2 h3 h4
    exact ⟨r, g, b, al, k, ⟨bl, off, rfl, block_lt_of_cell h0, h0, h1, h2, h3, h4⟩, kr, kg, kb, ka⟩
end Go.Proofs.Ytfclbfliebdopaa
