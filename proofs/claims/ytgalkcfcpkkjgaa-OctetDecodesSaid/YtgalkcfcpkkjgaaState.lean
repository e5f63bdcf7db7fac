/-
  A reader while a law runs: what each of its methods does to the state that the law carries.
-/
import Derived.Test.YtgalkcfcpkkjgaaLaw
import Derived.Test.YtgalkcfcpkkjgaaSane
namespace Go.Proofs.Ytgalkcfcpkkjgaa
open Go.RowKit

/-- since the world W nothing old has changed; the reader of s stands in the new block g -/
structure RSt (W : World) (g : Nat) (s : ByteArray) (p : Nat) (f : Bool) (w : World) : Prop where
  below : Below W.heap.size W w
  rd : Rd w g s p f
  at_ : W.heap.size ≤ g
  le : p ≤ s.size
  sz : s.size ≤ 9223372036854775807

variable {W w w' : World} {g : Nat} {s : ByteArray} {p : Nat} {f : Bool}
theorem RSt.lt (h : RSt W g s p f w) : g < w.heap.size := (Array.getElem?_eq_some_iff.1 h.rd).1
theorem RSt.later (h : RSt W g s p f w) (hb : Below w.heap.size w w') : RSt W g s p f w' := ⟨h.below.trans (hb.mono h.below.size), h.rd.keptB hb h.lt, h.at_, h.le, h.sz⟩
theorem RSt.other (h : RSt W g s p f w) {c : Nat} (hg : w.grownBy w' (some c)) (hne : g ≠ c) (hc : W.heap.size ≤ c) : RSt W g s p f w' :=
  ⟨h.below.grown hg h.below.size (by intro k hk; injection hk with hk; omega), h.rd.kept hg hne, h.at_, h.le, h.sz⟩
theorem RSt.drewN (h : RSt W g s p f w) (n : Nat) : RSt W g s p f (w.drewN n) := ⟨h.below.trans ⟨rfl, rfl, rfl, Nat.le_refl _, fun _ _ => rfl⟩, h.rd.drewN n, h.at_, h.le, h.sz⟩
theorem RSt.drew (h : RSt W g s p f w) : RSt W g s p f w.drew := ⟨h.below.drew, h.rd, h.at_, h.le, h.sz⟩
theorem RSt.alloc (h : RSt W g s p f w) (o : Obj) : RSt W g s p f (w.alloc o) := h.later ((Below.refl _ _).alloc (Nat.le_refl _) _)
theorem RSt.pure {P : Program} {fn : FuncId} {args : Array Value} {v : Value} (h : RSt W g s p f w) (hc : Calls P fn args w fun e w' => e = .returned v ∧ Below w.heap.size w w') :
    Calls P fn args w fun e w' => e = .returned v ∧ RSt W g s p f w' := hc.mono fun _ _ ⟨h1, h2⟩ => ⟨h1, h.later h2⟩
theorem RSt.step {P : Program} {fn : FuncId} {args : Array Value} {v : Value} {p' : Nat} {f' : Bool} (h : RSt W g s p f w) (hp : p' ≤ s.size) (hc : Calls P fn args w fun e w' => e = .returned v ∧ Rd w' g s p' f' ∧ w.grownBy w' (some g)) :
    Calls P fn args w fun e w' => e = .returned v ∧ RSt W g s p' f' w' ∧ w.grownBy w' (some g) :=
  hc.mono fun _ _ ⟨h1, h2, h3⟩ => ⟨h1, ⟨h.below.grown h3 h.below.size (by intro k hk; injection hk with hk; have := h.at_; omega), h2, h.at_, hp, h.sz⟩, h3⟩
theorem RSt.failed (h : RSt W g s p f w) : Calls Try.prog 33 #[.pointer (some ⟨g, 0, none⟩)] w fun e w' => e = .returned (.bool f) ∧ w = w' := failed_any _ _ _ _ _ h.rd
theorem RSt.pos (h : RSt W g s p f w) : Calls Try.prog 31 #[.pointer (some ⟨g, 0, none⟩)] w fun e w' => e = .returned (.int .i64 p) ∧ w = w' := at_any _ _ _ _ _ h.rd
theorem RSt.left (h : RSt W g s p f w) : Calls Try.prog 32 #[.pointer (some ⟨g, 0, none⟩)] w fun e w' => e = .returned (.int .i64 ((s.size : Int) - p)) ∧ ∃ n, w' = w.drewN n := left_any _ _ _ _ _ h.rd h.le h.sz
theorem lenS (s : ByteArray) : s.data.toList.length = s.size := Array.length_toList
theorem RSt.take (h : RSt W g s p f w) {n : Int} {l : List UInt8} {p' : Nat} {f' : Bool} (ht : tk s.data.toList p f n = (l, p', f')) :
    Calls Try.prog 29 #[.pointer (some ⟨g, 0, none⟩), .int .i64 n] w fun e w' => e = .returned (.string (str l)) ∧ RSt W g s p' f' w' ∧ w.grownBy w' (some g) := by
  have := take_any g s p f n w h.rd h.le h.sz
  have hle := tk_bd (S := s.data.toList) (p := p) f n (by rw [lenS]; exact h.le)
  rw [ht] at this hle
  rw [lenS] at hle
  exact h.step hle this
theorem RSt.var (h : RSt W g s p f w) {n : Int} {p' : Nat} {f' : Bool} (ht : vr s.data.toList p f = (n, p', f')) :
    Calls Try.prog 25 #[.pointer (some ⟨g, 0, none⟩)] w fun e w' => e = .returned (.int .i64 n) ∧ RSt W g s p' f' w' ∧ w.grownBy w' (some g) := by
  have := var_read g s p f w h.rd h.le h.sz
  have hle := vr_bd (S := s.data.toList) (p := p) f (by rw [lenS]; exact h.le)
  rw [ht] at this hle
  rw [lenS] at hle
  exact h.step hle this
theorem tx_bd {S : List UInt8} {p : Nat} (f : Bool) (h : p ≤ S.length) : (tx S p f).2.1 ≤ S.length := by
  unfold tx; split
  · exact h
  · exact tk_bd _ _ (vr_bd f h)
theorem RSt.text (h : RSt W g s p f w) {l : List UInt8} {p' : Nat} {f' : Bool} (ht : tx s.data.toList p f = (l, p', f')) :
    Calls Try.prog 27 #[.pointer (some ⟨g, 0, none⟩)] w fun e w' => e = .returned (.string (str l)) ∧ RSt W g s p' f' w' ∧ w.grownBy w' (some g) := by
  have := text_read g s p f w h.rd h.le h.sz
  have hle := tx_bd (S := s.data.toList) (p := p) f (by rw [lenS]; exact h.le)
  rw [ht] at this hle
  rw [lenS] at hle
  exact h.step hle this
theorem RSt.num (h : RSt W g s p f w) {z n : Int} {p' : Nat} {f' : Bool} (ht : nm s.data.toList p f z = (n, p', f')) :
    Calls Try.prog 23 #[.pointer (some ⟨g, 0, none⟩), .int .i64 z] w fun e w' => e = .returned (.int .i64 n) ∧ RSt W g s p' f' w' ∧ w.grownBy w' (some g) := by
  have := num_read g s p f z w h.rd h.le h.sz
  have hle : (nm s.data.toList p f z).2.1 ≤ s.data.toList.length := tk_bd (S := s.data.toList) (p := p) f (clampI z) (by rw [lenS]; exact h.le)
  rw [ht] at this hle
  rw [lenS] at hle
  exact h.step hle this
theorem RSt.read {W w : World} (hb : Below W.heap.size W w) (s : ByteArray) (hs : s.size ≤ 9223372036854775807) :
    Calls Try.prog 22 #[.string s] w fun e w' => e = .returned (.pointer (some ⟨w.heap.size, 0, none⟩)) ∧ RSt W w.heap.size s 0 false w' ∧ Below w.heap.size w w' :=
  (read_any s w).mono fun _ _ ⟨h1, h2, h3, _⟩ => ⟨h1, ⟨hb.trans (h3.mono hb.size), h2, hb.size, Nat.zero_le _, hs⟩, h3⟩

theorem tk_done (S : List UInt8) (p : Nat) (n : Int) : tk S p true n = ([], p, true) := by unfold tk; rw [if_pos (by simp)]
theorem vr_done (S : List UInt8) (p : Nat) : vr S p true = (0, p, true) := rfl
theorem tx_done (S : List UInt8) (p : Nat) : tx S p true = ([], p, true) := by unfold tx; rw [vr_done, tk_done]; rfl
theorem nm_done (S : List UInt8) (p : Nat) (z : Int) : nm S p true z = (0, p, true) := by unfold nm; rw [tk_done]; rfl
theorem tk_ok {S : List UInt8} {p : Nat} (n : Nat) (h : p + n ≤ S.length) : tk S p false n = ((S.drop p).take n, p + n, false) := by
  unfold tk; rw [if_neg (by simp; omega)]; rfl
theorem tk_neg {S : List UInt8} {p : Nat} {f : Bool} {n : Int} (h : n < 0) : tk S p f n = ([], p, true) := by unfold tk; rw [if_pos (by simp [h])]
theorem tk_big {S : List UInt8} {p : Nat} {f : Bool} {n : Int} (h : (S.length : Int) - p < n) : tk S p f n = ([], p, true) := by unfold tk; rw [if_pos (by simp [h])]
end Go.Proofs.Ytgalkcfcpkkjgaa
