/-
  Clean, Fade and combine: what they return for all pixels.
-/
import Derived.Test.YtjaipjgnchpjcaaNum
import Derived.Shelf.Abstract
namespace Go.Proofs.Ytjaipjgnchpjcaa
open Go.RowKit

structure Px where
  (r g b a : Int)
abbrev Px.v (p : Px) : Value := pv p.r p.g p.b p.a
abbrev Px.o (p : Px) : Obj := po p.r p.g p.b p.a
def Pc (p : Px) : Prop := Ch p.r ∧ Ch p.g ∧ Ch p.b ∧ Ch p.a
abbrev zp : Px := ⟨0, 0, 0, 0⟩
def cln (p : Px) : Px := if p.a = 0 then zp else p
def fad (p : Px) (c : Int) : Px := cln ⟨p.r, p.g, p.b, mul p.a c⟩
theorem mul_ch (a b : Int) : Ch (mul a b) := pr_ch (cl_ch a) (cl_ch b)
theorem cln_pc {p : Px} (h : Pc p) : Pc (cln p) := by unfold cln; split <;> first | exact h | exact ⟨⟨by decide, by decide⟩, ⟨by decide, by decide⟩, ⟨by decide, by decide⟩, ⟨by decide, by decide⟩⟩
theorem ret_v {a b : Value} (h : a = b) : Ending.returned a = .returned b := by rw [h]

theorem below_set4 {n b : Nat} {w w' : World} (h : Below n w w') (hb : n ≤ b) (x0 x1 x2 x3 : Value) :
    Below n w ((((w'.setCell ⟨b, 0, none⟩ x0).setCell ⟨b, 1, none⟩ x1).setCell ⟨b, 2, none⟩ x2).setCell ⟨b, 3, none⟩ x3) :=
  (((h.setCell (p := ⟨b, 0, none⟩) hb _).setCell (p := ⟨b, 1, none⟩) hb _).setCell (p := ⟨b, 2, none⟩) hb _).setCell (p := ⟨b, 3, none⟩) hb _

theorem w64 {x : Int} (h : Ch x) : IntKind.i64.wrap x = x := IntWalk.i64_in _ ⟨by omega, by omega⟩
theorem w8 {x : Int} (h : Ch x) : IntKind.u8.wrap x = x := by show x % 256 = x; omega
end Go.Proofs.Ytjaipjgnchpjcaa
