/-
  Clean, Fade and combine: what they return for all pixels.
-/
import Derived.Test.YtfncldaodbfakaaGreatRefBlend
namespace Go.Proofs.YtfncldaodbfakaaGreat
open Go.RowKit

structure Px where
  (r g b a : Int)
abbrev Px.v (p : Px) : Value := pv p.r p.g p.b p.a
abbrev Px.o (p : Px) : Obj := po p.r p.g p.b p.a
def Pc (p : Px) : Prop := Ch p.r ∧ Ch p.g ∧ Ch p.b ∧ Ch p.a
abbrev zp : Px := ⟨0, 0, 0, 0⟩
def cln (p : Px) : Px := if p.a = 0 then zp else p
def fad (p : Px) (c : Int) : Px := cln ⟨p.r, p.g, p.b, mul p.a c⟩
theorem mul_ch (a b : Int) : Ch (mul a b) := pr_ch (cl_ch a) (cl_ch b)
theorem cln_pc {p : Px} (h : Pc p) : Pc (cln p) := by unfold cln; split <;> first | exact h | exact ⟨⟨by decide, by decide⟩, ⟨by decide, by decide⟩, ⟨by decide, by decide⟩, ⟨by decide, by decide⟩⟩
theorem ret_v {a b : Value} (h : a = b) : Ending.returned a = .returned b := by rw [h]

theorem below_set4 {n b : Nat} {w w' : World} (h : Below n w w') (hb : n ≤ b) (x0 x1 x2 x3 : Value) :
    Below n w ((((w'.setCell ⟨b, 0, none⟩ x0).setCell ⟨b, 1, none⟩ x1).setCell ⟨b, 2, none⟩ x2).setCell ⟨b, 3, none⟩ x3) :=
  (((h.setCell (p := ⟨b, 0, none⟩) hb _).setCell (p := ⟨b, 1, none⟩) hb _).setCell (p := ⟨b, 2, none⟩) hb _).setCell (p := ⟨b, 3, none⟩) hb _

set_option maxHeartbeats 1000000 in
theorem clean_any (r g b a : Int) (w : World) : Calls Tryz.prog 131 #[pv r g b a] w fun e w' => e = .returned (cln ⟨r, g, b, a⟩).v ∧ Below w.heap.size w w' := by
  go_enter Tryz.func131, Tryz.ntmps131
  go_wp2
  all_goals exact bodyPost_ret (v := (cln ⟨r, g, b, a⟩).v) (by simp_all [results, Tryz.results131, go_sem, cln]) rfl ⟨rfl, below1.alloc (by simp) _⟩
set_option maxHeartbeats 1000000 in
theorem refClean_any (r g b a : Int) (w : World) : Calls Tryz.prog 88 #[pv r g b a] w fun e w' => e = .returned (cln ⟨r, g, b, a⟩).v ∧ Below w.heap.size w w' := by
  go_enter Tryz.func88, Tryz.ntmps88
  go_wp2
  all_goals exact bodyPost_ret (v := (cln ⟨r, g, b, a⟩).v) (by simp_all [results, Tryz.results88, go_sem, cln]) rfl ⟨rfl, below1.alloc (by simp) _⟩
theorem w64 {x : Int} (h : Ch x) : IntKind.i64.wrap x = x := IntWalk.i64_in _ ⟨by omega, by omega⟩
theorem w8 {x : Int} (h : Ch x) : IntKind.u8.wrap x = x := by show x % 256 = x; omega
end Go.Proofs.YtfncldaodbfakaaGreat
