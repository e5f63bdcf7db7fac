/-
  The channel functions that Over and Mix hand to combine (contracts).
-/
import Derived.Test.YtligojllbnahcaaDoorMath
namespace Go.Proofs.YtligojllbnahcaaDoor
open Go.RowKit

abbrev ptr (b : Nat) : Value := .pointer (some ⟨b, 0, none⟩)
/-- the variables that Mix's channel function captures -/
abbrev ML (P Q : Int) (b10 bn b7 b8 : Nat) : List (Nat × Obj) :=
  [(b10, vo (nf bn) 95), (bn, vo (.int .i64 (P + Q)) 3), (b7, vo (.int .i64 P) 3), (b8, vo (.int .i64 Q) 3)]
theorem near_st {W w : World} {L : List (Nat × Obj)} (h : St W L w) (d : Int) : Calls Tryd.prog 56 #[.int .i64 d] w fun e w' => ∃ b, e = .returned (.func (.func 63) #[] #[.pointer (some ⟨b, 0, none⟩)]) ∧ St W ((b, vo (.int .i64 d) 3) :: L) w' :=
  (near_any d w).mono fun _ _ ⟨h1, h2⟩ => ⟨w.heap.size, h1, h2 ▸ h.alloc _⟩
end Go.Proofs.YtligojllbnahcaaDoor
