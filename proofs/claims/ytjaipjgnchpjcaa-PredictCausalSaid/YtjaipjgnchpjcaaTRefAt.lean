/-
  The pixels of a square of four tiles, in the reference.
-/
import Derived.Test.YtjaipjgnchpjcaaTHal2
import Derived.Test.YtjaipjgnchpjcaaTRefB
namespace Go.Proofs.Ytjaipjgnchpjcaa.T
open Go.RowKit Go.Shelf

theorem fill4 (place : Nat → Option (Nat × Nat)) (f0 f1 f2 f3 : Nat → Px) (z : Array Value) (hz : z.size = 1024) (h0 : place 0 = some (0, 256)) (h1 : place 1 = some (256, 256)) (h2 : place 2 = some (512, 256)) (h3 : place 3 = some (768, 256)) :
    Instr.fill place z [(0, .agg (fc 64 f0)), (1, .agg (fc 64 f1)), (2, .agg (fc 64 f2)), (3, .agg (fc 64 f3))] = some (fc 256 (sqG f0 f1 f2 f3)) := by
  have c0 : (Value.agg (fc 64 f0)).cells = fc 64 f0 := rfl
  have c1 : (Value.agg (fc 64 f1)).cells = fc 64 f1 := rfl
  have c2 : (Value.agg (fc 64 f2)).cells = fc 64 f2 := rfl
  have c3 : (Value.agg (fc 64 f3)).cells = fc 64 f3 := rfl
  simp only [Instr.fill, h0, h1, h2, h3, c0, c1, c2, c3, fc_size, fold_size, hz]
  rw [if_neg (by first | (simp; done) | (simp; omega)), if_neg (by first | (simp; done) | (simp; omega)), if_neg (by first | (simp; done) | (simp; omega)), if_neg (by first | (simp; done) | (simp; omega))]
  refine congrArg some (fc_of _ (by rw [fold_size, fold_size, fold_size, fold_size, hz]) fun i j hi hj => ?_)
  rw [fold_arr _ _ _ _ (by rw [fold_size, fold_size, fold_size, hz, fc_size]; omega), fold_arr _ _ _ _ (by rw [fold_size, fold_size, hz, fc_size]; omega), fold_arr _ _ _ _ (by rw [fold_size, hz, fc_size]; omega), fold_arr _ _ _ _ (by rw [hz, fc_size]; omega), fc_size, fc_size, fc_size, fc_size]
  unfold sqG app
  by_cases a0 : i < 64
  · rw [if_neg (by omega), if_neg (by omega), if_neg (by omega), if_pos (by omega), if_pos (by omega), if_pos a0, Nat.sub_zero]
    exact fc_get 64 f0 i j a0 hj
  · by_cases a1 : i < 128
    · rw [if_neg (by omega), if_neg (by omega), if_pos (by omega), if_pos a1, if_neg a0, show 4 * i + j - 256 = 4 * (i - 64) + j by omega]
      exact fc_get 64 f1 (i - 64) j (by omega) hj
    · by_cases a2 : i < 192
      · rw [if_neg (by omega), if_pos (by omega), if_neg a1, if_pos (by omega), show 4 * i + j - 512 = 4 * (i - 128) + j by omega]
        exact fc_get 64 f2 (i - 128) j (by omega) hj
      · rw [if_pos (by omega), if_neg a1, if_neg (by omega), show 4 * i + j - 768 = 4 * (i - 192) + j by omega, show i - 128 - 64 = i - 192 by omega]
        exact fc_get 64 f3 (i - 192) j (by omega) hj
theorem wpList_build4 {P : Program} {ops : Array Oper} {rest : List Oper} {o : Oper} {a : Act} {Q : Exit → Act → World → Prop} {w : World} (hg : o.guard = none) (t : TypeId) (x y z u : Operand) (ho : o.op = .build t #[(0, x), (1, y), (2, z), (3, u)]) (v x' y' z' u' : Value) (hx : a.eval x = x') (hy : a.eval y = y') (hz : a.eval z = z') (hu : a.eval u = u')
    (hl : (Instr.build t #[(0, x'), (1, y'), (2, z'), (3, u')]).run P w = .ok v w) (h : wpList P ops Q rest (a.put o.dst v) w) : wpList P ops Q (o :: rest) a w :=
  wpList_build_of hg t _ ho v (by subst hx hy hz hu; simpa using hl) h
/-- one tile of a square -/
def sub4 (G : Nat → Px) (q : Nat) : Nat → Px := fun i => G (64 * q + i)
end Go.Proofs.Ytjaipjgnchpjcaa.T
