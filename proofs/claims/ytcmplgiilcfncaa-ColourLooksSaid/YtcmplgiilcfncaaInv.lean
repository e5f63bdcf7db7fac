/-
  Inverse and Then.
-/
import Derived.Test.YtcmplgiilcfncaaLine
namespace Go.Proofs.Ytcmplgiilcfncaa
open Go.RowKit Go.Shelf
variable {w : World}

/-- the argument as a natural number -/
def argN (i n : Nat) : Nat := (arg i n).toNat
theorem argN_eq {i n : Nat} (h2 : 2 ≤ n) (hi : i < n) : (argN i n : Int) = arg i n ∧ argN i n ≤ 65535 := by
  have := arg_rng h2 hi; unfold argN; omega
/-- the x at which the curve reaches y, or the end -/
def invAt (c : List Int) (y : Int) : Nat := if sol c y ≤ 65535 then sol c y else 65535
def invL (c : List Int) (n : Nat) : List Int := (List.range n).map fun i => ((invAt c (arg i n) : Nat) : Int)
def thnL (a b : List Int) (n : Nat) : List Int := (List.range n).map fun i => val b (val a (argN i n)).toNat
/-- a curve and an error -/
def GotE (c : List Int) (k : Int) (w : World) (e : Ending) (w' : World) : Prop := ∃ po n cap, e = .returned (.tuple #[.slice po n cap, .int .i64 k]) ∧ Cm w' (.slice po n cap) c ∧ Below w.heap.size w w'
/-- what Inverse, Then return beside the error -/
def whenOk (k : Int) (c : List Int) : List Int := if k = 0 then c else []

end Go.Proofs.Ytcmplgiilcfncaa
