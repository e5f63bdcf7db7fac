/-
  Line, Inverse and Then.
-/
import Derived.Test.YtihfpflnnhiikaaGreatBuild
import Derived.Test.YtihfpflnnhiikaaGreatSearch
namespace Go.Proofs.YtihfpflnnhiikaaGreat
open Go.RowKit Go.Shelf
variable {w : World}

def lineL (n : Int) : List Int := if vc n then lin n.toNat else []
/-- 'a curve is handed back' -/
def GotC (c : List Int) (w : World) (e : Ending) (w' : World) : Prop := ∃ po n cap, e = .returned (.slice po n cap) ∧ Cm w' (.slice po n cap) c ∧ Below w.heap.size w w'
theorem vc_nat {n : Int} (h : vc n = true) : ∃ m : Nat, n = m ∧ 2 ≤ m ∧ m ≤ 257 := by
  have := (vc_iff n).1 h
  exact ⟨n.toNat, by omega, by omega, by omega⟩
/-- the error of a call that makes a curve of n points from curves of which 'ok' says whether all are valid -/
def errc (ok : Bool) (n : Int) : Int := if ok then (if vc n then 0 else 1) else 21
end Go.Proofs.YtihfpflnnhiikaaGreat
