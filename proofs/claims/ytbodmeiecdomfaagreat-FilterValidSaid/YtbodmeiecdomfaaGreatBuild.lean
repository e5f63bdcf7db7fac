/-
  slices.AppendSeq over an iterator that gives all its values; build. Line, Inverse and Then.
-/
import Derived.Test.YtbodmeiecdomfaaGreatArgs
import Derived.Test.YtbodmeiecdomfaaGreatSearch
namespace Go.Proofs.YtbodmeiecdomfaaGreat
open Go.RowKit Go.Shelf
attribute [local go_sem] Oper.semAt_some
variable {w : World}

theorem Tryz.infoI : (Tryz.prog.info? 3).map (fun i => (i.zero, i.size, i.bytes)) = some (some (.int .i64 0), 1, 8) := by kernel_rfl
theorem own_below {n B g k cap : Nat} {t : TypeId} {xs : List Value} {W W' : World} (h : W.ownsRow B t 1 (.slice (some ⟨g, 0, none⟩) k cap) k xs) (hb : Below n W W') (hg : g < n) : W'.ownsRow B t 1 (.slice (some ⟨g, 0, none⟩) k cap) k xs := by
  obtain ⟨hl, h | ⟨g', cap', cur, hv, hg', hh, h⟩⟩ := h
  · exact absurd h.1 (by simp)
  · have e : g = g' := by simpa [Value.ownBlock] using congrArg Value.ownBlock hv
    subst e
    exact ⟨hl, Or.inr ⟨g, cap', cur, hv, hg', by rw [hb.block g hg]; exact hh, h⟩⟩
theorem cell1_new (W : World) (x : Value) (t : TypeId) : ∀ j u, [x][j]? = some u → (W.alloc (.cells #[x] t)).cell? ((⟨W.heap.size, 0, none⟩ : Addr).add j) = some u := by
  intro j u hj
  cases j with
  | zero => simp at hj; subst hj; exact cell_alloc W x t
  | succ j => simp at hj

end Go.Proofs.YtbodmeiecdomfaaGreat

namespace Go.Proofs.YtbodmeiecdomfaaGreat
open Go.RowKit Go.Shelf
variable {w : World}

def lineL (n : Int) : List Int := if vc n then lin n.toNat else []
/-- 'a curve is handed back' -/
def GotC (c : List Int) (w : World) (e : Ending) (w' : World) : Prop := ∃ po n cap, e = .returned (.slice po n cap) ∧ Cm w' (.slice po n cap) c ∧ Below w.heap.size w w'
theorem vc_nat {n : Int} (h : vc n = true) : ∃ m : Nat, n = m ∧ 2 ≤ m ∧ m ≤ 257 := by
  have := (vc_iff n).1 h
  exact ⟨n.toNat, by omega, by omega, by omega⟩
/-- the error of a call that makes a curve of n points from curves of which 'ok' says whether all are valid -/
def errc (ok : Bool) (n : Int) : Int := if ok then (if vc n then 0 else 1) else 21
end Go.Proofs.YtbodmeiecdomfaaGreat
