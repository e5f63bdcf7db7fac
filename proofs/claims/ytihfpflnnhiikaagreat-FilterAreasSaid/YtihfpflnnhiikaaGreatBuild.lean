/-
  slices.AppendSeq over an iterator that gives all its values; build.
-/
import Derived.Test.YtihfpflnnhiikaaGreatValues
namespace Go.Proofs.YtihfpflnnhiikaaGreat
open Go.RowKit Go.Shelf
attribute [local go_sem] Oper.semAt_some
variable {w : World}

theorem Tryz.infoI : (Tryz.prog.info? 3).map (fun i => (i.zero, i.size, i.bytes)) = some (some (.int .i64 0), 1, 8) := by kernel_rfl
theorem own_below {n B g k cap : Nat} {t : TypeId} {xs : List Value} {W W' : World} (h : W.ownsRow B t 1 (.slice (some ⟨g, 0, none⟩) k cap) k xs) (hb : Below n W W') (hg : g < n) : W'.ownsRow B t 1 (.slice (some ⟨g, 0, none⟩) k cap) k xs := by
  obtain ⟨hl, h | ⟨g', cap', cur, hv, hg', hh, h⟩⟩ := h
  · exact absurd h.1 (by simp)
  · have e : g = g' := by simpa [Value.ownBlock] using congrArg Value.ownBlock hv
    subst e
    exact ⟨hl, Or.inr ⟨g, cap', cur, hv, hg', by rw [hb.block g hg]; exact hh, h⟩⟩
theorem cell1_new (W : World) (x : Value) (t : TypeId) : ∀ j u, [x][j]? = some u → (W.alloc (.cells #[x] t)).cell? ((⟨W.heap.size, 0, none⟩ : Addr).add j) = some u := by
  intro j u hj
  cases j with
  | zero => simp at hj; subst hj; exact cell_alloc W x t
  | succ j => simp at hj

end Go.Proofs.YtihfpflnnhiikaaGreat
