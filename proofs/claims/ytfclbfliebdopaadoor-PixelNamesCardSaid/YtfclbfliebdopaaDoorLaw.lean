/-
  From a law's walk to its row and its card: what the law returns is 'true', nothing that was there before has changed, the table of names is as the program lays it.
-/
import Derived.Test.YtfclbfliebdopaaDoorTie
import Derived.Test.YtfclbfliebdopaaDoorCards
import Derived.Test.YtfclbfliebdopaaDoorNm
import Derived.ProofKit
import Derived.OpenShut
import Derived.SizedLaws
import Derived.JoinedCond
import Derived.LaidMore
import Derived.Lib.LaidTab
import Derived.ChangeSlices
import Derived.Stop.Joined
namespace Go.Proofs.YtfclbfliebdopaaDoor
open Go.ChangeShapes Go.WideShapes Go.ChangeAt Go.RowKit

theorem own : ownKnob Tryd.prog.godebug = none := by kernel_rfl
theorem laidOut : laidOutB Tryd.prog = true := by kernel_rfl

abbrev laid1 : List (String × DataW Unit) := [("gouache/pixel.names", Rows.laid_gouache_pixel_names)]

theorem gTab : Tryd.prog.globalNamed "gouache/pixel.names" = some 0 := by kernel_rfl
theorem tTab : (Tryd.prog.globals[0]?).map (·.type) = some 33 := by kernel_rfl
theorem cellsW : Tryd.prog.cellsOf 9 = 1 := by kernel_rfl
theorem cellsT : Tryd.prog.cellsOf 33 = 16 := by kernel_rfl

/-- the door's own heap meets the condition -/
theorem door_met (os : Os) (args : Array Value) : laidMetH Tryd.prog laid1 ((World.doorLaid Tryd.prog 400 os).forCall (fun _ _ => 0) ⟨#[], args, []⟩).memory :=
  laidMetH_of_parts3 (fuel := 8) (laidMet_of_run' 8 (by kernel_rfl) (by kernel_rfl)) (by kernel_rfl) (by kernel_rfl)

theorem laid_tab : (Rows.laid_gouache_pixel_names : DataW Unit) = strData NL := by
  unfold strData NL; rfl
/-- what the condition gives the walks -/
theorem lt_of_laid {W : World} (h : laidMetH Tryd.prog laid1 W) : LT W := by
  rw [MakeChecks.laidMetH_plain _ _ _ (by kernel_rfl)] at h
  rw [show laid1 = ("gouache/pixel.names", strData NL) :: [] from by rw [← laid_tab]] at h
  have hT := strs_of_head gTab tTab Tryd.underlying33 Tryd.underlying9 cellsW cellsT h
  have hc : ∀ i, i < 16 → W.cell? ⟨0, i, none⟩ = some (.string (nb i)) := fun i hi => strs_cell hT gTab i (by have hl : NL.length = 16 := rfl; omega)
  exact ⟨block_lt_of_cell (hc 0 (by omega)), hc⟩

theorem trodAll_below {H : Type} {enc : TypeId × Value → H} {W W' : World} (hb : Below W.heap.size W W') : ∀ (ts : List TypeId) (vs : List Value) (ds : List (DataW H)) (ps : List MemPlace),
    (∀ t ∈ ts, Tryd.prog.readableRec t = true ∧ t < Tryd.prog.types.size) → DataW.TrodAll enc Tryd.prog W 0 (fun _ => true) true ts vs ds ps → (∀ x ∈ ps, x.block < W.heap.size) →
    DataW.TrodAll enc Tryd.prog W' 0 (fun b => decide (b < W.heap.size)) true ts vs ds ps
  | [], vs, ds, ps, _, h, _ => by
    obtain ⟨rfl, rfl, rfl⟩ := trodAll_nil h
    exact trodAll_mk0
  | t :: ts, vs, ds, ps, hr, h, hp => by
    obtain ⟨v, vs', d, ds', p, q, rfl, rfl, rfl, h0, h1⟩ := trodAll_cons h
    have ht := hr t (by simp)
    exact trodAll_cons_mk (Below.trod laidOut ht.1 ht.2 h0 hb (fun x hx => hp x (by simp [hx]))) (trodAll_below hb ts vs' ds' q (fun t h => hr t (by simp [h])) h1 (fun x hx => hp x (by simp [hx])))

theorem law_post {H : Type} {enc : TypeId × Value → H} {f : Func} {s : ChangeSpec} {W W' : World} {args : Array Value} {ds gs : List (DataW H)} {before : List MemPlace}
    (hW : DataW.Whole enc Tryd.prog f.params.toList s.vars false W args.toList ds gs before) (hv : s.vars = []) (hres : f.resultTypes = #[4])
    (hspec : s.fn H (ds ++ gs) = { results := [.lit (.bool true)], args := ds }) (hr : ∀ t ∈ f.params.toList, Tryd.prog.readableRec t = true ∧ t < Tryd.prog.types.size) (hb : Below W.heap.size W W') :
    s.post enc Tryd.prog f false true false false W args (.bool true) W' := by
  have hW' := hW
  obtain ⟨p, q, hA, hV, rfl, hfz, hnd⟩ := hW
  rw [hv] at hV
  obtain ⟨rfl, rfl⟩ := trodVars_none hV
  refine ⟨ds, [], p ++ [], [], p, [], by simpa using hW', ?_, ?_, ?_, hb.frame _, fun h => by cases h⟩
  · rw [hspec, hres]; exact trodAll_mk1 (shut_bool Tryd.underlying4 _)
  · rw [hspec]; exact trodAll_below hb _ _ _ _ hr hA (fun x hx => by simpa using hW'.lt x (by simp [hx]))
  · rw [hspec, hv]; rfl
end Go.Proofs.YtfclbfliebdopaaDoor
