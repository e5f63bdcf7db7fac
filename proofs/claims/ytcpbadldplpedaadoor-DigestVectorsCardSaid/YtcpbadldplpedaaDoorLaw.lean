/-
  From a law's walk to its row and its card: what the law returns is 'true', nothing that was there before has changed, the table of round constants is as the program lays it.
-/
import Derived.Test.YtcpbadldplpedaaDoorTie
import Derived.Test.YtcpbadldplpedaaDoorCards
import Derived.Test.YtcpbadldplpedaaDoorParts
import Derived.ProofKit
import Derived.OpenShut
import Derived.SizedLaws
import Derived.JoinedCond
import Derived.LaidMore
import Derived.Lib.LaidTab
import Derived.ChangeSlices
import Derived.Stop.Joined
namespace Go.Proofs.YtcpbadldplpedaaDoor
open Go.ChangeShapes Go.WideShapes Go.ChangeAt Go.RowKit

theorem own : ownKnob Tryd.prog.godebug = none := by kernel_rfl
theorem laidOut : laidOutB Tryd.prog = true := by kernel_rfl

abbrev laid1 : List (String × DataW Unit) := [("gouache/digest.roundConstants", Rows.laid_gouache_digest_roundConstants)]

theorem gTab : Tryd.prog.globalNamed "gouache/digest.roundConstants" = some 0 := by kernel_rfl
theorem tTab : (Tryd.prog.globals[0]?).map (·.type) = some 57 := by kernel_rfl
theorem cellsW : Tryd.prog.cellsOf 50 = 1 := by kernel_rfl
theorem cellsT : Tryd.prog.cellsOf 57 = 64 := by kernel_rfl

/-- the door's own heap meets the condition -/
theorem door_met (os : Os) (args : Array Value) : laidMetH Tryd.prog laid1 ((World.doorLaid Tryd.prog 400 os).forCall (fun _ _ => 0) ⟨#[], args, []⟩).memory :=
  laidMetH_of_parts3 (fuel := 8) (laidMet_of_run' 8 (by kernel_rfl) (by kernel_rfl)) (by kernel_rfl) (by kernel_rfl)

def kInts : List Int := Sha.KL.map fun n : Nat => (n : Int)
theorem laid_tab : (Rows.laid_gouache_digest_roundConstants : DataW Unit) = Lib.tabData .u32 kInts := by
  unfold Lib.tabData kInts Sha.KL; rfl
/-- what the condition gives the walks -/
theorem kt_of_laid {W : World} (h : laidMetH Tryd.prog laid1 W) : KT W := by
  rw [MakeChecks.laidMetH_plain _ _ _ (by kernel_rfl)] at h
  rw [show laid1 = ("gouache/digest.roundConstants", Lib.tabData .u32 kInts) :: [] from by rw [← laid_tab]] at h
  have hT := Lib.tabIs_of_head gTab tTab Tryd.underlying57 Tryd.underlying50 cellsW cellsT h
  have hc : ∀ i, i < 64 → W.cell? ⟨0, i, none⟩ = some (.int .u32 (Sha.K i : Nat)) := fun i hi => by
    have hl : kInts.length = 64 := rfl
    have := hT.cell gTab i (by rw [hl]; exact hi)
    rw [this]
    unfold kInts Sha.K
    rw [List.getD_eq_getElem?_getD, List.getElem?_map, List.getD_eq_getElem?_getD]
    rw [List.getElem?_eq_getElem (by have : Sha.KL.length = 64 := rfl; omega)]; rfl
  exact ⟨block_lt_of_cell (hc 0 (by omega)), hc⟩

theorem trodAll_below {H : Type} {enc : TypeId × Value → H} {W W' : World} (hb : Below W.heap.size W W') : ∀ (ts : List TypeId) (vs : List Value) (ds : List (DataW H)) (ps : List MemPlace),
    (∀ t ∈ ts, Tryd.prog.readableRec t = true ∧ t < Tryd.prog.types.size) → DataW.TrodAll enc Tryd.prog W 0 (fun _ => true) true ts vs ds ps → (∀ x ∈ ps, x.block < W.heap.size) →
    DataW.TrodAll enc Tryd.prog W' 0 (fun b => decide (b < W.heap.size)) true ts vs ds ps
  | [], vs, ds, ps, _, h, _ => by
    obtain ⟨rfl, rfl, rfl⟩ := trodAll_nil h
    exact trodAll_mk0
  | t :: ts, vs, ds, ps, hr, h, hp => by
    obtain ⟨v, vs', d, ds', p, q, rfl, rfl, rfl, h0, h1⟩ := trodAll_cons h
    have ht := hr t (by simp)
    exact trodAll_cons_mk (Below.trod laidOut ht.1 ht.2 h0 hb (fun x hx => hp x (by simp [hx]))) (trodAll_below hb ts vs' ds' q (fun t h => hr t (by simp [h])) h1 (fun x hx => hp x (by simp [hx])))

theorem law_post {H : Type} {enc : TypeId × Value → H} {f : Func} {s : ChangeSpec} {W W' : World} {args : Array Value} {ds gs : List (DataW H)} {before : List MemPlace}
    (hW : DataW.Whole enc Tryd.prog f.params.toList s.vars false W args.toList ds gs before) (hv : s.vars = []) (hres : f.resultTypes = #[4])
    (hspec : s.fn H (ds ++ gs) = { results := [.lit (.bool true)], args := ds }) (hr : ∀ t ∈ f.params.toList, Tryd.prog.readableRec t = true ∧ t < Tryd.prog.types.size) (hb : Below W.heap.size W W') :
    s.post enc Tryd.prog f false true false false W args (.bool true) W' := by
  have hW' := hW
  obtain ⟨p, q, hA, hV, rfl, hfz, hnd⟩ := hW
  rw [hv] at hV
  obtain ⟨rfl, rfl⟩ := trodVars_none hV
  refine ⟨ds, [], p ++ [], [], p, [], by simpa using hW', ?_, ?_, ?_, hb.frame _, fun h => by cases h⟩
  · rw [hspec, hres]; exact trodAll_mk1 (shut_bool Tryd.underlying4 _)
  · rw [hspec]; exact trodAll_below hb _ _ _ _ hr hA (fun x hx => by simpa using hW'.lt x (by simp [hx]))
  · rw [hspec, hv]; rfl
theorem opened_strings {H : Type} {enc : TypeId × Value → H} {W : World} {b0 : Nat} {r : Reach} {v : Value} {d : DataW H} {p : List MemPlace} (hv : Value.okWide Tryd.prog W r b0 28 v) (h : DataW.Trod enc Tryd.prog W 0 (fun _ => true) true 28 v d p) :
    ∃ (po : Option Addr) (n c : Nat) (ts : List ByteArray), v = .slice po n c ∧ Args W po n ts := by
  obtain ⟨a0, len, cap, rfl⟩ := okWide_slice Tryd.underlying28 hv
  obtain ⟨fuel, hf⟩ := h
  rcases open_strings Tryd.underlying28 Tryd.underlying9 (by kernel_rfl) hf with ⟨hcs, _⟩ | ⟨a, len', cap', zs, hcs, _, hl, hm, hz, _, hcell, hwz⟩
  · simp [Value.cells] at hcs
    obtain ⟨rfl, rfl, rfl⟩ := hcs
    exact ⟨none, 0, 0, [], rfl, by omega, fun i hi => by omega⟩
  · simp [Value.cells] at hcs
    obtain ⟨rfl, rfl, rfl⟩ := hcs
    simp only [if_true] at hz
    refine ⟨some a, len, cap, zs, rfl, by unfold maxLen at hm; omega, fun i hi => ?_⟩
    obtain ⟨b, off, spot⟩ := a
    have hc := hcell i (by omega)
    have hspot : spot = none := by simpa [Addr.add] using World.cell?_spot (hcell 0 (by omega))
    subst hspot
    have hadd : (⟨b, off, none⟩ : Addr).add i = ⟨b, off + i, none⟩ := by unfold Addr.add; split <;> simp_all
    rw [hadd] at hc
    have hw : (zs.getD i ByteArray.empty).size ≤ maxLen := hwz _ (by rw [List.getD_eq_getElem?_getD, List.getElem?_eq_getElem (by omega)]; exact List.getElem_mem _)
    exact ⟨b, off, rfl, block_lt_of_cell hc, hc, by unfold maxLen at hw; omega⟩
end Go.Proofs.YtcpbadldplpedaaDoor
