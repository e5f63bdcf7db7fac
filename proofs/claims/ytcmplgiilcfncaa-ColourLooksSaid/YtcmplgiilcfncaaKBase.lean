/-
  As the curve texts' Law, without what only the curve's laws need.
  From a law's walk to its row: what the law returns is 'true', and nothing that was there before has changed.
-/
import Derived.Test.YtcmplgiilcfncaaSame
import Derived.WalkKit
import Derived.ProofKit
import Derived.OpenShut
import Derived.SizedLaws
import Derived.JoinedCond
import Derived.Lib.Hide
import Derived.ChangeSlices
import Derived.Lib.LaidTab
namespace Go.Proofs.Ytcmplgiilcfncaa
open Go.ChangeShapes Go.WideShapes Go.ChangeAt Go.RowKit

theorem own : ownKnob Try.prog.godebug = none := by kernel_rfl
theorem laidOut : laidOutB Try.prog = true := by kernel_rfl

set_option maxRecDepth 100000 in
theorem trodAll_below {H : Type} {enc : TypeId × Value → H} {W W' : World} (hb : Below W.heap.size W W') : ∀ (ts : List TypeId) (vs : List Value) (ds : List (DataW H)) (ps : List MemPlace),
    (∀ t ∈ ts, Try.prog.readableRec t = true ∧ t < Try.prog.types.size) → DataW.TrodAll enc Try.prog W 0 (fun _ => true) true ts vs ds ps → (∀ x ∈ ps, x.block < W.heap.size) →
    DataW.TrodAll enc Try.prog W' 0 (fun b => decide (b < W.heap.size)) true ts vs ds ps
  | [], vs, ds, ps, _, h, _ => by
    obtain ⟨rfl, rfl, rfl⟩ := trodAll_nil h
    exact trodAll_mk0
  | t :: ts, vs, ds, ps, hr, h, hp => by
    obtain ⟨v, vs', d, ds', p, q, rfl, rfl, rfl, h0, h1⟩ := trodAll_cons h
    have ht := hr t (by simp)
    exact trodAll_cons_mk (Below.trod laidOut ht.1 ht.2 h0 hb (fun x hx => hp x (by simp [hx]))) (trodAll_below hb ts vs' ds' q (fun t h => hr t (by simp [h])) h1 (fun x hx => hp x (by simp [hx])))

set_option maxRecDepth 100000 in
theorem law_post {H : Type} {enc : TypeId × Value → H} {f : Func} {s : ChangeSpec} {W W' : World} {args : Array Value} {ds gs : List (DataW H)} {before : List MemPlace}
    (hW : DataW.Whole enc Try.prog f.params.toList s.vars false W args.toList ds gs before) (hv : s.vars = []) (hres : f.resultTypes = #[4])
    (hspec : s.fn H (ds ++ gs) = { results := [.lit (.bool true)], args := ds }) (hr : ∀ t ∈ f.params.toList, Try.prog.readableRec t = true ∧ t < Try.prog.types.size) (hb : Below W.heap.size W W') :
    s.post enc Try.prog f false true false false W args (.bool true) W' := by
  have hW' := hW
  obtain ⟨p, q, hA, hV, rfl, hfz, hnd⟩ := hW
  rw [hv] at hV
  obtain ⟨rfl, rfl⟩ := trodVars_none hV
  refine ⟨ds, [], p ++ [], [], p, [], by simpa using hW', ?_, ?_, ?_, hb.frame _, fun h => by cases h⟩
  · rw [hspec, hres]; exact trodAll_mk1 (shut_bool Try.underlying4 _)
  · rw [hspec]; exact trodAll_below hb _ _ _ _ hr hA (fun x hx => by simpa using hW'.lt x (by simp [hx]))
  · rw [hspec, hv]; rfl

/-- an argument that is a slice of ints -/
theorem shape_lt {W : World} {b : Nat} {x : TypeId × Nat} (h : W.shape? b = some x) : b < W.heap.size := by
  unfold World.shape? at h
  cases hb : W.heap[b]? with
  | none => rw [hb] at h; simp at h
  | some o => exact (Array.getElem?_eq_some_iff.1 hb).1
set_option maxRecDepth 100000 in
theorem ca_of {H : Type} {enc : TypeId × Value → H} {W : World} {r : Reach} {b0 fuel : Nat} {v : Value} {x : DataW H × List MemPlace} (t : TypeId) (ht : Try.prog.underlying t = some (.slice 3))
    (hk : Cell.ok Try.prog W r b0 t v) (hf : DataW.trod enc Try.prog W 0 (fun _ => true) true fuel t [v] = some x) : ∃ c, Ca W v c := by
  have hci : Try.prog.cellsOf 3 = 1 := by kernel_rfl
  rcases open_ints ht Try.underlying3 hci hf with ⟨hcs, _⟩ | ⟨a, len, cap, zs, hcs, _, hl, hm, hz, _, hc, _⟩
  · simp at hcs
    exact ⟨[], .inl ⟨hcs, rfl⟩⟩
  · simp at hcs
    subst hcs
    unfold Cell.ok at hk
    rw [ht] at hk
    simp only at hk
    obtain ⟨_, _, _, hspot, row, cells, hsh, _⟩ := hk
    rw [if_pos rfl] at hz
    obtain ⟨bl, off, spot⟩ := a
    simp at hspot
    subst hspot
    have hlen : (zs.take len).length = len := by rw [List.length_take]; omega
    refine ⟨zs.take len, .inr ⟨bl, off, cap, by rw [hlen], by omega, by unfold maxLen at hm; omega, shape_lt hsh, fun i hi => ?_⟩⟩
    have h := hc i (by omega)
    have hadd : (⟨bl, off, none⟩ : Addr).add i = ⟨bl, off + i, none⟩ := by unfold Addr.add; split <;> simp_all
    rw [hadd] at h
    rw [h, cg_take (by omega)]
set_option maxRecDepth 100000 in
theorem open_ca {H : Type} {enc : TypeId × Value → H} {W : World} {r : Reach} {b0 : Nat} {v : Value} {d : DataW H} {p : List MemPlace} (t : TypeId) (ht : Try.prog.underlying t = some (.slice 3))
    (hv : Value.okWide Try.prog W r b0 t v) (h : DataW.Trod enc Try.prog W 0 (fun _ => true) true t v d p) : ∃ c, Ca W v c := by
  have hv0 := hv
  unfold Value.okWide Cell.okWide at hv
  rw [ht] at hv
  simp only at hv
  obtain ⟨fuel, hf⟩ := h
  obtain ⟨a0, len, cap, rfl⟩ := okWide_slice ht hv0
  exact ca_of t ht hv hf
theorem ex_cv (c : List Int) : ∃ r : Bool, (r = true ↔ Cv c) := by
  by_cases h : Cv c
  · exact ⟨true, by simp [h]⟩
  · exact ⟨false, by simp [h]⟩
theorem and16 (n : Int) : ∃ m : Nat, bits .and .i64 n 65535 = (m : Int) ∧ m ≤ 65535 := ⟨(n % 65536).toNat, by have := i64_mask 16 (by omega) n; simp at this; rw [this]; omega, by omega⟩
theorem and17 (n : Int) : ∃ m : Nat, bits .and .i64 n 131071 = (m : Int) ∧ m ≤ 131071 := ⟨(n % 131072).toNat, by have := i64_mask 17 (by omega) n; simp at this; rw [this]; omega, by omega⟩
theorem and2 (n : Int) : ∃ m : Nat, bits .and .i64 n 3 = (m : Int) ∧ m ≤ 3 := ⟨(n % 4).toNat, by have := i64_mask 2 (by omega) n; simp at this; rw [this]; omega, by omega⟩
theorem and3 (n : Int) : ∃ m : Nat, bits .and .i64 n 7 = (m : Int) ∧ m ≤ 7 := ⟨(n % 8).toNat, by have := i64_mask 3 (by omega) n; simp at this; rw [this]; omega, by omega⟩
end Go.Proofs.Ytcmplgiilcfncaa
