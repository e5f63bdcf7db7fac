/-
  From a law's walk to its row: what the law returns is 'true', and nothing that was there before has changed; the laws' arguments.
-/
import Derived.Test.YtfncldaodbfakaaGreatOCrc
import Derived.Test.YtfncldaodbfakaaGreatRows
import Derived.Test.YtfncldaodbfakaaGreatPure
import Derived.WalkKit
import Derived.ProofKit
import Derived.OpenShut
import Derived.SizedLaws
import Derived.JoinedCond
import Derived.ChangeSlices
import Derived.Lib.LaidTab
import Derived.Lib.Hide
namespace Go.Proofs.YtfncldaodbfakaaGreat.Z
open Go.ChangeShapes Go.WideShapes Go.ChangeAt Go.RowKit
set_option maxRecDepth 100000

theorem own : ownKnob Tryz.prog.godebug = none := by kernel_rfl
theorem laidOut : laidOutB Tryz.prog = true := by kernel_rfl

theorem trodAll_below {H : Type} {enc : TypeId × Value → H} {W W' : World} (hb : Below W.heap.size W W') : ∀ (ts : List TypeId) (vs : List Value) (ds : List (DataW H)) (ps : List MemPlace),
    (∀ t ∈ ts, Tryz.prog.readableRec t = true ∧ t < Tryz.prog.types.size) → DataW.TrodAll enc Tryz.prog W 0 (fun _ => true) true ts vs ds ps → (∀ x ∈ ps, x.block < W.heap.size) →
    DataW.TrodAll enc Tryz.prog W' 0 (fun b => decide (b < W.heap.size)) true ts vs ds ps
  | [], vs, ds, ps, _, h, _ => by
    obtain ⟨rfl, rfl, rfl⟩ := trodAll_nil h
    exact trodAll_mk0
  | t :: ts, vs, ds, ps, hr, h, hp => by
    obtain ⟨v, vs', d, ds', p, q, rfl, rfl, rfl, h0, h1⟩ := trodAll_cons h
    have ht := hr t (by simp)
    exact trodAll_cons_mk (Below.trod laidOut ht.1 ht.2 h0 hb (fun x hx => hp x (by simp [hx]))) (trodAll_below hb ts vs' ds' q (fun t h => hr t (by simp [h])) h1 (fun x hx => hp x (by simp [hx])))

theorem law_post {H : Type} {enc : TypeId × Value → H} {f : Func} {s : ChangeSpec} {W W' : World} {args : Array Value} {ds gs : List (DataW H)} {before : List MemPlace}
    (hW : DataW.Whole enc Tryz.prog f.params.toList s.vars false W args.toList ds gs before) (hv : s.vars = []) (hres : f.resultTypes = #[4])
    (hspec : s.fn H (ds ++ gs) = { results := [.lit (.bool true)], args := ds }) (hr : ∀ t ∈ f.params.toList, Tryz.prog.readableRec t = true ∧ t < Tryz.prog.types.size) (hb : Below W.heap.size W W') :
    s.post enc Tryz.prog f false true false false W args (.bool true) W' := by
  have hW' := hW
  obtain ⟨p, q, hA, hV, rfl, hfz, hnd⟩ := hW
  rw [hv] at hV
  obtain ⟨rfl, rfl⟩ := trodVars_none hV
  refine ⟨ds, [], p ++ [], [], p, [], by simpa using hW', ?_, ?_, ?_, hb.frame _, fun h => by cases h⟩
  · rw [hspec, hres]; exact trodAll_mk1 (shut_bool Tryz.underlying4 _)
  · rw [hspec]; exact trodAll_below hb _ _ _ _ hr hA (fun x hx => by simpa using hW'.lt x (by simp [hx]))
  · rw [hspec, hv]; rfl
/-- an argument that is an array or a struct of ints -/
theorem agg_ints {W : World} {r : Reach} {base n : Nat} {t : TypeId} {v : Value} (ht : (match Tryz.prog.underlying t with | some (.struct _) => true | some (.array _ _) => true | _ => false) = true) (hc : Tryz.prog.cellsOf t = n)
    (hts : Tryz.prog.cellTypes Tryz.prog.depth t = some (List.replicate n 3)) (hv : Value.okWide Tryz.prog W r base t v) : ∃ l : List Int, l.length = n ∧ v = .agg (l.map (Value.int .i64)).toArray := by
  have h : ∃ cs, v = .agg cs ∧ cs.size = Tryz.prog.cellsOf t ∧ Row.okWide Tryz.prog W r base t cs := by
    unfold Value.okWide at hv
    cases hu : Tryz.prog.underlying t with
    | none => rw [hu] at ht; cases ht
    | some d => rw [hu] at ht hv; cases d <;> first | exact hv | cases ht
  obtain ⟨cs, rfl, hsz, ts, hts', _, hcell⟩ := h
  rw [hts] at hts'
  cases hts'
  have hall : ∀ x ∈ cs.toList, ∃ a, x = Value.int .i64 a := by
    intro x hx
    obtain ⟨i, hi⟩ := List.mem_iff_getElem?.1 hx
    obtain ⟨u, hu, hk⟩ := hcell i x (by simpa using hi)
    have : u = 3 := List.eq_of_mem_replicate (List.mem_of_getElem? hu)
    subst this
    unfold Cell.okWide Cell.ok at hk
    rw [Tryz.underlying3] at hk
    cases x <;> simp at hk
    exact ⟨_, by rw [hk.1]⟩
  have key : ∀ L : List Value, (∀ x ∈ L, ∃ a, x = Value.int .i64 a) → ∃ l : List Int, L = l.map (Value.int .i64) := by
    intro L
    induction L with
    | nil => exact fun _ => ⟨[], rfl⟩
    | cons x L ih =>
      intro hL
      obtain ⟨a, rfl⟩ := hL x (by simp)
      obtain ⟨l, rfl⟩ := ih (fun y hy => hL y (by simp [hy]))
      exact ⟨a :: l, rfl⟩
  obtain ⟨l, hl⟩ := key _ hall
  refine ⟨l, ?_, ?_⟩
  · have : cs.toList.length = n := by simpa using hsz.trans hc
    rw [hl, List.length_map] at this; exact this
  · rw [← hl]

theorem list_n3 {α : Type} {l : List α} (h : l.length = 3) : ∃ a0 a1 a2, l = [a0, a1, a2] := by
  match l, h with
  | [a0, a1, a2], _ => exact ⟨_, _, _, rfl⟩
theorem agg_n3 {W : World} {r : Reach} {base : Nat} {v : Value} (hv : Value.okWide Tryz.prog W r base 82 v) : ∃ a0 a1 a2 : Int, v = .agg #[.int .i64 a0, .int .i64 a1, .int .i64 a2] := by
  obtain ⟨l, hl, rfl⟩ := agg_ints (n := 3) (by kernel_rfl) (by kernel_rfl) (by kernel_rfl) hv
  obtain ⟨a0, a1, a2, rfl⟩ := list_n3 hl
  exact ⟨_, _, _, rfl⟩


/-- the i-th number, the i-th bit with its context, of a slice of them -/
def IntAt (W : World) (po : Option Addr) (i : Nat) (z : Int) : Prop := ∃ b off, po = some ⟨b, off, none⟩ ∧ b < W.heap.size ∧ W.cell? ⟨b, off + i, none⟩ = some (.int .i64 z)
def BitAt (W : World) (po : Option Addr) (i : Nat) (x y : Int) : Prop := ∃ b off, po = some ⟨b, off, none⟩ ∧ b < W.heap.size ∧ W.cell? ⟨b, off + i * 2, none⟩ = some (.int .i64 x) ∧ W.cell? ⟨b, off + i * 2 + 1, none⟩ = some (.int .i64 y)
theorem opened_ints {H : Type} {enc : TypeId × Value → H} {W : World} {b0 : Nat} {r : Reach} {v : Value} {d : DataW H} {p : List MemPlace} (hv : Value.okWide Tryz.prog W r b0 22 v) (h : DataW.Trod enc Tryz.prog W 0 (fun _ => true) true 22 v d p) :
    ∃ (po : Option Addr) (n c : Nat) (zs : List Int), v = .slice po n c ∧ n ≤ 9223372036854775807 ∧
      (∀ i, i < n → IntAt W po i (zs.getD i 0)) := by
  obtain ⟨a0, len, cap, rfl⟩ := okWide_slice Tryz.underlying22 hv
  obtain ⟨fuel, hf⟩ := h
  rcases open_ints Tryz.underlying22 Tryz.underlying3 (by kernel_rfl) hf with ⟨hcs, _⟩ | ⟨a, len', cap', zs, hcs, _, hl, hm, hz, _, hcell, _⟩
  · simp [Value.cells] at hcs
    obtain ⟨rfl, rfl, rfl⟩ := hcs
    exact ⟨none, 0, 0, [], rfl, by omega, fun i hi => by omega⟩
  · simp [Value.cells] at hcs
    obtain ⟨rfl, rfl, rfl⟩ := hcs
    simp only [if_true] at hz
    refine ⟨some a, len, cap, zs, rfl, by unfold maxLen at hm; omega, fun i hi => ?_⟩
    obtain ⟨b, off, spot⟩ := a
    have hc := hcell i (by omega)
    have hspot : spot = none := by simpa [Addr.add] using World.cell?_spot (hcell 0 (by omega))
    subst hspot
    have hadd : (⟨b, off, none⟩ : Addr).add i = ⟨b, off + i, none⟩ := by unfold Addr.add; split <;> simp_all
    rw [hadd] at hc
    exact ⟨b, off, rfl, block_lt_of_cell hc, hc⟩
theorem add_at {b off i j : Nat} : ((⟨b, off, none⟩ : Addr).add i).add j = ⟨b, off + i + j, none⟩ := by
  unfold Addr.add; by_cases h : i = 0 <;> by_cases h2 : j = 0 <;> simp [h, h2]
theorem spot_of {w : World} {base n : Nat} {a : Addr} {cs : List Value} (hn : 0 < n) (h : w.cells? base (a.add (0 * n)) n = some cs) : a.spot = none := by
  have h0 := (World.cells?_some h).2.2 0 hn
  have hl := (World.cells?_some h).2.1
  rw [List.getElem?_eq_getElem (by omega)] at h0
  simpa [Addr.add] using World.cell?_spot h0
theorem open_byte {W : World} {r : Reach} {base : Nat} {v : Value} (hv : Value.okWide Tryz.prog W r base 5 v) : ∃ a : UInt8, v = .int .u8 (a.toNat : Int) := by
  have h : ∃ a : Int, v = .int .u8 a ∧ 0 ≤ a ∧ a ≤ 255 := by
    unfold Value.okWide Cell.okWide Cell.ok at hv
    rw [Tryz.underlying5] at hv
    cases v <;> simp at hv
    obtain ⟨rfl, h0, h1⟩ := hv
    exact ⟨_, rfl, Int.le_trans (show (0 : Int) ≤ IntKind.u8.min by decide) h0, Int.le_trans h1 (show IntKind.u8.max ≤ 255 by decide)⟩
  obtain ⟨a, rfl, h0, h1⟩ := h
  exact ⟨UInt8.ofNat a.toNat, by rw [UInt8.toNat_ofNat']; congr 1; omega⟩
end Go.Proofs.YtfncldaodbfakaaGreat.Z
