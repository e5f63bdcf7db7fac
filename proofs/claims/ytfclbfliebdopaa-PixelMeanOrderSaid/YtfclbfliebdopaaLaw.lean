/-
  From a law's walk to its row: what the law returns is 'true', and nothing that was there before has changed.
-/
import Derived.Test.YtfclbfliebdopaaSane
import Derived.WalkKit
import Derived.ProofKit
import Derived.OpenShut
import Derived.SizedLaws
import Derived.JoinedCond
import Derived.Lib.Hide
namespace Go.Proofs.Ytfclbfliebdopaa
open Go.ChangeShapes Go.WideShapes Go.ChangeAt Go.RowKit

theorem own : ownKnob Try.prog.godebug = none := by kernel_rfl
theorem laidOut : laidOutB Try.prog = true := by kernel_rfl

theorem trodAll_below {H : Type} {enc : TypeId × Value → H} {W W' : World} (hb : Below W.heap.size W W') : ∀ (ts : List TypeId) (vs : List Value) (ds : List (DataW H)) (ps : List MemPlace),
    (∀ t ∈ ts, Try.prog.readableRec t = true ∧ t < Try.prog.types.size) → DataW.TrodAll enc Try.prog W 0 (fun _ => true) true ts vs ds ps → (∀ x ∈ ps, x.block < W.heap.size) →
    DataW.TrodAll enc Try.prog W' 0 (fun b => decide (b < W.heap.size)) true ts vs ds ps
  | [], vs, ds, ps, _, h, _ => by
    obtain ⟨rfl, rfl, rfl⟩ := trodAll_nil h
    exact trodAll_mk0
  | t :: ts, vs, ds, ps, hr, h, hp => by
    obtain ⟨v, vs', d, ds', p, q, rfl, rfl, rfl, h0, h1⟩ := trodAll_cons h
    have ht := hr t (by simp)
    exact trodAll_cons_mk (Below.trod laidOut ht.1 ht.2 h0 hb (fun x hx => hp x (by simp [hx]))) (trodAll_below hb ts vs' ds' q (fun t h => hr t (by simp [h])) h1 (fun x hx => hp x (by simp [hx])))

theorem law_post {H : Type} {enc : TypeId × Value → H} {f : Func} {s : ChangeSpec} {W W' : World} {args : Array Value} {ds gs : List (DataW H)} {before : List MemPlace}
    (hW : DataW.Whole enc Try.prog f.params.toList s.vars false W args.toList ds gs before) (hv : s.vars = []) (hres : f.resultTypes = #[4])
    (hspec : s.fn H (ds ++ gs) = { results := [.lit (.bool true)], args := ds }) (hr : ∀ t ∈ f.params.toList, Try.prog.readableRec t = true ∧ t < Try.prog.types.size) (hb : Below W.heap.size W W') :
    s.post enc Try.prog f false true false false W args (.bool true) W' := by
  have hW' := hW
  obtain ⟨p, q, hA, hV, rfl, hfz, hnd⟩ := hW
  rw [hv] at hV
  obtain ⟨rfl, rfl⟩ := trodVars_none hV
  refine ⟨ds, [], p ++ [], [], p, [], by simpa using hW', ?_, ?_, ?_, hb.frame _, fun h => by cases h⟩
  · rw [hspec, hres]; exact trodAll_mk1 (shut_bool Try.underlying4 _)
  · rw [hspec]; exact trodAll_below hb _ _ _ _ hr hA (fun x hx => by simpa using hW'.lt x (by simp [hx]))
  · rw [hspec, hv]; rfl

/-- an argument that is an array or a struct of ints -/
theorem agg_ints {W : World} {r : Reach} {base n : Nat} {t : TypeId} {v : Value} (ht : (match Try.prog.underlying t with | some (.struct _) => true | some (.array _ _) => true | _ => false) = true) (hc : Try.prog.cellsOf t = n)
    (hts : Try.prog.cellTypes Try.prog.depth t = some (List.replicate n 3)) (hv : Value.okWide Try.prog W r base t v) : ∃ l : List Int, l.length = n ∧ v = .agg (l.map (Value.int .i64)).toArray := by
  have h : ∃ cs, v = .agg cs ∧ cs.size = Try.prog.cellsOf t ∧ Row.okWide Try.prog W r base t cs := by
    unfold Value.okWide at hv
    cases hu : Try.prog.underlying t with
    | none => rw [hu] at ht; cases ht
    | some d => rw [hu] at ht hv; cases d <;> first | exact hv | cases ht
  obtain ⟨cs, rfl, hsz, ts, hts', _, hcell⟩ := h
  rw [hts] at hts'
  cases hts'
  have hall : ∀ x ∈ cs.toList, ∃ a, x = Value.int .i64 a := by
    intro x hx
    obtain ⟨i, hi⟩ := List.mem_iff_getElem?.1 hx
    obtain ⟨u, hu, hk⟩ := hcell i x (by simpa using hi)
    have : u = 3 := List.eq_of_mem_replicate (List.mem_of_getElem? hu)
    subst this
    unfold Cell.okWide Cell.ok at hk
    rw [Try.underlying3] at hk
    cases x <;> simp at hk
    exact ⟨_, by rw [hk.1]⟩
  have key : ∀ L : List Value, (∀ x ∈ L, ∃ a, x = Value.int .i64 a) → ∃ l : List Int, L = l.map (Value.int .i64) := by
    intro L
    induction L with
    | nil => exact fun _ => ⟨[], rfl⟩
    | cons x L ih =>
      intro hL
      obtain ⟨a, rfl⟩ := hL x (by simp)
      obtain ⟨l, rfl⟩ := ih (fun y hy => hL y (by simp [hy]))
      exact ⟨a :: l, rfl⟩
  obtain ⟨l, hl⟩ := key _ hall
  refine ⟨l, ?_, ?_⟩
  · have : cs.toList.length = n := by simpa using hsz.trans hc
    rw [hl, List.length_map] at this; exact this
  · rw [← hl]

/-- an argument that is a pixel -/
theorem list_rect {α : Type} {l : List α} (h : l.length = 4) : ∃ a0 a1 a2 a3, l = [a0, a1, a2, a3] := by
  match l, h with
  | [a0, a1, a2, a3], _ => exact ⟨_, _, _, _, rfl⟩
theorem agg_pix {W : World} {r : Reach} {base : Nat} {v : Value} (hv : Value.okWide Try.prog W r base 27 v) : ∃ a0 a1 a2 a3 : Int, v = pv a0 a1 a2 a3 ∧ Ch a0 ∧ Ch a1 ∧ Ch a2 ∧ Ch a3 := by
  have ht : (match Try.prog.underlying 27 with | some (.struct _) => true | some (.array _ _) => true | _ => false) = true := by kernel_rfl
  have hc : Try.prog.cellsOf 27 = 4 := by kernel_rfl
  have hts : Try.prog.cellTypes Try.prog.depth 27 = some (List.replicate 4 5) := by kernel_rfl
  have h : ∃ cs, v = .agg cs ∧ cs.size = Try.prog.cellsOf 27 ∧ Row.okWide Try.prog W r base 27 cs := by
    unfold Value.okWide at hv
    cases hu : Try.prog.underlying 27 with
    | none => rw [hu] at ht; cases ht
    | some d => rw [hu] at ht hv; cases d <;> first | exact hv | cases ht
  obtain ⟨cs, rfl, hsz, ts, hts', _, hcell⟩ := h
  rw [hts] at hts'
  cases hts'
  have hall : ∀ x ∈ cs.toList, ∃ a, x = Value.int .u8 a ∧ Ch a := by
    intro x hx
    obtain ⟨i, hi⟩ := List.mem_iff_getElem?.1 hx
    obtain ⟨u, hu, hk⟩ := hcell i x (by simpa using hi)
    have : u = 5 := List.eq_of_mem_replicate (List.mem_of_getElem? hu)
    subst this
    unfold Cell.okWide Cell.ok at hk
    rw [Try.underlying5] at hk
    cases x <;> simp at hk
    obtain ⟨rfl, h0, h1⟩ := hk
    have h0 := Int.le_trans (show (0 : Int) ≤ IntKind.u8.min by decide) h0
    exact ⟨_, rfl, h0, Int.le_trans h1 (show IntKind.u8.max ≤ 255 by decide)⟩
  obtain ⟨a0, a1, a2, a3, hl⟩ := list_rect (l := cs.toList) (by simpa using hsz.trans hc)
  rw [hl] at hall
  obtain ⟨x0, rfl, c0⟩ := hall a0 (by simp)
  obtain ⟨x1, rfl, c1⟩ := hall a1 (by simp)
  obtain ⟨x2, rfl, c2⟩ := hall a2 (by simp)
  obtain ⟨x3, rfl, c3⟩ := hall a3 (by simp)
  exact ⟨x0, x1, x2, x3, by show Value.agg cs = _; rw [show cs = cs.toList.toArray by simp, hl], c0, c1, c2, c3⟩
theorem open_u8 {W : World} {r : Reach} {base : Nat} {v : Value} (hv : Value.okWide Try.prog W r base 5 v) : ∃ a : Int, v = .int .u8 a ∧ Ch a := by
  unfold Value.okWide Cell.okWide Cell.ok at hv
  rw [Try.underlying5] at hv
  cases v <;> simp at hv
  obtain ⟨rfl, h0, h1⟩ := hv
  have h0 := Int.le_trans (show (0 : Int) ≤ IntKind.u8.min by decide) h0
  exact ⟨_, rfl, h0, Int.le_trans h1 (show IntKind.u8.max ≤ 255 by decide)⟩

theorem list_n2 {α : Type} {l : List α} (h : l.length = 2) : ∃ a0 a1, l = [a0, a1] := by
  match l, h with
  | [a0, a1], _ => exact ⟨_, _, rfl⟩
theorem agg_n2 {W : World} {r : Reach} {base : Nat} {v : Value} (hv : Value.okWide Try.prog W r base 28 v) : ∃ a0 a1 : Int, v = .agg #[.int .i64 a0, .int .i64 a1] := by
  obtain ⟨l, hl, rfl⟩ := agg_ints (n := 2) (by kernel_rfl) (by kernel_rfl) (by kernel_rfl) hv
  obtain ⟨a0, a1, rfl⟩ := list_n2 hl
  exact ⟨_, _, rfl⟩

end Go.Proofs.Ytfclbfliebdopaa
