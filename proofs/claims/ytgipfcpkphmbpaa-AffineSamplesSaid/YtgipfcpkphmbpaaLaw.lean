/-
  From a law's walk to its row: what the law returns is 'true', and nothing that was there before has changed.
-/
import Derived.Test.YtgipfcpkphmbpaaPos
import Derived.WalkKit
import Derived.ProofKit
import Derived.OpenShut
import Derived.SizedLaws
import Derived.JoinedCond
import Derived.Lib.Hide
namespace Go.Proofs.Ytgipfcpkphmbpaa
open Go.ChangeShapes Go.WideShapes Go.ChangeAt Go.RowKit
set_option maxRecDepth 100000

theorem own : ownKnob Try.prog.godebug = none := by kernel_rfl
theorem laidOut : laidOutB Try.prog = true := by kernel_rfl

theorem trodAll_below {H : Type} {enc : TypeId × Value → H} {W W' : World} (hb : Below W.heap.size W W') : ∀ (ts : List TypeId) (vs : List Value) (ds : List (DataW H)) (ps : List MemPlace),
    (∀ t ∈ ts, Try.prog.readableRec t = true ∧ t < Try.prog.types.size) → DataW.TrodAll enc Try.prog W 0 (fun _ => true) true ts vs ds ps → (∀ x ∈ ps, x.block < W.heap.size) →
    DataW.TrodAll enc Try.prog W' 0 (fun b => decide (b < W.heap.size)) true ts vs ds ps
  | [], vs, ds, ps, _, h, _ => by
    obtain ⟨rfl, rfl, rfl⟩ := trodAll_nil h
    exact trodAll_mk0
  | t :: ts, vs, ds, ps, hr, h, hp => by
    obtain ⟨v, vs', d, ds', p, q, rfl, rfl, rfl, h0, h1⟩ := trodAll_cons h
    have ht := hr t (by simp)
    exact trodAll_cons_mk (Below.trod laidOut ht.1 ht.2 h0 hb (fun x hx => hp x (by simp [hx]))) (trodAll_below hb ts vs' ds' q (fun t h => hr t (by simp [h])) h1 (fun x hx => hp x (by simp [hx])))

theorem law_post {H : Type} {enc : TypeId × Value → H} {f : Func} {s : ChangeSpec} {W W' : World} {args : Array Value} {ds gs : List (DataW H)} {before : List MemPlace}
    (hW : DataW.Whole enc Try.prog f.params.toList s.vars false W args.toList ds gs before) (hv : s.vars = []) (hres : f.resultTypes = #[4])
    (hspec : s.fn H (ds ++ gs) = { results := [.lit (.bool true)], args := ds }) (hr : ∀ t ∈ f.params.toList, Try.prog.readableRec t = true ∧ t < Try.prog.types.size) (hb : Below W.heap.size W W') :
    s.post enc Try.prog f false true false false W args (.bool true) W' := by
  have hW' := hW
  obtain ⟨p, q, hA, hV, rfl, hfz, hnd⟩ := hW
  rw [hv] at hV
  obtain ⟨rfl, rfl⟩ := trodVars_none hV
  refine ⟨ds, [], p ++ [], [], p, [], by simpa using hW', ?_, ?_, ?_, hb.frame _, fun h => by cases h⟩
  · rw [hspec, hres]; exact trodAll_mk1 (shut_bool Try.underlying4 _)
  · rw [hspec]; exact trodAll_below hb _ _ _ _ hr hA (fun x hx => by simpa using hW'.lt x (by simp [hx]))
  · rw [hspec, hv]; rfl

/-- an argument that is an array or a struct of ints -/
theorem agg_ints {W : World} {r : Reach} {base n : Nat} {t : TypeId} {v : Value} (ht : (match Try.prog.underlying t with | some (.struct _) => true | some (.array _ _) => true | _ => false) = true) (hc : Try.prog.cellsOf t = n)
    (hts : Try.prog.cellTypes Try.prog.depth t = some (List.replicate n 3)) (hv : Value.okWide Try.prog W r base t v) : ∃ l : List Int, l.length = n ∧ v = .agg (l.map (Value.int .i64)).toArray := by
  have h : ∃ cs, v = .agg cs ∧ cs.size = Try.prog.cellsOf t ∧ Row.okWide Try.prog W r base t cs := by
    unfold Value.okWide at hv
    cases hu : Try.prog.underlying t with
    | none => rw [hu] at ht; cases ht
    | some d => rw [hu] at ht hv; cases d <;> first | exact hv | cases ht
  obtain ⟨cs, rfl, hsz, ts, hts', _, hcell⟩ := h
  rw [hts] at hts'
  cases hts'
  have hall : ∀ x ∈ cs.toList, ∃ a, x = Value.int .i64 a := by
    intro x hx
    obtain ⟨i, hi⟩ := List.mem_iff_getElem?.1 hx
    obtain ⟨u, hu, hk⟩ := hcell i x (by simpa using hi)
    have : u = 3 := List.eq_of_mem_replicate (List.mem_of_getElem? hu)
    subst this
    unfold Cell.okWide Cell.ok at hk
    rw [Try.underlying3] at hk
    cases x <;> simp at hk
    exact ⟨_, by rw [hk.1]⟩
  have key : ∀ L : List Value, (∀ x ∈ L, ∃ a, x = Value.int .i64 a) → ∃ l : List Int, L = l.map (Value.int .i64) := by
    intro L
    induction L with
    | nil => exact fun _ => ⟨[], rfl⟩
    | cons x L ih =>
      intro hL
      obtain ⟨a, rfl⟩ := hL x (by simp)
      obtain ⟨l, rfl⟩ := ih (fun y hy => hL y (by simp [hy]))
      exact ⟨a :: l, rfl⟩
  obtain ⟨l, hl⟩ := key _ hall
  refine ⟨l, ?_, ?_⟩
  · have : cs.toList.length = n := by simpa using hsz.trans hc
    rw [hl, List.length_map] at this; exact this
  · rw [← hl]

theorem list_rect {α : Type} {l : List α} (h : l.length = 4) : ∃ a0 a1 a2 a3, l = [a0, a1, a2, a3] := by
  match l, h with
  | [a0, a1, a2, a3], _ => exact ⟨_, _, _, _, rfl⟩
theorem agg_rect {W : World} {r : Reach} {base : Nat} {v : Value} (hv : Value.okWide Try.prog W r base 51 v) : ∃ a0 a1 a2 a3 : Int, v = .agg #[.int .i64 a0, .int .i64 a1, .int .i64 a2, .int .i64 a3] := by
  obtain ⟨l, hl, rfl⟩ := agg_ints (n := 4) (by kernel_rfl) (by kernel_rfl) (by kernel_rfl) hv
  obtain ⟨a0, a1, a2, a3, rfl⟩ := list_rect hl
  exact ⟨_, _, _, _, rfl⟩

theorem list_n2 {α : Type} {l : List α} (h : l.length = 2) : ∃ a0 a1, l = [a0, a1] := by
  match l, h with
  | [a0, a1], _ => exact ⟨_, _, rfl⟩
theorem agg_n2 {W : World} {r : Reach} {base : Nat} {v : Value} (hv : Value.okWide Try.prog W r base 72 v) : ∃ a0 a1 : Int, v = .agg #[.int .i64 a0, .int .i64 a1] := by
  obtain ⟨l, hl, rfl⟩ := agg_ints (n := 2) (by kernel_rfl) (by kernel_rfl) (by kernel_rfl) hv
  obtain ⟨a0, a1, rfl⟩ := list_n2 hl
  exact ⟨_, _, rfl⟩

theorem list_n3 {α : Type} {l : List α} (h : l.length = 3) : ∃ a0 a1 a2, l = [a0, a1, a2] := by
  match l, h with
  | [a0, a1, a2], _ => exact ⟨_, _, _, rfl⟩
theorem list_n4 {α : Type} {l : List α} (h : l.length = 4) : ∃ a0 a1 a2 a3, l = [a0, a1, a2, a3] := by
  match l, h with
  | [a0, a1, a2, a3], _ => exact ⟨_, _, _, _, rfl⟩
theorem agg_n4 {W : World} {r : Reach} {base : Nat} {v : Value} (hv : Value.okWide Try.prog W r base 55 v) : ∃ a0 a1 a2 a3 : Int, v = .agg #[.int .i64 a0, .int .i64 a1, .int .i64 a2, .int .i64 a3] := by
  obtain ⟨l, hl, rfl⟩ := agg_ints (n := 4) (by kernel_rfl) (by kernel_rfl) (by kernel_rfl) hv
  obtain ⟨a0, a1, a2, a3, rfl⟩ := list_n4 hl
  exact ⟨_, _, _, _, rfl⟩

theorem list_q2 {α : Type} {l : List α} (h : l.length = 8) : ∃ a0 a1 a2 a3 a4 a5 a6 a7, l = [a0, a1, a2, a3, a4, a5, a6, a7] := by
  match l, h with
  | [a0, a1, a2, a3, a4, a5, a6, a7], _ => exact ⟨_, _, _, _, _, _, _, _, rfl⟩
theorem list_q3 {α : Type} {l : List α} (h : l.length = 12) : ∃ a0 a1 a2 a3 a4 a5 a6 a7 a8 a9 a10 a11, l = [a0, a1, a2, a3, a4, a5, a6, a7, a8, a9, a10, a11] := by
  match l, h with
  | [a0, a1, a2, a3, a4, a5, a6, a7, a8, a9, a10, a11], _ => exact ⟨_, _, _, _, _, _, _, _, _, _, _, _, rfl⟩
end Go.Proofs.Ytgipfcpkphmbpaa
