/-
  The laws' arguments: colours; what all laws of the chapter share.
-/
import Derived.Test.YtcmplgiilcfncaaKBase
import Derived.Test.YtcmplgiilcfncaaKSane
namespace Go.Proofs.Ytcmplgiilcfncaa.K
open Go.ChangeShapes Go.WideShapes Go.ChangeAt Go.RowKit

set_option maxRecDepth 100000 in
/-- an argument that is an array of ints -/
theorem agg_ints {W : World} {r : Reach} {base n : Nat} {t : TypeId} {v : Value} (ht : (match Try.prog.underlying t with | some (.struct _) => true | some (.array _ _) => true | _ => false) = true) (hc : Try.prog.cellsOf t = n)
    (hts : Try.prog.cellTypes Try.prog.depth t = some (List.replicate n 3)) (hv : Value.okWide Try.prog W r base t v) : ∃ l : List Int, l.length = n ∧ v = .agg (l.map (Value.int .i64)).toArray := by
  have h : ∃ cs, v = .agg cs ∧ cs.size = Try.prog.cellsOf t ∧ Row.okWide Try.prog W r base t cs := by
    unfold Value.okWide at hv
    cases hu : Try.prog.underlying t with
    | none => rw [hu] at ht; cases ht
    | some d => rw [hu] at ht hv; cases d <;> first | exact hv | cases ht
  obtain ⟨cs, rfl, hsz, ts, hts', _, hcell⟩ := h
  rw [hts] at hts'
  cases hts'
  have hall : ∀ x ∈ cs.toList, ∃ a, x = Value.int .i64 a := by
    intro x hx
    obtain ⟨i, hi⟩ := List.mem_iff_getElem?.1 hx
    obtain ⟨u, hu, hk⟩ := hcell i x (by simpa using hi)
    have : u = 3 := List.eq_of_mem_replicate (List.mem_of_getElem? hu)
    subst this
    unfold Cell.okWide Cell.ok at hk
    rw [Try.underlying3] at hk
    cases x <;> simp at hk
    exact ⟨_, by rw [hk.1]⟩
  have key : ∀ L : List Value, (∀ x ∈ L, ∃ a, x = Value.int .i64 a) → ∃ l : List Int, L = l.map (Value.int .i64) := by
    intro L
    induction L with
    | nil => exact fun _ => ⟨[], rfl⟩
    | cons x L ih =>
      intro hL
      obtain ⟨a, rfl⟩ := hL x (by simp)
      obtain ⟨l, rfl⟩ := ih (fun y hy => hL y (by simp [hy]))
      exact ⟨a :: l, rfl⟩
  obtain ⟨l, hl⟩ := key _ hall
  refine ⟨l, ?_, ?_⟩
  · have : cs.toList.length = n := by simpa using hsz.trans hc
    rw [hl, List.length_map] at this; exact this
  · rw [← hl]
theorem list_c3 {α : Type} {l : List α} (h : l.length = 3) : ∃ a0 a1 a2, l = [a0, a1, a2] := by
  match l, h with
  | [a0, a1, a2], _ => exact ⟨_, _, _, rfl⟩
set_option maxRecDepth 100000 in
theorem agg_col {W : World} {r : Reach} {base : Nat} {v : Value} (hv : Value.okWide Try.prog W r base 25 v) : ∃ a0 a1 a2 : Int, v = ag a0 a1 a2 := by
  obtain ⟨l, hl, rfl⟩ := agg_ints (n := 3) (by kernel_rfl) (by kernel_rfl) (by kernel_rfl) hv
  obtain ⟨a0, a1, a2, rfl⟩ := list_c3 hl
  exact ⟨_, _, _, rfl⟩
theorem list_p2 {α : Type} {l : List α} (h : l.length = 2) : ∃ a0 a1, l = [a0, a1] := by
  match l, h with
  | [a0, a1], _ => exact ⟨_, _, rfl⟩
set_option maxRecDepth 100000 in
theorem agg_p2 {W : World} {r : Reach} {base : Nat} {v : Value} (hv : Value.okWide Try.prog W r base 22 v) : ∃ a0 a1 : Int, v = .agg #[.int .i64 a0, .int .i64 a1] := by
  obtain ⟨l, hl, rfl⟩ := agg_ints (n := 2) (by kernel_rfl) (by kernel_rfl) (by kernel_rfl) hv
  obtain ⟨a0, a1, rfl⟩ := list_p2 hl
  exact ⟨_, _, rfl⟩
theorem tmod_bd (a : Int) {m : Int} (h : 0 < m) : -m < a.tmod m ∧ a.tmod m < m := by
  have h1 := Int.tmod_lt_of_pos a h
  have h2 := Int.tmod_lt_of_pos (-a) h
  rw [Int.neg_tmod] at h2
  omega
end Go.Proofs.Ytcmplgiilcfncaa.K
