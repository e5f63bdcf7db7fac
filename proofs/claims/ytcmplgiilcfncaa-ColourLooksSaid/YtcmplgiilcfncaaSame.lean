/-
  The reference's Same; the statements' helpers some and Made.
-/
import Derived.Test.YtcmplgiilcfncaaOwn
import Derived.Test.YtcmplgiilcfncaaInv
import Derived.Laws.BitsAllLaws
import Derived.Laws.AppendOwnNone
namespace Go.Proofs.Ytcmplgiilcfncaa
open Go.RowKit
variable {w : World}

theorem eq_of_cg {a b : List Int} (hl : a.length = b.length) (h : ∀ i, i < a.length → cg a i = cg b i) : a = b := by
  apply List.ext_getElem hl
  intro i h1 h2
  have := h i h1
  simpa [cg, List.getD, h1, h2] using this
/-- an element of a slice in memory -/
theorem Cm.elem {v : Value} {c : List Int} (h : Cm w v c) : ∃ po cap, v = .slice po c.length cap ∧ (c.length ≤ cap ∧ cap ≤ 9223372036854775807) ∧ ∀ V, Below w.heap.size w V → ∀ i, i < c.length → ∃ b off, po = some ⟨b, off, none⟩ ∧ V.cell? ⟨b, off + i, none⟩ = some (.int .i64 (cg c i)) := by
  obtain ⟨po, cap, rfl, h1, h2, h3⟩ := h
  refine ⟨po, cap, rfl, ⟨h1, h2⟩, fun V hV i hi => ?_⟩
  obtain ⟨b, off, rfl, hr⟩ := h3 (by omega)
  exact ⟨b, off, rfl, (hr.later hV).at' i hi⟩
/-- an argument that is a slice of the numbers c -/
def Ca (w : World) (v : Value) (c : List Int) : Prop := (v = .slice none 0 0 ∧ c = []) ∨ ∃ b off cap, v = .slice (some ⟨b, off, none⟩) c.length cap ∧ c.length ≤ cap ∧ cap ≤ 9223372036854775807 ∧ Row w b off c
theorem Ca.later {w w' : World} {v : Value} {c : List Int} (h : Ca w v c) (hb : Below w.heap.size w w') : Ca w' v c := by
  rcases h with h | ⟨b, off, cap, h1, h2, h3, h4⟩
  · exact .inl h
  · exact .inr ⟨b, off, cap, h1, h2, h3, h4.later hb⟩
theorem Ca.cm {v : Value} {c : List Int} (h : Ca w v c) : Cm w v c := by
  rcases h with ⟨rfl, rfl⟩ | ⟨b, off, cap, rfl, h2, h3, h4⟩
  · exact cm_nil w
  · exact ⟨_, cap, rfl, h2, h3, fun _ => ⟨b, off, rfl, h4⟩⟩
theorem i64_mask (k : Nat) (hk : k ≤ 62) (n : Int) : bits .and .i64 n ((2 ^ k - 1 : Nat) : Int) = n % ((2 ^ k : Nat) : Int) := by
  have hp : 2 ^ k ≤ 2 ^ 62 := Nat.pow_le_pow_right (by omega) hk
  have hp0 := Nat.two_pow_pos k
  have hm : (BitVec.ofInt 64 ((2 ^ k - 1 : Nat) : Int)).toNat = 2 ^ k - 1 := by
    rw [BitVec.ofInt_natCast, BitVec.toNat_ofNat]; exact Nat.mod_eq_of_lt (by omega)
  have key : (BitVec.ofInt 64 n &&& BitVec.ofInt 64 ((2 ^ k - 1 : Nat) : Int)).toNat = (n % ((2 ^ 64 : Nat) : Int)).toNat % 2 ^ k := by
    rw [BitVec.toNat_and, BitVec.toNat_ofInt, hm, Nat.and_two_pow_sub_one_eq_mod]
  have hn : (((n % ((2 ^ 64 : Nat) : Int)).toNat % 2 ^ k : Nat) : Int) = n % ((2 ^ k : Nat) : Int) := by
    rw [Int.natCast_emod, Int.toNat_of_nonneg (by omega)]
    exact Int.emod_emod_of_dvd n (Int.natCast_dvd_natCast.2 (Nat.pow_dvd_pow 2 (by omega)))
  show IntKind.i64.wrap ((BitVec.ofInt 64 n &&& BitVec.ofInt 64 ((2 ^ k - 1 : Nat) : Int)).toNat : Nat) = _
  rw [key, hn]
  have h1 : 0 ≤ n % ((2 ^ k : Nat) : Int) := Int.emod_nonneg _ (by omega)
  have h2 : n % ((2 ^ k : Nat) : Int) < ((2 ^ k : Nat) : Int) := Int.emod_lt_of_pos _ (by omega)
  exact IntWalk.i64_in _ ⟨by omega, by omega⟩
theorem cg_take {c : List Int} {m i : Nat} (h : i < m) : cg (c.take m) i = cg c i := by
  unfold cg
  simp [List.getD, h]

end Go.Proofs.Ytcmplgiilcfncaa
