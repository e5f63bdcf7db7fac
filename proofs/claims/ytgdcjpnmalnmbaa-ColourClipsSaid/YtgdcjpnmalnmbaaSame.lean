/-
  The reference's Same; the statements' helpers some and Made.
-/
import Derived.Test.YtgdcjpnmalnmbaaOwn
import Derived.Test.YtgdcjpnmalnmbaaInv
import Derived.Laws.BitsAllLaws
import Derived.Laws.AppendOwnNone
namespace Go.Proofs.Ytgdcjpnmalnmbaa
open Go.RowKit
variable {w : World}

theorem eq_of_cg {a b : List Int} (hl : a.length = b.length) (h : ∀ i, i < a.length → cg a i = cg b i) : a = b := by
  apply List.ext_getElem hl
  intro i h1 h2
  have := h i h1
  simpa [cg, List.getD, h1, h2] using this
/-- an element of a slice in memory -/
theorem Cm.elem {v : Value} {c : List Int} (h : Cm w v c) : ∃ po cap, v = .slice po c.length cap ∧ (c.length ≤ cap ∧ cap ≤ 9223372036854775807) ∧ ∀ V, Below w.heap.size w V → ∀ i, i < c.length → ∃ b off, po = some ⟨b, off, none⟩ ∧ V.cell? ⟨b, off + i, none⟩ = some (.int .i64 (cg c i)) := by
  obtain ⟨po, cap, rfl, h1, h2, h3⟩ := h
  refine ⟨po, cap, rfl, ⟨h1, h2⟩, fun V hV i hi => ?_⟩
  obtain ⟨b, off, rfl, hr⟩ := h3 (by omega)
  exact ⟨b, off, rfl, (hr.later hV).at' i hi⟩
set_option maxRecDepth 100000 in
set_option maxHeartbeats 2000000 in
theorem same_any (a b : List Int) (u v : Value) (s : Bool) (w : World) (ha : Cm w u a) (hb : Cm w v b) (hs : s = decide (a = b)) :
    Calls Try.prog 29 #[u, v] w fun e w' => e = .returned (.bool s) ∧ Below w.heap.size w w' := by
  obtain ⟨pa, la, rfl, _, HA⟩ := ha.elem
  obtain ⟨pb, lb, rfl, _, HB⟩ := hb.elem
  have HA' := Lib.hid HA
  have HB' := Lib.hid HB
  have hmax : a.length ≤ 9223372036854775807 := by obtain ⟨_, _, e, h1, h2, _⟩ := ha; omega
  have hmaxb : b.length ≤ 9223372036854775807 := by obtain ⟨_, _, e, h1, h2, _⟩ := hb; omega
  clear HA HB ha hb
  by_cases hl : a.length = b.length
  · have HE : Hid ((∀ i, i < a.length → cg a i = cg b i) → s = true) := fun h => by rw [hs]; exact decide_eq_true (eq_of_cg hl h)
    have HF : Hid (∀ i, i < a.length → cg a i ≠ cg b i → s = false) := fun i _ h => by rw [hs]; exact decide_eq_false (fun e => h (by rw [e]))
    rw [← hl] at HB' ⊢
    clear hs hl hmaxb
    generalize hn : a.length = n at *
    have HN := Lib.hid hn; clear hn
    go_enter Try.func29, Try.ntmps29
    go_wp2
    go_loopw [5] (fun i wr => ∃ k : Nat, k ≤ n ∧ i = .int .i64 k ∧ Hid (∀ j, j < k → cg a j = cg b j) ∧ Hid (Below w.heap.size w wr)) (fun i _ => n - (intOf i).toNat)
    case atStart => exact ⟨0, by omega, rfl, fun j hj => absurd hj (Nat.not_lt_zero _), Below.refl _ _⟩
    case round =>
      obtain ⟨k, hk, rfl, HK, HW⟩ := hrel
      by_cases hlt : k < n
      · obtain ⟨b1, o1, rfl, c1⟩ := HA'.out _ HW.out k hlt
        obtain ⟨b2, o2, rfl, c2⟩ := HB'.out _ HW.out k hlt
        have HK2 : Hid (cg a k = cg b k → ∀ j, j < k + 1 → cg a j = cg b j) := fun h j hj => by
          by_cases he : j = k
          · rw [he]; exact h
          · exact HK.out j (by omega)
        have HF2 := Lib.hid (HF.out k hlt)
        generalize cg a k = x at c1 HK2 HF2
        generalize cg b k = y at c2 HK2 HF2
        go_upto_region 6 with fail
        go_quiet (fail)
        have HB2 : Hid (Below w.heap.size w (wr.drewN nq)) := HW.out.trans ((belowN nq).mono HW.out.size)
        generalize wr.drewN nq = w2 at HB2 ⊢
        by_cases hxy : x = y
        · have HK3 := Lib.hid (HK2.out hxy)
          subst hxy
          clear HF2 HK2
          go_wp2_with fail
          go_roundw
          case rel => exact ⟨k + 1, by omega, by go_num, HK3, HB2⟩
          case measure => simp [intOf]; omega
        · obtain rfl := HF2.out hxy
          have hne : (x != y) = true := by simp [hxy]
          have hne2 : (x == y) = false := by simp [hxy]
          clear hxy HF2 HK2
          go_wp2_with fail
          go_ret
          exact ⟨rfl, HB2.out⟩
      · obtain rfl : k = n := by omega
        obtain rfl := HE.out HK.out
        go_wp2
        go_ret
        exact ⟨rfl, HW.out⟩
  · have : s = false := by rw [hs]; exact decide_eq_false (fun e => hl (by rw [e]))
    subst this
    have hne : ((a.length : Int) != (b.length : Int)) = true := by simp; omega
    have hne2 : (a.length != b.length) = true := by simp; omega
    generalize a.length = n at *
    generalize b.length = m at *
    clear hl hs
    go_enter Try.func29, Try.ntmps29
    go_wp2
    all_goals go_ret
    all_goals exact ⟨rfl, Below.refl _ _⟩

/-- an argument that is a slice of the numbers c -/
def Ca (w : World) (v : Value) (c : List Int) : Prop := (v = .slice none 0 0 ∧ c = []) ∨ ∃ b off cap, v = .slice (some ⟨b, off, none⟩) c.length cap ∧ c.length ≤ cap ∧ cap ≤ 9223372036854775807 ∧ Row w b off c
theorem Ca.later {w w' : World} {v : Value} {c : List Int} (h : Ca w v c) (hb : Below w.heap.size w w') : Ca w' v c := by
  rcases h with h | ⟨b, off, cap, h1, h2, h3, h4⟩
  · exact .inl h
  · exact .inr ⟨b, off, cap, h1, h2, h3, h4.later hb⟩
theorem Ca.cm {v : Value} {c : List Int} (h : Ca w v c) : Cm w v c := by
  rcases h with ⟨rfl, rfl⟩ | ⟨b, off, cap, rfl, h2, h3, h4⟩
  · exact cm_nil w
  · exact ⟨_, cap, rfl, h2, h3, fun _ => ⟨b, off, rfl, h4⟩⟩
theorem i64_mask (k : Nat) (hk : k ≤ 62) (n : Int) : bits .and .i64 n ((2 ^ k - 1 : Nat) : Int) = n % ((2 ^ k : Nat) : Int) := by
  have hp : 2 ^ k ≤ 2 ^ 62 := Nat.pow_le_pow_right (by omega) hk
  have hp0 := Nat.two_pow_pos k
  have hm : (BitVec.ofInt 64 ((2 ^ k - 1 : Nat) : Int)).toNat = 2 ^ k - 1 := by
    rw [BitVec.ofInt_natCast, BitVec.toNat_ofNat]; exact Nat.mod_eq_of_lt (by omega)
  have key : (BitVec.ofInt 64 n &&& BitVec.ofInt 64 ((2 ^ k - 1 : Nat) : Int)).toNat = (n % ((2 ^ 64 : Nat) : Int)).toNat % 2 ^ k := by
    rw [BitVec.toNat_and, BitVec.toNat_ofInt, hm, Nat.and_two_pow_sub_one_eq_mod]
  have hn : (((n % ((2 ^ 64 : Nat) : Int)).toNat % 2 ^ k : Nat) : Int) = n % ((2 ^ k : Nat) : Int) := by
    rw [Int.natCast_emod, Int.toNat_of_nonneg (by omega)]
    exact Int.emod_emod_of_dvd n (Int.natCast_dvd_natCast.2 (Nat.pow_dvd_pow 2 (by omega)))
  show IntKind.i64.wrap ((BitVec.ofInt 64 n &&& BitVec.ofInt 64 ((2 ^ k - 1 : Nat) : Int)).toNat : Nat) = _
  rw [key, hn]
  have h1 : 0 ≤ n % ((2 ^ k : Nat) : Int) := Int.emod_nonneg _ (by omega)
  have h2 : n % ((2 ^ k : Nat) : Int) < ((2 ^ k : Nat) : Int) := Int.emod_lt_of_pos _ (by omega)
  exact IntWalk.i64_in _ ⟨by omega, by omega⟩
theorem cg_take {c : List Int} {m i : Nat} (h : i < m) : cg (c.take m) i = cg c i := by
  unfold cg
  simp [List.getD, h]

end Go.Proofs.Ytgdcjpnmalnmbaa
