/-
  OctetVarLength: for every integer n, Var's form has one byte for each 7 bits and only its last byte is below 128. No conditions.
-/
import Derived.Test.YtgalkcfcpkkjgaaLaw
import Derived.Test.YtgalkcfcpkkjgaaSane
namespace Go.Proofs.Ytgalkcfcpkkjgaa.VarLen
open Go.ChangeShapes Go.WideShapes Go.ChangeAt Go.RowKit

/-- how many groups are still to come -/
def more (r : Nat) : Nat := if r = 0 then 0 else (Leb.varN r).length
theorem len_step (r : Nat) : (Leb.varN r).length = 1 + more (r / 128) := by
  unfold more
  by_cases h : r < 128
  · rw [Leb.varN_small h, if_pos (by omega)]; rfl
  · rw [Leb.varN_big (by omega), if_neg (by omega)]; simp; omega
theorem more_pos {r : Nat} (h : 0 < r) : more r = 1 + more (r / 128) := by rw [← len_step]; unfold more; rw [if_neg (by omega)]
theorem more_le {r : Nat} (h : r < 18446744073709551616) : more r ≤ 10 := by
  unfold more; split
  · omega
  · exact Leb.varN_len64 h
theorem high (u : Nat) : ∀ i (h : i < (Leb.varN u).length), (128 ≤ ((Leb.varN u)[i]).toNat) ↔ i + 1 < (Leb.varN u).length := by
  induction u using Nat.strongRecOn with
  | ind u ih =>
    by_cases hu : u < 128
    · intro i h
      have e := Leb.varN_small hu
      simp only [e] at h ⊢
      have : i = 0 := by simpa using h
      subst this
      simp [Leb.nat_u8 (show u < 256 by omega)]; omega
    · intro i h
      have e := Leb.varN_big (u := u) (by omega)
      simp only [e] at h ⊢
      rcases i with _ | i
      · have hp := Leb.varN_pos (u / 128)
        rw [List.getElem_cons_zero, Leb.nat_u8 (show u % 128 + 128 < 256 by omega), List.length_cons]
        omega
      · have := ih (u / 128) (by omega) i (by simpa using h)
        simpa using this
theorem len_ge {k : Nat} {u : Nat} (h : 128 ^ k ≤ u) : k + 1 ≤ (Leb.varN u).length := by
  induction k generalizing u with
  | zero => exact Leb.varN_pos u
  | succ k ih =>
    have h1 : 1 ≤ 128 ^ k := Nat.pow_pos (by omega)
    rw [Nat.pow_succ] at h
    rw [Leb.varN_big (by omega)]
    have : 128 ^ k ≤ u / 128 := by rw [Nat.le_div_iff_mul_le (by omega)]; exact h
    have := ih this
    simpa using this
theorem neg_len {n : Int} (h : n < 0) (h1 : -9223372036854775808 ≤ n) : (Leb.varN (u64of n)).length = 10 := by
  have a := Leb.varN_len64 (u64of_lt n)
  have e : (128 : Nat) ^ 9 = 9223372036854775808 := rfl
  have b := len_ge (k := 9) (u := u64of n) (by unfold u64of; omega)
  omega

set_option maxHeartbeats 1000000 in
set_option maxRecDepth 100000 in
theorem walk (n : Int) (w : World) (hn1 : -9223372036854775808 ≤ n) (hn2 : n ≤ 9223372036854775807) : Calls Try.prog 7 #[.int .i64 n] w fun e w' => e = .returned (.bool true) ∧ Below w.heap.size w w' := by
  have HV := Lib.hid (fun w => var_any n w)
  have hu := wrap_u64of n
  have hl := u64of_lt n
  have HN : Hid (n < 0 → (Leb.varN (u64of n)).length = 10) := fun h => neg_len h hn1
  generalize u64of n = u at hu hl HV HN
  have HL : Hid ((Leb.varN u).length = 1 + more (u / 128)) := len_step u
  have HH : Hid (∀ i (h : i < (str (Leb.varN u)).size), (128 ≤ (((str (Leb.varN u))[i]).toNat : Int)) ↔ (i : Int) < ((str (Leb.varN u)).size : Int) - 1) := by
    intro i h
    have h2 : i < (Leb.varN u).length := by rw [str_size] at h; exact h
    have := high u i h2
    have e : (((str (Leb.varN u))[i]).toNat) = ((Leb.varN u)[i]).toNat := by simp [str, ByteArray.getElem_eq_getElem_data]
    generalize (((str (Leb.varN u))[i]).toNat) = y at e ⊢
    rw [str_size]; omega
  have HZ : Hid ((str (Leb.varN u)).size = (Leb.varN u).length) := str_size _
  have hz10 : (str (Leb.varN u)).size ≤ 10 := by rw [str_size]; exact Leb.varN_len64 hl
  generalize hsv : str (Leb.varN u) = sv at HV HH HZ hz10
  clear hsv
  go_enter Try.func7, Try.ntmps7
  go_wp2_with (first
    | (go_at_call 13; (with_reducible refine (sane_any _).mono ?_); rintro e w1 ⟨rfl, hb1⟩)
    | (go_at_call 16; (with_reducible refine (Below.call (w0 := w) ?_ (HV.out _)).mono ?_); (focus assumption); rintro e w2 ⟨rfl, hb2⟩))
  clear hu
  have HB := Lib.hid hb2
  clear hb1 hb2 HV
  go_loop [5, 6] (fun a r => ∃ (x y : Nat), a = .int .i64 x ∧ r = .int .u64 y ∧ Hid (1 + more (u / 128) = x + more y) ∧ x + more y ≤ 11 ∧ y < 18446744073709551616) (fun _ r => (intOf r).toNat)
  case atStart => exact ⟨1, u / 128, rfl, val_int (by omega), rfl, by have := more_le (r := u / 128) (by omega); omega, by omega⟩
  case round =>
    obtain ⟨x, y, rfl, rfl, H1, hx, hy⟩ := hrel
    by_cases hy0 : 0 < y
    · have hm := more_pos hy0
      have HM := Lib.hid hm
      have hx1 : x + (1 + more (y / 128)) ≤ 11 := by rw [← HM.out]; exact hx
      clear hm hx
      go_wp2
      go_round
      case rel => exact ⟨x + 1, y / 128, by go_num, val_int (by omega), by have := H1.out; rw [HM.out] at this; unfold Hid; omega, by omega, by omega⟩
      case measure => simp [intOf]; omega
    · obtain rfl : y = 0 := by omega
      obtain rfl : x = sv.size := by have h1 := H1.out; have h2 := HL.out; have h3 := HZ.out; have h4 : more 0 = 0 := rfl; omega
      have h10 : n < 0 → (((sv.size : Nat) : Int) == 10) = true := fun h => by have h1 := HN.out h; have h2 := HZ.out; simp; omega
      have H10 := Lib.hid h10; clear h10
      clear hx hy
      go_wp2
      go_loop [7] (fun i => ∃ k : Nat, k ≤ sv.size ∧ i = .int .i64 k) (fun i => sv.size - (intOf i).toNat)
      case atStart => exact ⟨0, Nat.zero_le _, rfl⟩
      case round =>
        obtain ⟨k, hk, rfl⟩ := hrel
        by_cases hlt : k < sv.size
        · have hh := HH.out k hlt
          go_wp2
          go_round
          case rel => exact ⟨k + 1, by omega, by go_num⟩
          case measure => simp [intOf]; omega
        · obtain rfl : k = sv.size := by omega
          by_cases hneg : n < 0
          · have h10 := H10.out hneg
            go_wp2
            go_ret
            exact ⟨rfl, HB.out⟩
          · have hd : decide (0 ≤ n) = true := by simp; omega
            go_wp2
            go_ret
            exact ⟨rfl, HB.out⟩

set_option maxRecDepth 100000 in
theorem lifted (os : Os) (started : os.Started) (H : Type) (enc : TypeId × Value → H) :
    ReturnsInHanded {} Try.checked os 7 .any (Rows.octetVarLengthSpec.pre6 enc Try.prog Try.f7 Rows.octetVarLengthRow.domain false) (Rows.octetVarLengthSpec.post enc Try.prog Try.f7 false true false false) := by
  refine returnsInHanded_of_change_sized (C := Try.checked) own started (by kernel_rfl) Try.func7
    (ChangeSpec.witness6 (enc := enc) (C := Try.checked) false ⟨#[], #[.int .i64 0], []⟩ 8 (by kernel_rfl) (by kernel_rfl) (by kernel_rfl) (by kernel_rfl)) ?_
  intro W base args ds gs before hval0 hW _ _ _
  have hval : ∀ (j : Nat) t v, Try.f7.params[j]? = some t → args[j]? = some v → Value.okWide Try.prog W .any base t v := hval0
  have hW' := hW
  obtain ⟨p, q, hA0, hV, rfl, hfz, hnd⟩ := hW
  have hA : DataW.TrodAll enc Try.prog W 0 (fun _ => true) true Try.f7.params.toList args.toList ds p := hA0
  rw [Try.params7] at hA hval
  obtain ⟨v0, d0, rfl, rfl, h0⟩ := trodAll_one hA
  obtain ⟨rfl, rfl⟩ := trodVars_none hV
  obtain ⟨n, rfl, rfl, rfl, wn⟩ := open_int Try.underlying3 (hval 0 3 v0 rfl rfl) h0
  have hn : -9223372036854775808 ≤ n ∧ n ≤ 9223372036854775807 := by simpa [Lit.wf, IntKind.min, IntKind.max, IntKind.signed, IntKind.bits] using wn
  refine (walk n W hn.1 hn.2).mono fun e W' ⟨he, hb⟩ => ?_
  subst he
  exact ⟨_, rfl, law_post hW' rfl (by kernel_rfl) rfl (by intro t ht; rw [Try.params7] at ht; simp at ht; subst ht; exact ⟨by kernel_rfl, of_decide_eq_true (by kernel_rfl)⟩) hb⟩

theorem holds : Rows.OctetVarLengthSaid :=
  OpenClaim.holds_of_wide 7 Try.f7 rfl rfl rfl rfl rfl rfl rfl ⟨rfl, rfl, rfl, rfl, rfl⟩ rfl rfl rfl rfl rfl (by kernel_rfl) Try.func7 (by kernel_rfl)
    (of_decide_eq_true (by kernel_rfl)) (by unfold Func.isWrapper; first | (rw [if_pos (by decide +kernel)]; kernel_rfl) | (rw [if_neg (by decide +kernel)]; exact ⟨rfl, rfl⟩))
    (fun os started H enc _ => lifted os started H enc)
end Go.Proofs.Ytgalkcfcpkkjgaa.VarLen
