/-
  RectDivides: for all integers a and b, Floor and Ceil return what the reference returns, and their products with b enclose a by less than b. No conditions.
-/
import Derived.Test.YtjadccelplnpnaaLaw
namespace Go.Proofs.Ytjadccelplnpnaa.LDivides
open Go.ChangeShapes Go.WideShapes Go.ChangeAt Go.RowKit

theorem wrap_small {n : Int} (h0 : -2000000 < n) (h1 : n < 2000000) : wrap64 n = n := IntWalk.wrap64_in _ ⟨by omega, by omega⟩
theorem tdiv_bd (x y : Int) (hx : -1000000 < x) (hx' : x < 1000000) : -1000000 < x.tdiv y ∧ x.tdiv y < 1000000 := by
  have h1 := Int.natAbs_tdiv_le_natAbs x y
  omega
theorem tmod_bd (x y : Int) : (0 < y → -y < x.tmod y ∧ x.tmod y < y) ∧ (y < 0 → y < x.tmod y ∧ x.tmod y < -y) := by
  refine ⟨fun h => ⟨Int.lt_tmod_of_pos x h, Int.tmod_lt_of_pos x h⟩, fun h => ?_⟩
  have h1 := Int.lt_tmod_of_pos x (show (0 : Int) < -y by omega)
  have h2 := Int.tmod_lt_of_pos x (show (0 : Int) < -y by omega)
  rw [Int.tmod_neg] at h1 h2
  omega
theorem tmod_sign (x y : Int) : (0 ≤ x → 0 ≤ x.tmod y) ∧ (x ≤ 0 → x.tmod y ≤ 0) := by
  refine ⟨fun h => Int.tmod_nonneg y h, fun h => ?_⟩
  have h1 := Int.tmod_nonneg y (show (0 : Int) ≤ -x by omega)
  rw [Int.neg_tmod] at h1
  omega
theorem flo_case (x y : Int) (hx : -1000000 < x) (hx' : x < 1000000) (hy : y ≠ 0) : flo x y = if x.tmod y ≠ 0 ∧ dif x y = true then x.tdiv y - 1 else x.tdiv y := by
  have h := tdiv_bd x y hx hx'
  unfold flo
  have hw : wrap64 (x.tdiv y) = x.tdiv y := wrap_small (by omega) (by omega)
  rw [if_neg (by simpa using hy), hw]
  by_cases h1 : x.tmod y = 0
  · rw [if_neg (by simp [h1]), if_neg (by simp [h1])]
  · cases h2 : dif x y
    · rw [if_neg (by simp), if_neg (by simp)]
    · rw [if_pos (by simp [h1]), if_pos (by simp [h1]), wrap_small (by omega) (by omega)]
theorem cei_case (x y : Int) (hx : -1000000 < x) (hx' : x < 1000000) (hy : y ≠ 0) : cei x y = if x.tmod y ≠ 0 ∧ dif x y = false then x.tdiv y + 1 else x.tdiv y := by
  have h := tdiv_bd x y hx hx'
  unfold cei
  have hw : wrap64 (x.tdiv y) = x.tdiv y := wrap_small (by omega) (by omega)
  rw [if_neg (by simpa using hy), hw]
  by_cases h1 : x.tmod y = 0
  · rw [if_neg (by simp [h1]), if_neg (by simp [h1])]
  · cases h2 : dif x y
    · rw [if_pos (by simp [h1]), if_pos (by simp [h1]), wrap_small (by omega) (by omega)]
    · rw [if_neg (by simp), if_neg (by simp)]
theorem dif_iff (x y : Int) : dif x y = true ↔ (x < 0 ∧ ¬ y < 0 ∨ ¬ x < 0 ∧ y < 0) := by
  unfold dif
  by_cases h1 : x < 0 <;> by_cases h2 : y < 0 <;> simp [h1, h2]
/-- what Floor leaves: x - f y lies on y's side of 0, and is less than y -/
theorem flo_left (x y : Int) (hx : -1000000 < x) (hx' : x < 1000000) (hy : y ≠ 0) :
    (0 < y → 0 ≤ x - flo x y * y ∧ x - flo x y * y < y) ∧ (y < 0 → 0 ≤ -(x - flo x y * y) ∧ -(x - flo x y * y) < -y) := by
  have h1 := tmod_bd x y
  have h2 := tmod_sign x y
  have h3 := Int.tdiv_mul_add_tmod x y
  have h4 := dif_iff x y
  rw [flo_case x y hx hx' hy]
  split
  · rename_i h; rw [Int.sub_mul]; rw [h4] at h; omega
  · rename_i h
    rw [h4] at h
    generalize x.tdiv y * y = q at *
    omega
theorem cei_left (x y : Int) (hx : -1000000 < x) (hx' : x < 1000000) (hy : y ≠ 0) :
    (0 < y → 0 ≤ cei x y * y - x ∧ cei x y * y - x < y) ∧ (y < 0 → 0 ≤ -(cei x y * y - x) ∧ -(cei x y * y - x) < -y) := by
  have h1 := tmod_bd x y
  have h2 := tmod_sign x y
  have h3 := Int.tdiv_mul_add_tmod x y
  have h4 := dif_iff x y
  rw [cei_case x y hx hx' hy]
  split
  · rename_i h
    have h5 : ¬ dif x y = true := by rw [h.2]; decide
    rw [Int.add_mul]; rw [h4] at h5; omega
  · rename_i h
    have h5 : x.tmod y = 0 ∨ dif x y = true := by
      by_cases h6 : x.tmod y = 0
      · exact .inl h6
      · right; cases h7 : dif x y
        · exact absurd ⟨h6, h7⟩ h
        · rfl
    rw [h4] at h5
    generalize x.tdiv y * y = q at *
    omega
theorem flo_zero (x : Int) : flo x 0 = 0 := by unfold flo; rw [if_pos (by decide)]
theorem cei_zero (x : Int) : cei x 0 = 0 := by unfold cei; rw [if_pos (by decide)]

set_option maxHeartbeats 4000000 in
set_option maxRecDepth 100000 in
theorem walk (a b : Int) (w : World) : Calls Try.prog 5 #[.int .i64 a, .int .i64 b] w fun e w' => e = .returned (.bool true) ∧ Below w.heap.size w w' := by
  have hx1 := Int.tmod_lt_of_pos a (show (0 : Int) < 1000000 by omega)
  have hx2 := Int.lt_tmod_of_pos a (show (0 : Int) < 1000000 by omega)
  have hy1 := Int.tmod_lt_of_pos b (show (0 : Int) < 1000 by omega)
  have hy2 := Int.lt_tmod_of_pos b (show (0 : Int) < 1000 by omega)
  go_enter Try.func5, Try.ntmps5
  go_upto_region 6 with (first
    | (go_at_call 13; (with_reducible refine (sane_any _).mono ?_); rintro e w1 ⟨rfl, h1⟩)
    | (go_at_call 25; (with_reducible refine (floor_any _ _ _).mono ?_); rintro e w' ⟨rfl, rfl⟩)
    | (go_at_call 26; (with_reducible refine (ceil_any _ _ _).mono ?_); rintro e w' ⟨rfl, rfl⟩))
  generalize a.tmod 1000000 = x at hx1 hx2 ⊢
  generalize b.tmod 1000 = y at hy1 hy2 ⊢
  go_upto_region 7 with (first
    | (go_at_call 25; (with_reducible refine (floor_any _ _ _).mono ?_); rintro e w' ⟨rfl, rfl⟩)
    | (go_at_call 26; (with_reducible refine (ceil_any _ _ _).mono ?_); rintro e w' ⟨rfl, rfl⟩)
    | (go_at_call 27; (with_reducible refine (refFloor_any _ _ _).mono ?_); rintro e w' ⟨rfl, rfl⟩)
    | (go_at_call 28; (with_reducible refine (refCeil_any _ _ _).mono ?_); rintro e w' ⟨rfl, rfl⟩))
  by_cases hy : y = 0
  · subst hy
    rw [flo_zero, cei_zero]
    go_wp2
    go_ret
    exact ⟨rfl, h1⟩
  · have hf := flo_left x y hx2 hx1 hy
    have hc := cei_left x y hx2 hx1 hy
    have hyb : (y == 0) = false := by simpa using hy
    by_cases hs : y < 0
    · have hf1 := hf.2 hs
      have hc1 := hc.2 hs
      clear hf hc
      obtain ⟨f1, f2⟩ : -3000000 < flo x y * y ∧ flo x y * y < 3000000 := by omega
      obtain ⟨c1, c2⟩ : -3000000 < cei x y * y ∧ cei x y * y < 3000000 := by omega
      obtain ⟨f3, f4⟩ := hf1
      obtain ⟨c3, c4⟩ := hc1
      go_wp2
      all_goals go_ret
      all_goals first | exact ⟨rfl, h1⟩ | (refine ⟨ret_bool ?_, h1⟩; simp; omega)
    · have hf1 := hf.1 (by omega)
      have hc1 := hc.1 (by omega)
      clear hf hc
      obtain ⟨f1, f2⟩ : -3000000 < flo x y * y ∧ flo x y * y < 3000000 := by omega
      obtain ⟨c1, c2⟩ : -3000000 < cei x y * y ∧ cei x y * y < 3000000 := by omega
      obtain ⟨f3, f4⟩ := hf1
      obtain ⟨c3, c4⟩ := hc1
      go_wp2
      all_goals go_ret
      all_goals first | exact ⟨rfl, h1⟩ | (refine ⟨ret_bool ?_, h1⟩; simp; omega)

set_option maxRecDepth 100000 in
theorem lifted (os : Os) (started : os.Started) (H : Type) (enc : TypeId × Value → H) :
    ReturnsInHanded {} Try.checked os 5 .any (Rows.rectDividesSpec.pre6 enc Try.prog Try.f5 Rows.rectDividesRow.domain false) (Rows.rectDividesSpec.post enc Try.prog Try.f5 false true false false) := by
  refine returnsInHanded_of_change_sized (C := Try.checked) own started (by kernel_rfl) Try.func5
    (ChangeSpec.witness6 (enc := enc) (C := Try.checked) false ⟨#[], #[.int .i64 0, .int .i64 0], []⟩ 8 (by kernel_rfl) (by kernel_rfl) (by kernel_rfl) (by kernel_rfl)) ?_
  intro W base args ds gs before hval0 hW _ _ _
  have hval : ∀ (j : Nat) t v, Try.f5.params[j]? = some t → args[j]? = some v → Value.okWide Try.prog W .any base t v := hval0
  have hW' := hW
  obtain ⟨p, q, hA0, hV, rfl, hfz, hnd⟩ := hW
  have hA : DataW.TrodAll enc Try.prog W 0 (fun _ => true) true Try.f5.params.toList args.toList ds p := hA0
  rw [Try.params5] at hA hval
  obtain ⟨v0, v1, d0, d1, p0, p1, rfl, rfl, rfl, h0, h1⟩ := trodAll_two hA
  obtain ⟨rfl, rfl⟩ := trodVars_none hV
  obtain ⟨a, rfl, rfl, rfl, _⟩ := open_int Try.underlying3 (hval 0 3 v0 rfl rfl) h0
  obtain ⟨b, rfl, rfl, rfl, _⟩ := open_int Try.underlying3 (hval 1 3 v1 rfl rfl) h1
  refine (walk a b W).mono fun e W' ⟨he, hb⟩ => ?_
  subst he
  exact ⟨_, rfl, law_post hW' rfl (by kernel_rfl) rfl (by intro t ht; rw [Try.params5] at ht; simp at ht; subst ht; exact ⟨by kernel_rfl, of_decide_eq_true (by kernel_rfl)⟩) hb⟩

theorem holds : Rows.RectDividesSaid :=
  OpenClaim.holds_of_wide 5 Try.f5 rfl rfl rfl rfl rfl rfl rfl ⟨rfl, rfl, rfl, rfl, rfl⟩ rfl rfl rfl rfl rfl (by kernel_rfl) Try.func5 (by kernel_rfl)
    (of_decide_eq_true (by kernel_rfl)) (by unfold Func.isWrapper; first | (rw [if_pos (by decide +kernel)]; kernel_rfl) | (rw [if_neg (by decide +kernel)]; exact ⟨rfl, rfl⟩))
    (fun os started H enc _ => lifted os started H enc)
end Go.Proofs.Ytjadccelplnpnaa.LDivides
