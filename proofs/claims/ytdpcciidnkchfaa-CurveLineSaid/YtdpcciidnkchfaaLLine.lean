/-
  CurveLine: for all counts and arguments, Line answers as the reference does, is valid, and is within one of the argument. No conditions.
-/
import Derived.Test.YtdpcciidnkchfaaLaw
import Derived.Test.YtdpcciidnkchfaaSane
namespace Go.Proofs.Ytdpcciidnkchfaa.LLine
open Go.ChangeShapes Go.WideShapes Go.ChangeAt Go.RowKit


set_option maxHeartbeats 8000000 in
set_option maxRecDepth 100000 in
theorem walk (n : Int) (x : Int) (w : World)  : Calls Try.prog 5 #[.int .i64 n, .int .i64 x] w fun e w' => e = .returned (.bool true) ∧ Below w.heap.size w w' := by
  obtain ⟨m, hm, hm1⟩ := and16 n
  obtain ⟨k, hk, hk2, hk3⟩ := rem256 m
  obtain ⟨y, hy, hy1⟩ := and16 x
  obtain ⟨z, hz⟩ : ∃ z, atv true (lin k) y = z := ⟨_, rfl⟩
  have hz1 := lin_near hk2 hk3 hy1
  rw [← at_val hy1, hz] at hz1
  have hz2 : z - (y : Int) ≤ 1 := by omega
  have hz3 : (y : Int) - z ≤ 1 := by omega
  clear hz1
  have HZ := Lib.hid hz; clear hz
  go_enter Try.func5, Try.ntmps5
  go_upto_region 2 with (go_at_call 15; (with_reducible refine (sane_any _).mono ?_); rintro e w1 ⟨rfl, hb⟩; have BW : Hid (St w [] w1) := (St.start w).later hb; clear hb)
  go_upto_region 3 with fail
  try rw [hk]
  go_upto_region 4 with (go_at_call 22; (with_reducible refine (line_is k _ hk2 hk3).mono ?_); rintro e wB ⟨pB, nB, cB, rfl, hm, hb⟩; have KB := Lib.hid hm; replace BW := Lib.hid (BW.out.later hb); clear hb hm)
  go_upto_region 5 with fail
  have HW : Hid (St wB [] _) := St.start _
  go_upto_region 6 with (go_at_call 20; (with_reducible refine (at_is _ _ true _ z _ (KB.out.later HW.out.below) (by simp [lin_cv hk2 hk3]) HZ.out).mono ?_); rintro e wz ⟨rfl, hb⟩; replace HW := Lib.hid (HW.out.later hb); clear hb)
  go_wp2_with (first
    | (go_at_call 24; (with_reducible refine (refLine_is k _ hk2 hk3).mono ?_); rintro e wz ⟨p3, n3, c3, rfl, hm, hb⟩; have K3 := Lib.hid hm; replace HW := Lib.hid (HW.out.later hb); clear hb hm)
    | (go_at_call 22; (with_reducible refine (line_any n _).mono ?_); rintro e wz ⟨p1, n1, c1, rfl, hm, hb⟩; have K1 := Lib.hid hm; replace HW := Lib.hid (HW.out.later hb); clear hb hm)
    | (go_at_call 24; (with_reducible refine (refLine_any n _).mono ?_); rintro e wz ⟨p2, n2, c2, rfl, hm, hb⟩; have K2 := Lib.hid hm; replace K1 := Lib.hid (K1.out.later hb); replace HW := Lib.hid (HW.out.later hb); clear hb hm)
    | (go_at_call 23; (with_reducible refine (same_lit (lineL n) _ _ _ K1.out K2.out).mono ?_); rintro e wz ⟨rfl, hb⟩; replace HW := Lib.hid (HW.out.later hb); clear hb)
    | (go_at_call 23; (with_reducible refine (same_lit (lin k) _ _ _ (KB.out.later HW.out.below) K3.out).mono ?_); rintro e wz ⟨rfl, hb⟩; replace HW := Lib.hid (HW.out.later hb); clear hb)
    | (go_at_call 18; (with_reducible refine (valid_any _ _ true _ (KB.out.later HW.out.below) (by simp [lin_cv hk2 hk3])).mono ?_); rintro e wz ⟨rfl, hb⟩; replace HW := Lib.hid (HW.out.later hb); clear hb))
  go_ret
  exact ⟨rfl, BW.out.below.trans (HW.out.below.mono BW.out.below.size)⟩

set_option maxRecDepth 100000 in
theorem lifted (os : Os) (started : os.Started) (H : Type) (enc : TypeId × Value → H) :
    ReturnsInHanded {} Try.checked os 5 .any (Rows.curveLineSpec.pre6 enc Try.prog Try.f5 Rows.curveLineRow.domain false) (Rows.curveLineSpec.post enc Try.prog Try.f5 false true false false) := by
  refine returnsInHanded_of_change_sized (C := Try.checked) own started (by kernel_rfl) Try.func5
    (ChangeSpec.witness6 (enc := enc) (C := Try.checked) false ⟨#[], #[.int .i64 0, .int .i64 0], []⟩ 8 (by kernel_rfl) (by kernel_rfl) (by kernel_rfl) (by kernel_rfl)) ?_
  intro W base args ds gs before hval0 hW _ _ _
  have hval : ∀ (j : Nat) t v, Try.f5.params[j]? = some t → args[j]? = some v → Value.okWide Try.prog W .any base t v := hval0
  have hW' := hW
  obtain ⟨p, q, hA0, hV, rfl, hfz, hnd⟩ := hW
  have hA : DataW.TrodAll enc Try.prog W 0 (fun _ => true) true Try.f5.params.toList args.toList ds p := hA0
  rw [Try.params5] at hA hval
  obtain ⟨v0, v1, d0, d1, p0, p1, rfl, rfl, rfl, h0, h1⟩ := trodAll_two hA
  obtain ⟨rfl, rfl⟩ := trodVars_none hV
  obtain ⟨n, rfl, rfl, rfl, _⟩ := open_int Try.underlying3 (hval 0 3 v0 rfl rfl) h0
  obtain ⟨x, rfl, rfl, rfl, _⟩ := open_int Try.underlying3 (hval 1 3 v1 rfl rfl) h1
  refine (walk n x W).mono fun e W' ⟨he, hb⟩ => ?_
  subst he
  exact ⟨_, rfl, law_post hW' rfl (by kernel_rfl) rfl (by intro t ht; rw [Try.params5] at ht; simp at ht; subst ht; exact ⟨by kernel_rfl, of_decide_eq_true (by kernel_rfl)⟩) hb⟩

theorem holds : Rows.CurveLineSaid :=
  OpenClaim.holds_of_wide 5 Try.f5 rfl rfl rfl rfl rfl rfl rfl ⟨rfl, rfl, rfl, rfl, rfl⟩ rfl rfl rfl rfl rfl (by kernel_rfl) Try.func5 (by kernel_rfl)
    (of_decide_eq_true (by kernel_rfl)) (by unfold Func.isWrapper; first | (rw [if_pos (by decide +kernel)]; kernel_rfl) | (rw [if_neg (by decide +kernel)]; exact ⟨rfl, rfl⟩))
    (fun os started H enc _ => lifted os started H enc)
end Go.Proofs.Ytdpcciidnkchfaa.LLine
