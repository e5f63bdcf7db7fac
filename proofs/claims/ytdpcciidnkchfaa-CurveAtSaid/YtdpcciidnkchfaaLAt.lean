/-
  CurveAt: for all curves and arguments, Valid and At answer as the reference does. No conditions.
-/
import Derived.Test.YtdpcciidnkchfaaLaw
import Derived.Test.YtdpcciidnkchfaaSane
namespace Go.Proofs.Ytdpcciidnkchfaa.LAt
open Go.ChangeShapes Go.WideShapes Go.ChangeAt Go.RowKit


set_option maxHeartbeats 8000000 in
set_option maxRecDepth 100000 in
theorem walk (c : List Int) (vc : Value) (l : List Int) (vl : Value) (x : Int) (w : World) (hc : Ca w vc c) (hl : Ca w vl l) : Calls Try.prog 3 #[vc, vl, .int .i64 x] w fun e w' => e = .returned (.bool true) ∧ Below w.heap.size w w' := by
  have HC := Lib.hid hc; clear hc
  have HL := Lib.hid hl; clear hl
  obtain ⟨r, hr⟩ : ∃ r : Bool, (r = true ↔ Cv (c.take 260)) := ex_cv _
  go_enter Try.func3, Try.ntmps3
  go_upto_region 2 with (go_at_call 15; (with_reducible refine (sane_any _).mono ?_); rintro e w1 ⟨rfl, hb⟩; have BW : Hid (St w [] w1) := (St.start w).later hb; clear hb)
  go_upto_region 3 with (go_at_call 16; (with_reducible refine (some_any c vc _ (HC.out.later BW.out.below)).mono ?_); rintro e wA ⟨pA, nA, cA, rfl, hm, hb⟩; have KA := Lib.hid hm; replace BW := Lib.hid (BW.out.later hb); clear hb hm)
  go_upto_region 4 with (go_at_call 17; (with_reducible refine (made_any l vl _ (HL.out.cm.later BW.out.below)).mono ?_); rintro e wB ⟨pB, nB, cB, rfl, hm, hb⟩; have KB := Lib.hid hm; replace KA := Lib.hid (KA.out.later hb); replace BW := Lib.hid (BW.out.later hb); clear hb hm)
  go_upto_region 5 with fail
  generalize bits .and .i64 x 65535 = m
  have HW : Hid (St wB [] _) := St.start _
  go_wp2_with (first
    | (go_at_call 18; (with_reducible refine (valid_any _ _ r _ (KA.out.later HW.out.below) hr).mono ?_); rintro e wz ⟨rfl, hb⟩; replace HW := Lib.hid (HW.out.later hb); clear hb)
    | (go_at_call 19; (with_reducible refine (refValid_any _ _ r _ (KA.out.later HW.out.below) hr).mono ?_); rintro e wz ⟨rfl, hb⟩; replace HW := Lib.hid (HW.out.later hb); clear hb)
    | (go_at_call 18; (with_reducible refine (valid_any _ _ true _ (KB.out.later HW.out.below) (by simp [made_cv])).mono ?_); rintro e wz ⟨rfl, hb⟩; replace HW := Lib.hid (HW.out.later hb); clear hb)
    | (go_at_call 20; (with_reducible refine (at_any _ _ r _ _ (KA.out.later HW.out.below) hr).mono ?_); rintro e wz ⟨rfl, hb⟩; replace HW := Lib.hid (HW.out.later hb); clear hb)
    | (go_at_call 21; (with_reducible refine (refAt_any _ _ r _ _ (KA.out.later HW.out.below) hr).mono ?_); rintro e wz ⟨rfl, hb⟩; replace HW := Lib.hid (HW.out.later hb); clear hb)
    | (go_at_call 20; (with_reducible refine (at_any _ _ true _ _ (KB.out.later HW.out.below) (by simp [made_cv])).mono ?_); rintro e wz ⟨rfl, hb⟩; replace HW := Lib.hid (HW.out.later hb); clear hb)
    | (go_at_call 21; (with_reducible refine (refAt_any _ _ true _ _ (KB.out.later HW.out.below) (by simp [made_cv])).mono ?_); rintro e wz ⟨rfl, hb⟩; replace HW := Lib.hid (HW.out.later hb); clear hb))
  go_ret
  exact ⟨rfl, BW.out.below.trans (HW.out.below.mono BW.out.below.size)⟩

set_option maxRecDepth 100000 in
theorem lifted (os : Os) (started : os.Started) (H : Type) (enc : TypeId × Value → H) :
    ReturnsInHanded {} Try.checked os 3 .any (Rows.curveAtSpec.pre6 enc Try.prog Try.f3 Rows.curveAtRow.domain false) (Rows.curveAtSpec.post enc Try.prog Try.f3 false true false false) := by
  refine returnsInHanded_of_change_sized (C := Try.checked) own started (by kernel_rfl) Try.func3
    (ChangeSpec.witness6 (enc := enc) (C := Try.checked) false ⟨#[], #[.slice none 0 0, .slice none 0 0, .int .i64 0], []⟩ 8 (by kernel_rfl) (by kernel_rfl) (by kernel_rfl) (by kernel_rfl)) ?_
  intro W base args ds gs before hval0 hW _ _ _
  have hval : ∀ (j : Nat) t v, Try.f3.params[j]? = some t → args[j]? = some v → Value.okWide Try.prog W .any base t v := hval0
  have hW' := hW
  obtain ⟨p, q, hA0, hV, rfl, hfz, hnd⟩ := hW
  have hA : DataW.TrodAll enc Try.prog W 0 (fun _ => true) true Try.f3.params.toList args.toList ds p := hA0
  rw [Try.params3] at hA hval
  obtain ⟨v0, v1, v2, d0, d1, d2, p0, p1, p2, rfl, rfl, rfl, h0, h1, h2⟩ := trodAll_three hA
  obtain ⟨rfl, rfl⟩ := trodVars_none hV
  obtain ⟨c, hc⟩ := open_ca 23 Try.underlying23 (hval 0 23 v0 rfl rfl) h0
  obtain ⟨l, hl⟩ := open_ca 22 Try.underlying22 (hval 1 22 v1 rfl rfl) h1
  obtain ⟨x, rfl, rfl, rfl, _⟩ := open_int Try.underlying3 (hval 2 3 v2 rfl rfl) h2
  refine (walk c v0 l v1 x W hc hl).mono fun e W' ⟨he, hb⟩ => ?_
  subst he
  exact ⟨_, rfl, law_post hW' rfl (by kernel_rfl) rfl (by intro t ht; rw [Try.params3] at ht; simp at ht; rcases ht with rfl | rfl | rfl <;> exact ⟨by kernel_rfl, of_decide_eq_true (by kernel_rfl)⟩) hb⟩

theorem holds : Rows.CurveAtSaid :=
  OpenClaim.holds_of_wide 3 Try.f3 rfl rfl rfl rfl rfl rfl rfl ⟨rfl, rfl, rfl, rfl, rfl⟩ rfl rfl rfl rfl rfl (by kernel_rfl) Try.func3 (by kernel_rfl)
    (of_decide_eq_true (by kernel_rfl)) (by unfold Func.isWrapper; first | (rw [if_pos (by decide +kernel)]; kernel_rfl) | (rw [if_neg (by decide +kernel)]; exact ⟨rfl, rfl⟩))
    (fun os started H enc _ => lifted os started H enc)
end Go.Proofs.Ytdpcciidnkchfaa.LAt
