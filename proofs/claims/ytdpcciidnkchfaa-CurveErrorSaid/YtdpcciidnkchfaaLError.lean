/-
  CurveError: for all curves, Error answers as the reference does, is symmetric, and is 0 between equals. No conditions.
-/
import Derived.Test.YtdpcciidnkchfaaLaw
import Derived.Test.YtdpcciidnkchfaaSane
namespace Go.Proofs.Ytdpcciidnkchfaa.LError
open Go.ChangeShapes Go.WideShapes Go.ChangeAt Go.RowKit

theorem error_is (a b : List Int) (u v : Value) (r s : Bool) (w : World) (ha : Cm w u a) (hb : Cm w v b) (hr : r = true ↔ Cv a) (hs : s = true ↔ Cv b) (z : Int) (hz : err (ev r a) (ev s b) = z) :
    Calls Try.prog 32 #[u, v] w fun e w' => e = .returned (.int .i64 z) ∧ Below w.heap.size w w' := hz ▸ error_any a b u v r s w ha hb hr hs
theorem refError_is (a b : List Int) (u v : Value) (r s : Bool) (w : World) (ha : Cm w u a) (hb : Cm w v b) (hr : r = true ↔ Cv a) (hs : s = true ↔ Cv b) (z : Int) (hz : err (ev r a) (ev s b) = z) :
    Calls Try.prog 33 #[u, v] w fun e w' => e = .returned (.int .i64 z) ∧ Below w.heap.size w w' := hz ▸ refError_any a b u v r s w ha hb hr hs

set_option maxHeartbeats 8000000 in
set_option maxRecDepth 100000 in
theorem walk (c : List Int) (vc : Value) (l0 : List Int) (vl0 : Value) (l1 : List Int) (vl1 : Value) (w : World) (hc : Ca w vc c) (hl0 : Ca w vl0 l0) (hl1 : Ca w vl1 l1) : Calls Try.prog 11 #[vc, .agg #[vl0, vl1]] w fun e w' => e = .returned (.bool true) ∧ Below w.heap.size w w' := by
  have HC := Lib.hid hc; clear hc
  have HL0 := Lib.hid hl0; clear hl0
  have HL1 := Lib.hid hl1; clear hl1
  obtain ⟨r, hr⟩ : ∃ r : Bool, (r = true ↔ Cv (c.take 260)) := ex_cv _
  obtain ⟨z, hz⟩ : ∃ z, err (ev true (madeL l0)) (ev true (madeL l1)) = z := ⟨_, rfl⟩
  have hy : err (ev true (madeL l1)) (ev true (madeL l0)) = z := by rw [← hz]; exact errTo_swap _ _ _
  obtain ⟨x, hx⟩ : ∃ x, err (ev r (c.take 260)) (ev true (madeL l0)) = x := ⟨_, rfl⟩
  have hs : err (ev true (madeL l0)) (ev true (madeL l0)) = 0 := errTo_self _ _
  have HX := Lib.hid hx; clear hx
  have HY := Lib.hid hy; clear hy
  have HZ := Lib.hid hz; clear hz
  have HS := Lib.hid hs; clear hs
  go_enter Try.func11, Try.ntmps11
  go_upto_region 1 with fail
  have hs := (St.start w).alloc (.cells #[vl0, vl1] 47)
  generalize w.alloc (.cells #[vl0, vl1] 47) = w0 at hs ⊢
  have BW := Lib.hid hs; clear hs
  go_upto_region 2 with (go_at_call 15; (with_reducible refine (sane_any _).mono ?_); rintro e w1 ⟨rfl, hb⟩; replace BW := Lib.hid (BW.out.later hb); clear hb)
  have d0 := BW.out.cell (b := w.heap.size) (cs := #[vl0, vl1]) (t := 47) (by simp) 0
  simp only [cell_at0] at d0
  have d1 := BW.out.cell (b := w.heap.size) (cs := #[vl0, vl1]) (t := 47) (by simp) 1
  simp only [cell_at1] at d1
  go_upto_region 3 with (go_at_call 16; (with_reducible refine (some_any c vc _ (HC.out.later BW.out.below)).mono ?_); rintro e wA ⟨pA, nA, cA, rfl, hm, hb⟩; have KA := Lib.hid hm; replace BW := Lib.hid (BW.out.later hb); clear hb hm)
  have d0 := BW.out.cell (b := w.heap.size) (cs := #[vl0, vl1]) (t := 47) (by simp) 0
  simp only [cell_at0] at d0
  have d1 := BW.out.cell (b := w.heap.size) (cs := #[vl0, vl1]) (t := 47) (by simp) 1
  simp only [cell_at1] at d1
  go_upto_region 4 with (go_at_call 17; (with_reducible refine (made_any l0 vl0 _ (HL0.out.cm.later BW.out.below)).mono ?_); rintro e wB ⟨pB, nB, cB, rfl, hm, hb⟩; have KB := Lib.hid hm; replace KA := Lib.hid (KA.out.later hb); replace BW := Lib.hid (BW.out.later hb); clear hb hm)
  have d0 := BW.out.cell (b := w.heap.size) (cs := #[vl0, vl1]) (t := 47) (by simp) 0
  simp only [cell_at0] at d0
  have d1 := BW.out.cell (b := w.heap.size) (cs := #[vl0, vl1]) (t := 47) (by simp) 1
  simp only [cell_at1] at d1
  go_upto_region 5 with (go_at_call 17; (with_reducible refine (made_any l1 vl1 _ (HL1.out.cm.later BW.out.below)).mono ?_); rintro e wD ⟨pD, nD, cD, rfl, hm, hb⟩; have KD := Lib.hid hm; replace KA := Lib.hid (KA.out.later hb); replace KB := Lib.hid (KB.out.later hb); replace BW := Lib.hid (BW.out.later hb); clear hb hm)
  have HW : Hid (St wD [] _) := St.start _
  go_upto_region 6 with (go_at_call 32; (with_reducible refine (error_is _ _ _ _ true true _ (KB.out.later HW.out.below) (KD.out.later HW.out.below) (by simp [made_cv]) (by simp [made_cv]) z HZ.out).mono ?_); rintro e wz ⟨rfl, hb⟩; replace HW := Lib.hid (HW.out.later hb); clear hb)
  go_wp2_with (first
    | (go_at_call 32; (with_reducible refine (error_is _ _ _ _ r true _ (KA.out.later HW.out.below) (KB.out.later HW.out.below) hr (by simp [made_cv]) x HX.out).mono ?_); rintro e wz ⟨rfl, hb⟩; replace HW := Lib.hid (HW.out.later hb); clear hb)
    | (go_at_call 33; (with_reducible refine (refError_is _ _ _ _ r true _ (KA.out.later HW.out.below) (KB.out.later HW.out.below) hr (by simp [made_cv]) x HX.out).mono ?_); rintro e wz ⟨rfl, hb⟩; replace HW := Lib.hid (HW.out.later hb); clear hb)
    | (go_at_call 33; (with_reducible refine (refError_is _ _ _ _ true true _ (KB.out.later HW.out.below) (KD.out.later HW.out.below) (by simp [made_cv]) (by simp [made_cv]) z HZ.out).mono ?_); rintro e wz ⟨rfl, hb⟩; replace HW := Lib.hid (HW.out.later hb); clear hb)
    | (go_at_call 32; (with_reducible refine (error_is _ _ _ _ true true _ (KD.out.later HW.out.below) (KB.out.later HW.out.below) (by simp [made_cv]) (by simp [made_cv]) z HY.out).mono ?_); rintro e wz ⟨rfl, hb⟩; replace HW := Lib.hid (HW.out.later hb); clear hb)
    | (go_at_call 32; (with_reducible refine (error_is _ _ _ _ true true _ (KB.out.later HW.out.below) (KB.out.later HW.out.below) (by simp [made_cv]) (by simp [made_cv]) 0 HS.out).mono ?_); rintro e wz ⟨rfl, hb⟩; replace HW := Lib.hid (HW.out.later hb); clear hb))
  go_ret
  exact ⟨rfl, BW.out.below.trans (HW.out.below.mono BW.out.below.size)⟩

set_option maxRecDepth 100000 in
theorem lifted (os : Os) (started : os.Started) (H : Type) (enc : TypeId × Value → H) :
    ReturnsInHanded {} Try.checked os 11 .any (Rows.curveErrorSpec.pre6 enc Try.prog Try.f11 Rows.curveErrorRow.domain false) (Rows.curveErrorSpec.post enc Try.prog Try.f11 false true false false) := by
  refine returnsInHanded_of_change_sized (C := Try.checked) own started (by kernel_rfl) Try.func11
    (ChangeSpec.witness6 (enc := enc) (C := Try.checked) false ⟨#[], #[.slice none 0 0, .agg #[.slice none 0 0, .slice none 0 0]], []⟩ 8 (by kernel_rfl) (by kernel_rfl) (by kernel_rfl) (by kernel_rfl)) ?_
  intro W base args ds gs before hval0 hW _ _ _
  have hval : ∀ (j : Nat) t v, Try.f11.params[j]? = some t → args[j]? = some v → Value.okWide Try.prog W .any base t v := hval0
  have hW' := hW
  obtain ⟨p, q, hA0, hV, rfl, hfz, hnd⟩ := hW
  have hA : DataW.TrodAll enc Try.prog W 0 (fun _ => true) true Try.f11.params.toList args.toList ds p := hA0
  rw [Try.params11] at hA hval
  obtain ⟨v0, v1, d0, d1, p0, p1, rfl, rfl, rfl, h0, h1⟩ := trodAll_two hA
  obtain ⟨rfl, rfl⟩ := trodVars_none hV
  obtain ⟨c, hc⟩ := open_ca 23 Try.underlying23 (hval 0 23 v0 rfl rfl) h0
  obtain ⟨vl0, vl1, l0, l1, rfl, hl0, hl1⟩ := open_ca2 47 22 Try.underlying47 Try.underlying22 (by kernel_rfl) (by kernel_rfl) (by kernel_rfl) (hval 1 47 v1 rfl rfl) h1
  refine (walk c v0 l0 vl0 l1 vl1 W hc hl0 hl1).mono fun e W' ⟨he, hb⟩ => ?_
  subst he
  exact ⟨_, rfl, law_post hW' rfl (by kernel_rfl) rfl (by intro t ht; rw [Try.params11] at ht; simp at ht; rcases ht with rfl | rfl <;> exact ⟨by kernel_rfl, of_decide_eq_true (by kernel_rfl)⟩) hb⟩

theorem holds : Rows.CurveErrorSaid :=
  OpenClaim.holds_of_wide 11 Try.f11 rfl rfl rfl rfl rfl rfl rfl ⟨rfl, rfl, rfl, rfl, rfl⟩ rfl rfl rfl rfl rfl (by kernel_rfl) Try.func11 (by kernel_rfl)
    (of_decide_eq_true (by kernel_rfl)) (by unfold Func.isWrapper; first | (rw [if_pos (by decide +kernel)]; kernel_rfl) | (rw [if_neg (by decide +kernel)]; exact ⟨rfl, rfl⟩))
    (fun os started H enc _ => lifted os started H enc)
end Go.Proofs.Ytdpcciidnkchfaa.LError
