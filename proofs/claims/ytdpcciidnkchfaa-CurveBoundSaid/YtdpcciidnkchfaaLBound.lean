/-
  CurveBound: at no argument do two curves differ by more than Error. No conditions.
-/
import Derived.Test.YtdpcciidnkchfaaLaw
import Derived.Test.YtdpcciidnkchfaaSane
namespace Go.Proofs.Ytdpcciidnkchfaa.LBound
open Go.ChangeShapes Go.WideShapes Go.ChangeAt Go.RowKit

theorem error_is (a b : List Int) (u v : Value) (r s : Bool) (w : World) (ha : Cm w u a) (hb : Cm w v b) (hr : r = true ↔ Cv a) (hs : s = true ↔ Cv b) (z : Int) (hz : err (ev r a) (ev s b) = z) :
    Calls Try.prog 32 #[u, v] w fun e w' => e = .returned (.int .i64 z) ∧ Below w.heap.size w w' := hz ▸ error_any a b u v r s w ha hb hr hs
theorem refError_is (a b : List Int) (u v : Value) (r s : Bool) (w : World) (ha : Cm w u a) (hb : Cm w v b) (hr : r = true ↔ Cv a) (hs : s = true ↔ Cv b) (z : Int) (hz : err (ev r a) (ev s b) = z) :
    Calls Try.prog 33 #[u, v] w fun e w' => e = .returned (.int .i64 z) ∧ Below w.heap.size w w' := hz ▸ refError_any a b u v r s w ha hb hr hs

set_option maxHeartbeats 8000000 in
set_option maxRecDepth 100000 in
theorem walk (l0 : List Int) (vl0 : Value) (l1 : List Int) (vl1 : Value) (x : Int) (w : World) (hl0 : Ca w vl0 l0) (hl1 : Ca w vl1 l1) : Calls Try.prog 12 #[.agg #[vl0, vl1], .int .i64 x] w fun e w' => e = .returned (.bool true) ∧ Below w.heap.size w w' := by
  have HL0 := Lib.hid hl0; clear hl0
  have HL1 := Lib.hid hl1; clear hl1
  obtain ⟨a, ha, ha1⟩ := and16 x
  obtain ⟨z, hz⟩ : ∃ z, err (ev true (madeL l0)) (ev true (madeL l1)) = z := ⟨_, rfl⟩
  have hc0 : (true = true) ↔ Cv (madeL l0) := by simp [made_cv]
  have hc1 : (true = true) ↔ Cv (madeL l1) := by simp [made_cv]
  have hr := errTo_rng (ev_rng hc0) (ev_rng hc1) 65536 (Nat.le_refl _)
  have hd := errTo_bound (ev true (madeL l0)) (ev true (madeL l1)) 65536 a (by omega)
  rw [show errTo (ev true (madeL l0)) (ev true (madeL l1)) 65536 = z from hz] at hr hd
  have hp1 := ev_rng hc0 a ha1
  have hq1 := ev_rng hc1 a ha1
  obtain ⟨p, hp⟩ : ∃ p, ev true (madeL l0) a = p := ⟨_, rfl⟩
  obtain ⟨q, hq⟩ : ∃ q, ev true (madeL l1) a = q := ⟨_, rfl⟩
  rw [hp] at hp1 hd
  rw [hq] at hq1 hd
  have hp2 : atv true (madeL l0) a = p := by rw [at_val ha1, ← hp]; unfold ev; rw [if_pos rfl]
  have hq2 : atv true (madeL l1) a = q := by rw [at_val ha1, ← hq]; unfold ev; rw [if_pos rfl]
  clear hp hq hc0 hc1
  obtain ⟨hr1, hr2⟩ := hr
  obtain ⟨hd1, hd2⟩ := hd
  have hd3 : -(p - q) ≤ z := by omega
  have hd4 : -p + q ≤ z := by omega
  have hd5 : q - p ≤ z := hd2
  have HZ := Lib.hid hz; clear hz
  have HP2 := Lib.hid hp2; clear hp2
  have HQ2 := Lib.hid hq2; clear hq2
  go_enter Try.func12, Try.ntmps12
  go_upto_region 1 with fail
  have hs := (St.start w).alloc (.cells #[vl0, vl1] 47)
  generalize w.alloc (.cells #[vl0, vl1] 47) = w0 at hs ⊢
  have BW := Lib.hid hs; clear hs
  go_upto_region 2 with (go_at_call 15; (with_reducible refine (sane_any _).mono ?_); rintro e w1 ⟨rfl, hb⟩; replace BW := Lib.hid (BW.out.later hb); clear hb)
  have d0 := BW.out.cell (b := w.heap.size) (cs := #[vl0, vl1]) (t := 47) (by simp) 0
  simp only [cell_at0] at d0
  have d1 := BW.out.cell (b := w.heap.size) (cs := #[vl0, vl1]) (t := 47) (by simp) 1
  simp only [cell_at1] at d1
  go_upto_region 3 with (go_at_call 17; (with_reducible refine (made_any l0 vl0 _ (HL0.out.cm.later BW.out.below)).mono ?_); rintro e wB ⟨pB, nB, cB, rfl, hm, hb⟩; have KB := Lib.hid hm; replace BW := Lib.hid (BW.out.later hb); clear hb hm)
  have d0 := BW.out.cell (b := w.heap.size) (cs := #[vl0, vl1]) (t := 47) (by simp) 0
  simp only [cell_at0] at d0
  have d1 := BW.out.cell (b := w.heap.size) (cs := #[vl0, vl1]) (t := 47) (by simp) 1
  simp only [cell_at1] at d1
  go_upto_region 4 with (go_at_call 17; (with_reducible refine (made_any l1 vl1 _ (HL1.out.cm.later BW.out.below)).mono ?_); rintro e wD ⟨pD, nD, cD, rfl, hm, hb⟩; have KD := Lib.hid hm; replace KB := Lib.hid (KB.out.later hb); replace BW := Lib.hid (BW.out.later hb); clear hb hm)
  have HW : Hid (St wD [] _) := St.start _
  go_upto_region 5 with (go_at_call 32; (with_reducible refine (error_is _ _ _ _ true true _ (KB.out.later HW.out.below) (KD.out.later HW.out.below) (by simp [made_cv]) (by simp [made_cv]) z HZ.out).mono ?_); rintro e wz ⟨rfl, hb⟩; replace HW := Lib.hid (HW.out.later hb); clear hb)
  go_upto_region 6 with fail
  go_upto_region 7 with (first
    | (go_at_call 20; (with_reducible refine (at_is _ _ true _ p _ (KB.out.later HW.out.below) (by simp [made_cv]) HP2.out).mono ?_); rintro e wz ⟨rfl, hb⟩; replace HW := Lib.hid (HW.out.later hb); clear hb)
    | (go_at_call 20; (with_reducible refine (at_is _ _ true _ q _ (KD.out.later HW.out.below) (by simp [made_cv]) HQ2.out).mono ?_); rintro e wz ⟨rfl, hb⟩; replace HW := Lib.hid (HW.out.later hb); clear hb))
  go_wp2_with fail
  go_ret
  exact ⟨rfl, BW.out.below.trans (HW.out.below.mono BW.out.below.size)⟩

set_option maxRecDepth 100000 in
theorem lifted (os : Os) (started : os.Started) (H : Type) (enc : TypeId × Value → H) :
    ReturnsInHanded {} Try.checked os 12 .any (Rows.curveBoundSpec.pre6 enc Try.prog Try.f12 Rows.curveBoundRow.domain false) (Rows.curveBoundSpec.post enc Try.prog Try.f12 false true false false) := by
  refine returnsInHanded_of_change_sized (C := Try.checked) own started (by kernel_rfl) Try.func12
    (ChangeSpec.witness6 (enc := enc) (C := Try.checked) false ⟨#[], #[.agg #[.slice none 0 0, .slice none 0 0], .int .i64 0], []⟩ 8 (by kernel_rfl) (by kernel_rfl) (by kernel_rfl) (by kernel_rfl)) ?_
  intro W base args ds gs before hval0 hW _ _ _
  have hval : ∀ (j : Nat) t v, Try.f12.params[j]? = some t → args[j]? = some v → Value.okWide Try.prog W .any base t v := hval0
  have hW' := hW
  obtain ⟨p, q, hA0, hV, rfl, hfz, hnd⟩ := hW
  have hA : DataW.TrodAll enc Try.prog W 0 (fun _ => true) true Try.f12.params.toList args.toList ds p := hA0
  rw [Try.params12] at hA hval
  obtain ⟨v0, v1, d0, d1, p0, p1, rfl, rfl, rfl, h0, h1⟩ := trodAll_two hA
  obtain ⟨rfl, rfl⟩ := trodVars_none hV
  obtain ⟨vl0, vl1, l0, l1, rfl, hl0, hl1⟩ := open_ca2 47 22 Try.underlying47 Try.underlying22 (by kernel_rfl) (by kernel_rfl) (by kernel_rfl) (hval 0 47 v0 rfl rfl) h0
  obtain ⟨x, rfl, rfl, rfl, _⟩ := open_int Try.underlying3 (hval 1 3 v1 rfl rfl) h1
  refine (walk l0 vl0 l1 vl1 x W hl0 hl1).mono fun e W' ⟨he, hb⟩ => ?_
  subst he
  exact ⟨_, rfl, law_post hW' rfl (by kernel_rfl) rfl (by intro t ht; rw [Try.params12] at ht; simp at ht; rcases ht with rfl | rfl <;> exact ⟨by kernel_rfl, of_decide_eq_true (by kernel_rfl)⟩) hb⟩

theorem holds : Rows.CurveBoundSaid :=
  OpenClaim.holds_of_wide 12 Try.f12 rfl rfl rfl rfl rfl rfl rfl ⟨rfl, rfl, rfl, rfl, rfl⟩ rfl rfl rfl rfl rfl (by kernel_rfl) Try.func12 (by kernel_rfl)
    (of_decide_eq_true (by kernel_rfl)) (by unfold Func.isWrapper; first | (rw [if_pos (by decide +kernel)]; kernel_rfl) | (rw [if_neg (by decide +kernel)]; exact ⟨rfl, rfl⟩))
    (fun os started H enc _ => lifted os started H enc)
end Go.Proofs.Ytdpcciidnkchfaa.LBound
