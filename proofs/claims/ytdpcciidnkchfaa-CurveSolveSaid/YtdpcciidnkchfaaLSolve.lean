/-
  CurveSolve: for all curves and values, Solve answers as the reference does. No conditions.
-/
import Derived.Test.YtdpcciidnkchfaaLaw
import Derived.Test.YtdpcciidnkchfaaSane
namespace Go.Proofs.Ytdpcciidnkchfaa.LSolve
open Go.ChangeShapes Go.WideShapes Go.ChangeAt Go.RowKit


set_option maxHeartbeats 8000000 in
set_option maxRecDepth 100000 in
theorem walk (c : List Int) (vc : Value) (l : List Int) (vl : Value) (y : Int) (w : World) (hc : Ca w vc c) (hl : Ca w vl l) : Calls Try.prog 6 #[vc, vl, .int .i64 y] w fun e w' => e = .returned (.bool true) ∧ Below w.heap.size w w' := by
  have HC := Lib.hid hc; clear hc
  have HL := Lib.hid hl; clear hl
  obtain ⟨r, hr⟩ : ∃ r : Bool, (r = true ↔ Cv (c.take 260)) := ex_cv _
  obtain ⟨m, hm, hm1⟩ := and16 y
  go_enter Try.func6, Try.ntmps6
  go_upto_region 2 with (go_at_call 15; (with_reducible refine (sane_any _).mono ?_); rintro e w1 ⟨rfl, hb⟩; have BW : Hid (St w [] w1) := (St.start w).later hb; clear hb)
  go_upto_region 3 with (go_at_call 16; (with_reducible refine (some_any c vc _ (HC.out.later BW.out.below)).mono ?_); rintro e wA ⟨pA, nA, cA, rfl, hm, hb⟩; have KA := Lib.hid hm; replace BW := Lib.hid (BW.out.later hb); clear hb hm)
  go_upto_region 4 with (go_at_call 17; (with_reducible refine (made_any l vl _ (HL.out.cm.later BW.out.below)).mono ?_); rintro e wB ⟨pB, nB, cB, rfl, hm, hb⟩; have KB := Lib.hid hm; replace KA := Lib.hid (KA.out.later hb); replace BW := Lib.hid (BW.out.later hb); clear hb hm)
  go_upto_region 5 with fail
  have HW : Hid (St wB [] _) := St.start _
  go_upto_region 6 with (go_at_call 25; (with_reducible refine (solve_any _ _ r _ _ (KA.out.later HW.out.below) hr).mono ?_); rintro e wz ⟨rfl, hb⟩; replace HW := Lib.hid (HW.out.later hb); clear hb)
  go_upto_region 7 with (go_at_call 26; (with_reducible refine (refSolve_any _ _ r _ _ (KA.out.later HW.out.below) hr).mono ?_); rintro e wz ⟨rfl, hb⟩; replace HW := Lib.hid (HW.out.later hb); clear hb)
  have hs := HW.out.alloc (.cells #[.int .i64 (slv r (c.take 260) y : Nat), .bool (slk r (c.take 260) y)] 37)
  clear HW
  generalize wz.alloc (.cells #[.int .i64 (slv r (c.take 260) y : Nat), .bool (slk r (c.take 260) y)] 37) = wv at *
  generalize wz.heap.size = b1 at *
  have HW := Lib.hid hs; clear hs
  go_upto_region 8 with (go_at_call 25; (with_reducible refine (solve_any _ _ true _ _ (KB.out.later HW.out.below) (by simp [made_cv])).mono ?_); rintro e wz ⟨rfl, hb⟩; replace HW := Lib.hid (HW.out.later hb); clear hb)
  go_upto_region 9 with (go_at_call 26; (with_reducible refine (refSolve_any _ _ true _ _ (KB.out.later HW.out.below) (by simp [made_cv])).mono ?_); rintro e wz ⟨rfl, hb⟩; replace HW := Lib.hid (HW.out.later hb); clear hb)
  have hs := HW.out.alloc (.cells #[.int .i64 (slv true (madeL l) m : Nat), .bool (slk true (madeL l) m)] 37)
  clear HW
  generalize wz.alloc (.cells #[.int .i64 (slv true (madeL l) m : Nat), .bool (slk true (madeL l) m)] 37) = wv at *
  generalize wz.heap.size = b2 at *
  have HW := Lib.hid hs; clear hs
  have d10 := HW.out.cell (b := b1) (cs := #[.int .i64 (slv r (c.take 260) y : Nat), .bool (slk r (c.take 260) y)]) (t := 37) (by simp) 0; have d11 := HW.out.cell (b := b1) (cs := #[.int .i64 (slv r (c.take 260) y : Nat), .bool (slk r (c.take 260) y)]) (t := 37) (by simp) 1; have d20 := HW.out.cell (b := b2) (cs := #[.int .i64 (slv true (madeL l) m : Nat), .bool (slk true (madeL l) m)]) (t := 37) (by simp) 0; have d21 := HW.out.cell (b := b2) (cs := #[.int .i64 (slv true (madeL l) m : Nat), .bool (slk true (madeL l) m)]) (t := 37) (by simp) 1
  go_wp2_with fail
  go_ret
  exact ⟨rfl, BW.out.below.trans (HW.out.below.mono BW.out.below.size)⟩

set_option maxRecDepth 100000 in
theorem lifted (os : Os) (started : os.Started) (H : Type) (enc : TypeId × Value → H) :
    ReturnsInHanded {} Try.checked os 6 .any (Rows.curveSolveSpec.pre6 enc Try.prog Try.f6 Rows.curveSolveRow.domain false) (Rows.curveSolveSpec.post enc Try.prog Try.f6 false true false false) := by
  refine returnsInHanded_of_change_sized (C := Try.checked) own started (by kernel_rfl) Try.func6
    (ChangeSpec.witness6 (enc := enc) (C := Try.checked) false ⟨#[], #[.slice none 0 0, .slice none 0 0, .int .i64 0], []⟩ 8 (by kernel_rfl) (by kernel_rfl) (by kernel_rfl) (by kernel_rfl)) ?_
  intro W base args ds gs before hval0 hW _ _ _
  have hval : ∀ (j : Nat) t v, Try.f6.params[j]? = some t → args[j]? = some v → Value.okWide Try.prog W .any base t v := hval0
  have hW' := hW
  obtain ⟨p, q, hA0, hV, rfl, hfz, hnd⟩ := hW
  have hA : DataW.TrodAll enc Try.prog W 0 (fun _ => true) true Try.f6.params.toList args.toList ds p := hA0
  rw [Try.params6] at hA hval
  obtain ⟨v0, v1, v2, d0, d1, d2, p0, p1, p2, rfl, rfl, rfl, h0, h1, h2⟩ := trodAll_three hA
  obtain ⟨rfl, rfl⟩ := trodVars_none hV
  obtain ⟨c, hc⟩ := open_ca 23 Try.underlying23 (hval 0 23 v0 rfl rfl) h0
  obtain ⟨l, hl⟩ := open_ca 22 Try.underlying22 (hval 1 22 v1 rfl rfl) h1
  obtain ⟨y, rfl, rfl, rfl, _⟩ := open_int Try.underlying3 (hval 2 3 v2 rfl rfl) h2
  refine (walk c v0 l v1 y W hc hl).mono fun e W' ⟨he, hb⟩ => ?_
  subst he
  exact ⟨_, rfl, law_post hW' rfl (by kernel_rfl) rfl (by intro t ht; rw [Try.params6] at ht; simp at ht; rcases ht with rfl | rfl | rfl <;> exact ⟨by kernel_rfl, of_decide_eq_true (by kernel_rfl)⟩) hb⟩

theorem holds : Rows.CurveSolveSaid :=
  OpenClaim.holds_of_wide 6 Try.f6 rfl rfl rfl rfl rfl rfl rfl ⟨rfl, rfl, rfl, rfl, rfl⟩ rfl rfl rfl rfl rfl (by kernel_rfl) Try.func6 (by kernel_rfl)
    (of_decide_eq_true (by kernel_rfl)) (by unfold Func.isWrapper; first | (rw [if_pos (by decide +kernel)]; kernel_rfl) | (rw [if_neg (by decide +kernel)]; exact ⟨rfl, rfl⟩))
    (fun os started H enc _ => lifted os started H enc)
end Go.Proofs.Ytdpcciidnkchfaa.LSolve
