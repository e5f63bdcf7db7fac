/-
  CurveGalois: what Solve finds is the first argument at which the curve reaches the value. No conditions.
-/
import Derived.Test.YtdpcciidnkchfaaLaw
import Derived.Test.YtdpcciidnkchfaaSane
namespace Go.Proofs.Ytdpcciidnkchfaa.LGalois
open Go.ChangeShapes Go.WideShapes Go.ChangeAt Go.RowKit

theorem gal_facts {c : List Int} (hc : Cv c) (x y : Nat) (hx : x ≤ 65535) (z : Int) (hz : ((slv true c y : Nat) : Int) = z) :
    (slk true c y = true ∧ 0 ≤ z ∧ z ≤ 65535 ∧ (y : Int) ≤ atv true c z ∧ (z = 0 ∨ atv true c (z - 1) < y) ∧ ((y : Int) ≤ atv true c x ↔ z ≤ x)) ∨
    (slk true c y = false ∧ z = 0 ∧ ¬ (y : Int) ≤ atv true c z ∧ ¬ (y : Int) ≤ atv true c x) := by
  have hg := fun {x : Nat} (hx : x ≤ 65535) => sol_gal hc (y : Int) hx
  have a0 : atv true c 0 = val c 0 := at_val (c := c) (x := 0) (by omega)
  subst hz
  by_cases hs : sol c y ≤ 65535
  · have e1 : slv true c y = sol c y := by unfold slv; simp [hs]
    have e2 : slk true c y = true := by unfold slk; simp [hs]
    refine .inl ⟨e2, by omega, by omega, ?_, ?_, ?_⟩
    · rw [e1, at_val hs]; exact (hg hs).2 (Nat.le_refl _)
    · rw [e1]
      by_cases h0 : sol c y = 0
      · left; omega
      · right
        rw [show ((sol c y : Nat) : Int) - 1 = ((sol c y - 1 : Nat) : Int) by omega, at_val (by omega)]
        have := (hg (x := sol c y - 1) (by omega))
        omega
    · rw [e1, at_val hx]
      have := hg hx
      omega
  · refine .inr ⟨by unfold slk; simp [hs], by unfold slv; simp [hs], ?_, ?_⟩
    · rw [show ((slv true c y : Nat) : Int) = 0 by unfold slv; simp [hs], a0]; intro h; have := (hg (x := 0) (by omega)).1 h; omega
    · rw [at_val hx]; intro h; have := (hg hx).1 h; omega
theorem solve_is (c : List Int) (v : Value) (y : Int) (w : World) (hc : Cm w v c) (hr : Cv c) (z : Int) (k : Bool) (h1 : ((slv true c y : Nat) : Int) = z) (h2 : slk true c y = k) :
    Calls Try.prog 25 #[v, .int .i64 y] w fun e w' => e = .returned (.tuple #[.int .i64 z, .bool k]) ∧ Below w.heap.size w w' := h1 ▸ h2 ▸ solve_any c v true y w hc (by simp [hr])

set_option maxHeartbeats 8000000 in
set_option maxRecDepth 100000 in
theorem walk (l : List Int) (vl : Value) (x : Int) (y : Int) (w : World) (hl : Ca w vl l) : Calls Try.prog 7 #[vl, .int .i64 x, .int .i64 y] w fun e w' => e = .returned (.bool true) ∧ Below w.heap.size w w' := by
  have HL := Lib.hid hl; clear hl
  obtain ⟨a, ha, ha1⟩ := and16 x
  obtain ⟨b, hb, hb1⟩ := and17 y
  obtain ⟨z, hz⟩ : ∃ z : Int, ((slv true (madeL l) b : Nat) : Int) = z := ⟨_, rfl⟩
  have HG := Lib.hid (gal_facts (made_cv l) a b ha1 z hz)
  obtain ⟨k, hk⟩ : ∃ k, slk true (madeL l) b = k := ⟨_, rfl⟩
  obtain ⟨v, hv⟩ : ∃ v, atv true (madeL l) a = v := ⟨_, rfl⟩
  obtain ⟨p, hp⟩ : ∃ p, atv true (madeL l) z = p := ⟨_, rfl⟩
  obtain ⟨q, hq⟩ : ∃ q, atv true (madeL l) (z - 1) = q := ⟨_, rfl⟩
  rw [hk, hv, hp, hq] at HG
  have HZ := Lib.hid hz; clear hz
  have HK := Lib.hid hk; clear hk
  have HV := Lib.hid hv; clear hv
  have HP := Lib.hid hp; clear hp
  have HQ := Lib.hid hq; clear hq
  go_enter Try.func7, Try.ntmps7
  go_upto_region 2 with (go_at_call 15; (with_reducible refine (sane_any _).mono ?_); rintro e w1 ⟨rfl, hb⟩; have BW : Hid (St w [] w1) := (St.start w).later hb; clear hb)
  go_upto_region 3 with (go_at_call 17; (with_reducible refine (made_any l vl _ (HL.out.cm.later BW.out.below)).mono ?_); rintro e wB ⟨pB, nB, cB, rfl, hm, hb⟩; have KB := Lib.hid hm; replace BW := Lib.hid (BW.out.later hb); clear hb hm)
  go_upto_region 5 with fail
  have HW : Hid (St wB [] _) := St.start _
  go_upto_region 6 with (go_at_call 25; (with_reducible refine (solve_is _ _ _ _ (KB.out.later HW.out.below) (made_cv l) z k HZ.out HK.out).mono ?_); rintro e wz ⟨rfl, hb⟩; replace HW := Lib.hid (HW.out.later hb); clear hb)
  go_upto_region 7 with (go_at_call 20; (with_reducible refine (at_is _ _ true _ v _ (KB.out.later HW.out.below) (by simp [made_cv]) HV.out).mono ?_); rintro e wz ⟨rfl, hb⟩; replace HW := Lib.hid (HW.out.later hb); clear hb)
  rcases HG.out with ⟨rfl, g0, g1, g2, g3, g4⟩ | ⟨rfl, rfl, g1, g2⟩
  · clear HG
    by_cases hzx : z ≤ a
    · have g5 := g4.2 hzx
      clear g4
      rcases g3 with rfl | g3
      · clear g0 g1 hzx
        go_wp2_with (first
    | (go_at_call 20; (with_reducible refine (at_is _ _ true _ p _ (KB.out.later HW.out.below) (by simp [made_cv]) HP.out).mono ?_); rintro e wz ⟨rfl, hb⟩; replace HW := Lib.hid (HW.out.later hb); clear hb)
    | (go_at_call 20; (with_reducible refine (at_is _ _ true _ q _ (KB.out.later HW.out.below) (by simp [made_cv]) HQ.out).mono ?_); rintro e wz ⟨rfl, hb⟩; replace HW := Lib.hid (HW.out.later hb); clear hb))
        go_ret
        exact ⟨rfl, BW.out.below.trans (HW.out.below.mono BW.out.below.size)⟩
      · by_cases hz0 : z = 0
        · subst hz0
          clear g0 g1 hzx
          go_wp2_with (first
    | (go_at_call 20; (with_reducible refine (at_is _ _ true _ p _ (KB.out.later HW.out.below) (by simp [made_cv]) HP.out).mono ?_); rintro e wz ⟨rfl, hb⟩; replace HW := Lib.hid (HW.out.later hb); clear hb)
    | (go_at_call 20; (with_reducible refine (at_is _ _ true _ q _ (KB.out.later HW.out.below) (by simp [made_cv]) HQ.out).mono ?_); rintro e wz ⟨rfl, hb⟩; replace HW := Lib.hid (HW.out.later hb); clear hb))
          go_ret
          exact ⟨rfl, BW.out.below.trans (HW.out.below.mono BW.out.below.size)⟩
        · have hzb : (z == 0) = false := by simpa using hz0
          go_wp2_with (first
    | (go_at_call 20; (with_reducible refine (at_is _ _ true _ p _ (KB.out.later HW.out.below) (by simp [made_cv]) HP.out).mono ?_); rintro e wz ⟨rfl, hb⟩; replace HW := Lib.hid (HW.out.later hb); clear hb)
    | (go_at_call 20; (with_reducible refine (at_is _ _ true _ q _ (KB.out.later HW.out.below) (by simp [made_cv]) HQ.out).mono ?_); rintro e wz ⟨rfl, hb⟩; replace HW := Lib.hid (HW.out.later hb); clear hb))
          go_ret
          exact ⟨rfl, BW.out.below.trans (HW.out.below.mono BW.out.below.size)⟩
    · have g5 : v < (b : Int) := Int.not_le.1 (fun h => hzx (g4.1 h))
      have g5b : decide ((b : Int) ≤ v) = false := by simp; omega
      have hzb2 : decide (z ≤ (a : Int)) = false := by simp; omega
      clear g4
      rcases g3 with rfl | g3
      · omega
      · have hz0 : ¬ z = 0 := by omega
        have hzb : (z == 0) = false := by simpa using hz0
        clear g5 hzx
        go_wp2_with (first
    | (go_at_call 20; (with_reducible refine (at_is _ _ true _ p _ (KB.out.later HW.out.below) (by simp [made_cv]) HP.out).mono ?_); rintro e wz ⟨rfl, hb⟩; replace HW := Lib.hid (HW.out.later hb); clear hb)
    | (go_at_call 20; (with_reducible refine (at_is _ _ true _ q _ (KB.out.later HW.out.below) (by simp [made_cv]) HQ.out).mono ?_); rintro e wz ⟨rfl, hb⟩; replace HW := Lib.hid (HW.out.later hb); clear hb))
        go_ret
        exact ⟨rfl, BW.out.below.trans (HW.out.below.mono BW.out.below.size)⟩
  · have a1 : (0 : Int) ≤ a := by omega
    have g1b : decide ((b : Int) ≤ p) = false := by simp; omega
    have g2b : decide ((b : Int) ≤ v) = false := by simp; omega
    clear HG g1 g2
    go_wp2_with (first
    | (go_at_call 20; (with_reducible refine (at_is _ _ true _ p _ (KB.out.later HW.out.below) (by simp [made_cv]) HP.out).mono ?_); rintro e wz ⟨rfl, hb⟩; replace HW := Lib.hid (HW.out.later hb); clear hb)
    | (go_at_call 20; (with_reducible refine (at_is _ _ true _ q _ (KB.out.later HW.out.below) (by simp [made_cv]) HQ.out).mono ?_); rintro e wz ⟨rfl, hb⟩; replace HW := Lib.hid (HW.out.later hb); clear hb))
    go_ret
    exact ⟨rfl, BW.out.below.trans (HW.out.below.mono BW.out.below.size)⟩

set_option maxRecDepth 100000 in
theorem lifted (os : Os) (started : os.Started) (H : Type) (enc : TypeId × Value → H) :
    ReturnsInHanded {} Try.checked os 7 .any (Rows.curveGaloisSpec.pre6 enc Try.prog Try.f7 Rows.curveGaloisRow.domain false) (Rows.curveGaloisSpec.post enc Try.prog Try.f7 false true false false) := by
  refine returnsInHanded_of_change_sized (C := Try.checked) own started (by kernel_rfl) Try.func7
    (ChangeSpec.witness6 (enc := enc) (C := Try.checked) false ⟨#[], #[.slice none 0 0, .int .i64 0, .int .i64 0], []⟩ 8 (by kernel_rfl) (by kernel_rfl) (by kernel_rfl) (by kernel_rfl)) ?_
  intro W base args ds gs before hval0 hW _ _ _
  have hval : ∀ (j : Nat) t v, Try.f7.params[j]? = some t → args[j]? = some v → Value.okWide Try.prog W .any base t v := hval0
  have hW' := hW
  obtain ⟨p, q, hA0, hV, rfl, hfz, hnd⟩ := hW
  have hA : DataW.TrodAll enc Try.prog W 0 (fun _ => true) true Try.f7.params.toList args.toList ds p := hA0
  rw [Try.params7] at hA hval
  obtain ⟨v0, v1, v2, d0, d1, d2, p0, p1, p2, rfl, rfl, rfl, h0, h1, h2⟩ := trodAll_three hA
  obtain ⟨rfl, rfl⟩ := trodVars_none hV
  obtain ⟨l, hl⟩ := open_ca 22 Try.underlying22 (hval 0 22 v0 rfl rfl) h0
  obtain ⟨x, rfl, rfl, rfl, _⟩ := open_int Try.underlying3 (hval 1 3 v1 rfl rfl) h1
  obtain ⟨y, rfl, rfl, rfl, _⟩ := open_int Try.underlying3 (hval 2 3 v2 rfl rfl) h2
  refine (walk l v0 x y W hl).mono fun e W' ⟨he, hb⟩ => ?_
  subst he
  exact ⟨_, rfl, law_post hW' rfl (by kernel_rfl) rfl (by intro t ht; rw [Try.params7] at ht; simp at ht; rcases ht with rfl | rfl <;> exact ⟨by kernel_rfl, of_decide_eq_true (by kernel_rfl)⟩) hb⟩

theorem holds : Rows.CurveGaloisSaid :=
  OpenClaim.holds_of_wide 7 Try.f7 rfl rfl rfl rfl rfl rfl rfl ⟨rfl, rfl, rfl, rfl, rfl⟩ rfl rfl rfl rfl rfl (by kernel_rfl) Try.func7 (by kernel_rfl)
    (of_decide_eq_true (by kernel_rfl)) (by unfold Func.isWrapper; first | (rw [if_pos (by decide +kernel)]; kernel_rfl) | (rw [if_neg (by decide +kernel)]; exact ⟨rfl, rfl⟩))
    (fun os started H enc _ => lifted os started H enc)
end Go.Proofs.Ytdpcciidnkchfaa.LGalois
