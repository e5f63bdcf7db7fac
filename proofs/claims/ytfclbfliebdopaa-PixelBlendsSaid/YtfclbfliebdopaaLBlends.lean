/-
  PixelBlends: for all integers, Mul and Blend return what the reference returns, in every mode and for modes out of range. No conditions.
-/
import Derived.Test.YtfclbfliebdopaaLaw
import Derived.Test.YtfclbfliebdopaaSane
namespace Go.Proofs.Ytfclbfliebdopaa.LBlends
open Go.ChangeShapes Go.WideShapes Go.ChangeAt Go.RowKit


set_option maxHeartbeats 8000000 in
set_option maxRecDepth 100000 in
theorem walk (m b s : Int) (w : World) : Calls Try.prog 3 #[.int .i64 m, .int .i64 b, .int .i64 s] w fun e w' => e = .returned (.bool true) ∧ Below w.heap.size w w' := by
  go_enter Try.func3, Try.ntmps3
  have hs := St.start w
  go_upto_region 2 with (go_at_call 12; (with_reducible refine (St.call hs (sane_any _)).mono ?_); rintro e w2 ⟨rfl, h2⟩)
  go_wp2_with fail
  clear hs
  go_loopw [8] (fun v wr => ∃ k : Nat, k ≤ 18 ∧ v = .int .i64 (k - 1) ∧ Hid (St w [] wr)) (fun v _ => 18 - (intOf v + 1).toNat)
  case atStart => exact ⟨0, by omega, rfl, h2⟩
  case round =>
    obtain ⟨k, hk, rfl, HS⟩ := hrel
    have h3 := HS.out
    clear HS h2
    by_cases hlt : (k : Int) - 1 ≤ 16
    · go_wp2_with (first
        | (go_at_call 13; (with_reducible refine (St.call (W := w) (L := []) ?_ (blend_any _ _ _ _)).mono ?_); (focus assumption); rintro e w4 ⟨rfl, h4⟩)
        | (go_at_call 14; (with_reducible refine (refBlend_any _ _ _ _).mono ?_); rintro e w5 ⟨rfl, rfl⟩))
      go_roundw
      case rel => exact ⟨k + 1, by omega, by go_num, by unfold Hid; assumption⟩
      case measure => simp [intOf]; omega
    · go_wp2_with (first
        | (go_at_call 13; (with_reducible refine (St.call (W := w) (L := []) ?_ (blend_any _ _ _ _)).mono ?_); (focus assumption); rintro e w4 ⟨rfl, h4⟩)
        | (go_at_call 14; (with_reducible refine (refBlend_any _ _ _ _).mono ?_); rintro e w5 ⟨rfl, rfl⟩)
        | (go_at_call 15; (with_reducible refine (St.call (W := w) (L := []) ?_ (mul_any _ _ _)).mono ?_); (focus assumption); rintro e w4 ⟨rfl, h4⟩)
        | (go_at_call 16; (with_reducible refine (refMul_any _ _ _).mono ?_); rintro e w5 ⟨rfl, rfl⟩))
      go_ret
      exact ⟨rfl, h4.below⟩

set_option maxRecDepth 100000 in
theorem lifted (os : Os) (started : os.Started) (H : Type) (enc : TypeId × Value → H) :
    ReturnsInHanded {} Try.checked os 3 .any (Rows.pixelBlendsSpec.pre6 enc Try.prog Try.f3 Rows.pixelBlendsRow.domain false) (Rows.pixelBlendsSpec.post enc Try.prog Try.f3 false true false false) := by
  refine returnsInHanded_of_change_sized (C := Try.checked) own started (by kernel_rfl) Try.func3
    (ChangeSpec.witness6 (enc := enc) (C := Try.checked) false ⟨#[], #[.int .i64 0, .int .i64 0, .int .i64 0], []⟩ 8 (by kernel_rfl) (by kernel_rfl) (by kernel_rfl) (by kernel_rfl)) ?_
  intro W base args ds gs before hval0 hW _ _ _
  have hval : ∀ (j : Nat) t v, Try.f3.params[j]? = some t → args[j]? = some v → Value.okWide Try.prog W .any base t v := hval0
  have hW' := hW
  obtain ⟨p, q, hA0, hV, rfl, hfz, hnd⟩ := hW
  have hA : DataW.TrodAll enc Try.prog W 0 (fun _ => true) true Try.f3.params.toList args.toList ds p := hA0
  rw [Try.params3] at hA hval
  obtain ⟨v0, v1, v2, d0, d1, d2, p0, p1, p2, rfl, rfl, rfl, h0, h1, h2⟩ := trodAll_three hA
  obtain ⟨rfl, rfl⟩ := trodVars_none hV
  obtain ⟨m, rfl, rfl, rfl, _⟩ := open_int Try.underlying3 (hval 0 3 v0 rfl rfl) h0
  obtain ⟨b, rfl, rfl, rfl, _⟩ := open_int Try.underlying3 (hval 1 3 v1 rfl rfl) h1
  obtain ⟨s, rfl, rfl, rfl, _⟩ := open_int Try.underlying3 (hval 2 3 v2 rfl rfl) h2
  refine (walk m b s W).mono fun e W' ⟨he, hb⟩ => ?_
  subst he
  exact ⟨_, rfl, law_post hW' rfl (by kernel_rfl) rfl (by intro t ht; rw [Try.params3] at ht; simp at ht; subst ht; exact ⟨by kernel_rfl, of_decide_eq_true (by kernel_rfl)⟩) hb⟩

theorem holds : Rows.PixelBlendsSaid :=
  OpenClaim.holds_of_wide 3 Try.f3 rfl rfl rfl rfl rfl rfl rfl ⟨rfl, rfl, rfl, rfl, rfl⟩ rfl rfl rfl rfl rfl (by kernel_rfl) Try.func3 (by kernel_rfl)
    (of_decide_eq_true (by kernel_rfl)) (by unfold Func.isWrapper; first | (rw [if_pos (by decide +kernel)]; kernel_rfl) | (rw [if_neg (by decide +kernel)]; exact ⟨rfl, rfl⟩))
    (fun os started H enc _ => lifted os started H enc)
end Go.Proofs.Ytfclbfliebdopaa.LBlends
