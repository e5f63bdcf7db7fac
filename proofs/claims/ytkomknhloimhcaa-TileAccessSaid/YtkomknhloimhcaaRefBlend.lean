/-
  The reference's Blend (contract).
-/
import Derived.Test.YtkomknhloimhcaaBlend
namespace Go.Proofs.Ytkomknhloimhcaa
open Go.RowKit

set_option maxRecDepth 100000 in
set_option maxHeartbeats 4000000 in
theorem refBlend_any (m b s : Int) (w : World) : Calls Try.prog 91 #[.int .i64 m, .int .i64 b, .int .i64 s] w fun e w' => e = .returned (.int .i64 (bl m (cl b) (cl s))) ∧ w = w' := by
  have hb := cl_ch b
  have hs := cl_ch s
  have hp := pr_le hb hs
  have hq : Ch (pr (cl b) (cl s)) := pr_ch hb hs
  have hr : Ch (scr (cl b) (cl s)) := scr_ch hb hs
  have h5 := pr_ch hb hr
  have h6 := pr_ch (a := 255 - cl b) ⟨by omega, by omega⟩ hq
  go_enter Try.func91, Try.ntmps91
  go_wp2_with (first
    | (go_at_call 90; (with_reducible refine (refClamp_any _ _).mono ?_); rintro e w1 ⟨rfl, rfl⟩)
    | (go_at_call 65; (with_reducible refine (refMul_in _ _ _ ?_ ?_).mono ?_); (focus (first | assumption | exact ⟨by omega, by omega⟩)); (focus (first | assumption | exact ⟨by omega, by omega⟩)); rintro e w1 ⟨rfl, rfl⟩)
    | (go_at_call 92; (with_reducible refine (refScreen_any _ _ _ hb hs).mono ?_); rintro e w1 ⟨rfl, rfl⟩)
    | (go_at_call 93; first | ((with_reducible refine (refHard_any (cl b) (cl s) _ hb hs).mono ?_); rintro e w1 ⟨rfl, rfl⟩) | ((with_reducible refine (refHard_any (cl s) (cl b) _ hs hb).mono ?_); rintro e w1 ⟨rfl, rfl⟩))
    | (go_at_call 94; (with_reducible refine (refDodge_any _ _ _ hb hs).mono ?_); rintro e w1 ⟨rfl, rfl⟩)
    | (go_at_call 95; (with_reducible refine (refBurn_any _ _ _ hb hs).mono ?_); rintro e w1 ⟨rfl, rfl⟩)
    | (go_at_call 96; (with_reducible refine (refAbs_any _ _ ?_).mono ?_); (focus (constructor <;> omega)); rintro e w1 ⟨rfl, rfl⟩; have h7 := dst_ch hb hs; have h8 := bl_ch 15 hb hs; simp [bl] at h8; rw [← dst_255] at h8)
    | (go_at_call 67; (with_reducible refine (refRound_any _ 2 _ ?_ ?_ ?_ ?_).mono ?_); (focus omega); (focus omega); (focus decide); (focus decide); rintro e w1 ⟨rfl, rfl⟩))
  all_goals go_ret
  all_goals exact ⟨ret_int (by simp_all [bl, sft, exc, dst_sub] <;> first | omega | (unfold dst; split <;> split <;> omega)), rfl⟩
end Go.Proofs.Ytkomknhloimhcaa
