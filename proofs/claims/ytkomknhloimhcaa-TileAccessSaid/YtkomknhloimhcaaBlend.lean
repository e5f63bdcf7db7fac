/-
  Blend and the function of a mode, of pixel and of the reference (contracts).
-/
import Derived.Test.YtkomknhloimhcaaNum
import Derived.Shelf.Abstract
namespace Go.Proofs.Ytkomknhloimhcaa
open Go.RowKit

/-- the function of a mode -/
def fno (m : Int) : FuncId :=
  if m = 1 then 71 else if m = 2 then 75 else if m = 3 then 76 else if m = 4 then 78 else if m = 5 then 79
  else if m = 6 then 80 else if m = 7 then 81 else if m = 8 then 77 else if m = 9 then 82 else if m = 10 then 83
  else if m = 11 then 84 else if m = 12 then 85 else if m = 13 then 86 else if m = 14 then 87
  else if m = 15 then 88 else 74
abbrev fv (m : Int) : Value := .func (.func (fno m)) #[] #[]
theorem blf_any (m b s : Int) (w : World) (hb : Ch b) (hs : Ch s) : Calls Try.prog (fno m) #[.int .i64 b, .int .i64 s] w fun e w' => e = .returned (.int .i64 (bl m b s)) ∧ Below w.heap.size w w' := by
  unfold fno bl
  by_cases h1 : m = 1; · simp only [if_pos h1]; exact product_any _ _ _ hb hs
  simp only [if_neg h1]
  by_cases h2 : m = 2; · simp only [if_pos h2]; exact Screen_any _ _ _ hb hs
  simp only [if_neg h2]
  by_cases h3 : m = 3; · simp only [if_pos h3]; exact b2_any _ _ _ hb hs
  simp only [if_neg h3]
  by_cases h4 : m = 4; · simp only [if_pos h4]; exact b3_any _ _ _
  simp only [if_neg h4]
  by_cases h5 : m = 5; · simp only [if_pos h5]; exact b4_any _ _ _
  simp only [if_neg h5]
  by_cases h6 : m = 6; · simp only [if_pos h6]; exact Dodge_any _ _ _ hb hs
  simp only [if_neg h6]
  by_cases h7 : m = 7; · simp only [if_pos h7]; exact Burn_any _ _ _ hb hs
  simp only [if_neg h7]
  by_cases h8 : m = 8; · simp only [if_pos h8]; exact Hard_any _ _ _ hb hs
  simp only [if_neg h8]
  by_cases h9 : m = 9; · simp only [if_pos h9]; exact soft_any _ _ _ hb hs
  simp only [if_neg h9]
  by_cases h10 : m = 10; · simp only [if_pos h10]; exact distance_any _ _ _ (by omega) (by omega)
  simp only [if_neg h10]
  by_cases h11 : m = 11; · simp only [if_pos h11]; exact b5_any _ _ _ hb hs
  simp only [if_neg h11]
  by_cases h12 : m = 12; · simp only [if_pos h12]; exact b6_any _ _ _ hb hs
  simp only [if_neg h12]
  by_cases h13 : m = 13; · simp only [if_pos h13]; exact b7_any _ _ _ hb hs
  simp only [if_neg h13]
  by_cases h14 : m = 14; · simp only [if_pos h14]; exact b8_any _ _ _ hb hs
  simp only [if_neg h14]
  by_cases h15 : m = 15; · simp only [if_pos h15]; exact b9_any _ _ _ hb hs
  simp only [if_neg h15]; exact b1_any _ _ _

theorem isMode_any (m : Int) (w : World) : Calls Try.prog 73 #[.int .i64 m] w fun e w' => e = .returned (.bool (decide (0 ≤ m ∧ m < 16))) ∧ w = w' := by
  go_enter Try.func73, Try.ntmps73
  go_wp2
  all_goals go_ret
  all_goals exact ⟨ret_bool (by simp; try omega), rfl⟩

theorem isMode_yes (m : Int) (w : World) (h : 0 ≤ m ∧ m < 16) : Calls Try.prog 73 #[.int .i64 m] w fun e w' => e = .returned (.bool true) ∧ w = w' := by
  have := isMode_any m w; rw [decide_eq_true h] at this; exact this
theorem isMode_no (m : Int) (w : World) (h : ¬ (0 ≤ m ∧ m < 16)) : Calls Try.prog 73 #[.int .i64 m] w fun e w' => e = .returned (.bool false) ∧ w = w' := by
  have := isMode_any m w; rw [decide_eq_false h] at this; exact this

theorem index_mode (m : Int) (w : World) (h : 0 ≤ m ∧ m < 16) : (Instr.index 83 (.agg #[.func (.func 74) #[] #[], .func (.func 71) #[] #[], .func (.func 75) #[] #[], .func (.func 76) #[] #[], .func (.func 78) #[] #[], .func (.func 79) #[] #[], .func (.func 80) #[] #[], .func (.func 81) #[] #[], .func (.func 77) #[] #[], .func (.func 82) #[] #[], .func (.func 83) #[] #[], .func (.func 84) #[] #[], .func (.func 85) #[] #[], .func (.func 86) #[] #[], .func (.func 87) #[] #[], .func (.func 88) #[] #[]]) (.int .i64 m)).run Try.prog w = .ok (fv m) w := by
  rcases (by omega : m = 0 ∨ m = 1 ∨ m = 2 ∨ m = 3 ∨ m = 4 ∨ m = 5 ∨ m = 6 ∨ m = 7 ∨ m = 8 ∨ m = 9 ∨ m = 10 ∨ m = 11 ∨ m = 12 ∨ m = 13 ∨ m = 14 ∨ m = 15) with rfl | rfl | rfl | rfl | rfl | rfl | rfl | rfl | rfl | rfl | rfl | rfl | rfl | rfl | rfl | rfl <;> rfl
theorem fmode_in (m : Int) (w : World) (h : 0 ≤ m ∧ m < 16) : Calls Try.prog 60 #[.int .i64 m] w fun e w' => e = .returned (fv m) ∧ w = w' := by
  have hi := fun w => index_mode m w h
  go_enter Try.func60, Try.ntmps60
  go_wp2_with (go_at_call 73; (with_reducible refine (isMode_yes _ _ h).mono ?_); rintro e w1 ⟨rfl, rfl⟩)
  go_ret
  exact ⟨rfl, rfl⟩
theorem fmode_any (m : Int) (w : World) : Calls Try.prog 60 #[.int .i64 m] w fun e w' => e = .returned (fv m) ∧ w = w' := by
  by_cases h : 0 ≤ m ∧ m < 16
  · exact fmode_in m w h
  · have hf : fv m = fv 0 := by
      unfold fv fno
      repeat rw [if_neg (by omega)]
    rw [hf]
    have hi := fun w => index_mode 0 w (by decide)
    go_enter Try.func60, Try.ntmps60
    go_wp2_with (go_at_call 73; (with_reducible refine (isMode_no _ _ h).mono ?_); rintro e w1 ⟨rfl, rfl⟩)
    go_ret
    exact ⟨rfl, rfl⟩
theorem fno_enters (m : Int) (args : Array Value) (w : World) : (callFunc (fno m) args).run Try.prog w = .ok (.enter (fno m) args) w := by
  unfold fno
  by_cases h1 : m = 1; · simp only [if_pos h1]; exact enters_of Try.func71 (by kernel_rfl) rfl args w
  simp only [if_neg h1]
  by_cases h2 : m = 2; · simp only [if_pos h2]; exact enters_of Try.func75 (by kernel_rfl) rfl args w
  simp only [if_neg h2]
  by_cases h3 : m = 3; · simp only [if_pos h3]; exact enters_of Try.func76 (by kernel_rfl) rfl args w
  simp only [if_neg h3]
  by_cases h4 : m = 4; · simp only [if_pos h4]; exact enters_of Try.func78 (by kernel_rfl) rfl args w
  simp only [if_neg h4]
  by_cases h5 : m = 5; · simp only [if_pos h5]; exact enters_of Try.func79 (by kernel_rfl) rfl args w
  simp only [if_neg h5]
  by_cases h6 : m = 6; · simp only [if_pos h6]; exact enters_of Try.func80 (by kernel_rfl) rfl args w
  simp only [if_neg h6]
  by_cases h7 : m = 7; · simp only [if_pos h7]; exact enters_of Try.func81 (by kernel_rfl) rfl args w
  simp only [if_neg h7]
  by_cases h8 : m = 8; · simp only [if_pos h8]; exact enters_of Try.func77 (by kernel_rfl) rfl args w
  simp only [if_neg h8]
  by_cases h9 : m = 9; · simp only [if_pos h9]; exact enters_of Try.func82 (by kernel_rfl) rfl args w
  simp only [if_neg h9]
  by_cases h10 : m = 10; · simp only [if_pos h10]; exact enters_of Try.func83 (by kernel_rfl) rfl args w
  simp only [if_neg h10]
  by_cases h11 : m = 11; · simp only [if_pos h11]; exact enters_of Try.func84 (by kernel_rfl) rfl args w
  simp only [if_neg h11]
  by_cases h12 : m = 12; · simp only [if_pos h12]; exact enters_of Try.func85 (by kernel_rfl) rfl args w
  simp only [if_neg h12]
  by_cases h13 : m = 13; · simp only [if_pos h13]; exact enters_of Try.func86 (by kernel_rfl) rfl args w
  simp only [if_neg h13]
  by_cases h14 : m = 14; · simp only [if_pos h14]; exact enters_of Try.func87 (by kernel_rfl) rfl args w
  simp only [if_neg h14]
  by_cases h15 : m = 15; · simp only [if_pos h15]; exact enters_of Try.func88 (by kernel_rfl) rfl args w
  simp only [if_neg h15]
  exact enters_of Try.func74 (by kernel_rfl) rfl args w
end Go.Proofs.Ytkomknhloimhcaa
