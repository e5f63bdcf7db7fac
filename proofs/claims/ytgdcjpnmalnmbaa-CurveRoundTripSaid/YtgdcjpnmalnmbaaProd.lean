/-
  Numbers of three words: products, comparison.
-/
import Derived.Test.YtgdcjpnmalnmbaaTimes
namespace Go.Proofs.Ytgdcjpnmalnmbaa
open Go.RowKit
variable {w : World}

/-- the words of a number -/
def u0 (v : Nat) : Nat := v / 18446744073709551616 / 18446744073709551616
def u1 (v : Nat) : Nat := v / 18446744073709551616 % 18446744073709551616
def u2 (v : Nat) : Nat := v % 18446744073709551616
abbrev wV (v : Nat) : Value := wv (u0 v) (u1 v) (u2 v)
/-- it fits into three words -/
def Fit (v : Nat) : Prop := v / 18446744073709551616 / 18446744073709551616 < 18446744073709551616
theorem fit_of_lt {v : Nat} (h : v < 2 ^ 192) : Fit v := by
  unfold Fit
  rw [Nat.div_div_eq_div_mul]
  exact Nat.div_lt_of_lt_mul (by simpa using h)
theorem u_wd {v : Nat} (h : Fit v) : Wd (u0 v) ∧ Wd (u1 v) ∧ Wd (u2 v) := ⟨h, Nat.mod_lt _ (by decide), Nat.mod_lt _ (by decide)⟩
theorem mul_step (u c f q : Nat) : (u * 18446744073709551616 + c) * f + q = (u * f + cy c f q) * 18446744073709551616 + dg c f q := by
  unfold cy dg
  rw [Nat.add_mul, Nat.mul_right_comm, Nat.add_mul]
  generalize c * f = p
  generalize u * f = r
  omega
theorem split3 (v : Nat) : v = (u0 v * 18446744073709551616 + u1 v) * 18446744073709551616 + u2 v := by unfold u0 u1 u2; omega
theorem words_mul {v f : Nat} (h : Fit (v * f)) : u0 (v * f) = d0 (u0 v) (u1 v) (u2 v) f 3 ∧ u1 (v * f) = d1 (u1 v) (u2 v) f 3 ∧ u2 (v * f) = d2 (u2 v) f 3 := by
  have e0 : v * f = ((u0 v * 18446744073709551616 + u1 v) * f + cy (u2 v) f 0) * 18446744073709551616 + dg (u2 v) f 0 := by
    have := mul_step (u0 v * 18446744073709551616 + u1 v) (u2 v) f 0
    rw [← split3 v] at this; simpa using this
  have e1 := mul_step (u0 v) (u1 v) f (cy (u2 v) f 0)
  have w2 := dg_wd (u2 v) f 0
  have w1 := dg_wd (u1 v) f (cy (u2 v) f 0)
  have q2 : d2 (u2 v) f 3 = dg (u2 v) f 0 := rfl
  have q1 : d1 (u1 v) (u2 v) f 3 = dg (u1 v) f (cy (u2 v) f 0) := rfl
  have q0 : d0 (u0 v) (u1 v) (u2 v) f 3 = (u0 v * f + cy (u1 v) f (cy (u2 v) f 0)) % 18446744073709551616 := rfl
  rw [q0, q1, q2]
  rw [e1] at e0
  generalize u0 v * f + cy (u1 v) f (cy (u2 v) f 0) = t at *
  generalize dg (u1 v) f (cy (u2 v) f 0) = s at *
  generalize dg (u2 v) f 0 = r at *
  unfold Wd at w1 w2
  unfold Fit at h
  unfold u0 u1 u2
  rw [e0] at h ⊢
  omega
theorem times_v (v f : Nat) (w : World) (hv : Fit v) (hf : f ≤ 1000000) (h : Fit (v * f)) :
    Calls Try.prog 108 #[wV v, .int .i64 f] w fun e w' => e = .returned (wV (v * f)) ∧ Below w.heap.size w w' := by
  obtain ⟨h0, h1, h2⟩ := u_wd hv
  have := times_any (u0 v) (u1 v) (u2 v) f w h0 h1 h2 hf
  obtain ⟨e0, e1, e2⟩ := words_mul h
  rw [← e0, ← e1, ← e2] at this
  exact this
theorem words_lt {v v' : Nat} : v < v' ↔ u0 v < u0 v' ∨ (u0 v = u0 v' ∧ (u1 v < u1 v' ∨ (u1 v = u1 v' ∧ u2 v < u2 v'))) := by
  have a := split3 v; have b := split3 v'
  have h1 : u1 v < 18446744073709551616 := Nat.mod_lt _ (by decide)
  have h2 : u2 v < 18446744073709551616 := Nat.mod_lt _ (by decide)
  have h3 : u1 v' < 18446744073709551616 := Nat.mod_lt _ (by decide)
  have h4 : u2 v' < 18446744073709551616 := Nat.mod_lt _ (by decide)
  omega
/-- what slices.Compare says of three words each -/
def lex3 (a b c a' b' c' : Nat) : Int := if cmpI a a' != 0 then cmpI a a' else if cmpI b b' != 0 then cmpI b b' else cmpI c c'
theorem lex_words (v v' : Nat) : decide (0 < lex3 (u0 v) (u1 v) (u2 v) (u0 v') (u1 v') (u2 v')) = decide (v' < v) := by
  rw [decide_eq_decide, words_lt]
  unfold lex3 cmpI
  (repeat' split) <;> simp_all <;> omega

set_option maxRecDepth 100000 in
set_option maxHeartbeats 4000000 in
theorem compare_any (a b c a' b' c' B0 B1 : Nat) (w : World) (h0 : w.heap[B0]? = some (wo a b c)) (h1 : w.heap[B1]? = some (wo a' b' c')) :
    Calls Try.prog 109 #[.slice (some ⟨B0, 0, none⟩) 3 3, .slice (some ⟨B1, 0, none⟩) 3 3] w fun e w' => e = .returned (.int .i64 (lex3 a b c a' b' c')) ∧ w = w' := by
  have x0 := cell_of_row _ _ 0 _ _ _ h0
  have x1 := cell_of_row _ _ 1 _ _ _ h0
  have x2 := cell_of_row _ _ 2 _ _ _ h0
  have y0 := cell_of_row _ _ 0 _ _ _ h1
  have y1 := cell_of_row _ _ 1 _ _ _ h1
  have y2 := cell_of_row _ _ 2 _ _ _ h1
  have HL : Hid (lex3 a b c a' b' c' = if cmpI a a' != 0 then cmpI a a' else if cmpI b b' != 0 then cmpI b b' else cmpI c c') := rfl
  generalize lex3 a b c a' b' c' = r at HL ⊢
  have H0 := Lib.hid (fun w => compareU_any a a' w)
  have H1 := Lib.hid (fun w => compareU_any b b' w)
  have H2 := Lib.hid (fun w => compareU_any c c' w)
  generalize cmpI (a : Nat) (a' : Nat) = r0 at H0 HL
  generalize cmpI (b : Nat) (b' : Nat) = r1 at H1 HL
  generalize cmpI (c : Nat) (c' : Nat) = r2 at H2 HL
  clear h0 h1
  go_enter Try.func109, Try.ntmps109
  go_wp2
  go_loop [11] (fun i => (i = .int .i64 0) ∨ (i = .int .i64 1 ∧ Hid (r0 = 0)) ∨ (i = .int .i64 2 ∧ Hid (r0 = 0 ∧ r1 = 0)) ∨ (i = .int .i64 3 ∧ Hid (r0 = 0 ∧ r1 = 0 ∧ r2 = 0))) (fun i => 3 - (intOf i).toNat)
  case atStart => exact .inl rfl
  case round =>
    rcases hrel with rfl | ⟨rfl, HR⟩ | ⟨rfl, HR⟩ | ⟨rfl, HR⟩
    · by_cases hz : r0 = 0
      · have HZ := Lib.hid hz
        have hz' : (r0 != 0) = false := by simp [hz]
        clear hz
        go_wp2_with (go_at_call 116; (with_reducible refine (H0.out _).mono ?_); rintro e w' ⟨rfl, rfl⟩)
        go_round
        case rel => exact .inr (.inl ⟨rfl, HZ⟩)
        case measure => simp [intOf]
      · have hz' : (r0 != 0) = true := by simp [hz]
        have HE : Hid (r = r0) := by rw [HL.out, if_pos hz']; rfl
        clear hz
        go_wp2_with (go_at_call 116; (with_reducible refine (H0.out _).mono ?_); rintro e w' ⟨rfl, rfl⟩)
        go_ret
        exact ⟨ret_int HE.out.symm, rfl⟩
    · by_cases hz : r1 = 0
      · have HZ := Lib.hid hz
        have hz' : (r1 != 0) = false := by simp [hz]
        clear hz
        go_wp2_with (go_at_call 116; (with_reducible refine (H1.out _).mono ?_); rintro e w' ⟨rfl, rfl⟩)
        go_round
        case rel => exact .inr (.inr (.inl ⟨rfl, HR, HZ⟩))
        case measure => simp [intOf]
      · have hz' : (r1 != 0) = true := by simp [hz]
        have HE : Hid (r = r1) := by rw [HL.out, HR.out, if_neg (by decide), if_pos hz']; rfl
        clear hz
        go_wp2_with (go_at_call 116; (with_reducible refine (H1.out _).mono ?_); rintro e w' ⟨rfl, rfl⟩)
        go_ret
        exact ⟨ret_int HE.out.symm, rfl⟩
    · by_cases hz : r2 = 0
      · have HZ := Lib.hid hz
        have hz' : (r2 != 0) = false := by simp [hz]
        clear hz
        go_wp2_with (go_at_call 116; (with_reducible refine (H2.out _).mono ?_); rintro e w' ⟨rfl, rfl⟩)
        go_round
        case rel => exact .inr (.inr (.inr ⟨rfl, HR.out.1, HR.out.2, HZ⟩))
        case measure => simp [intOf]
      · have hz' : (r2 != 0) = true := by simp [hz]
        have HE : Hid (r = r2) := by rw [HL.out, HR.out.1, HR.out.2, if_neg (by decide), if_neg (by decide)]; rfl
        clear hz
        go_wp2_with (go_at_call 116; (with_reducible refine (H2.out _).mono ?_); rintro e w' ⟨rfl, rfl⟩)
        go_ret
        exact ⟨ret_int HE.out.symm, rfl⟩
    · have HE : Hid (r = 0) := by rw [HL.out, HR.out.1, HR.out.2.1, HR.out.2.2]; rfl
      go_wp2
      go_ret
      exact ⟨ret_int HE.out.symm, rfl⟩
end Go.Proofs.Ytgdcjpnmalnmbaa
