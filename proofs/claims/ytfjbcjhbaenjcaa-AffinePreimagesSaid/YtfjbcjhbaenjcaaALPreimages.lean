/-
  AffinePreimages: for all small placements and points, the preimage of the centre of a pixel lies in the square of its source. No conditions.
-/
import Derived.Test.YtfjbcjhbaenjcaaAOpen
namespace Go.Proofs.Ytfjbcjhbaenjcaa.F.ALPreimages
open Go.ChangeShapes Go.WideShapes Go.ChangeAt Go.RowKit
set_option maxRecDepth 100000


set_option maxHeartbeats 8000000 in
set_option maxRecDepth 100000 in
theorem walk (q0 q1 q2 q3 q4 q5 q6 n0 n1 : Int) (w : World) : Calls Try.prog 8 #[.agg #[.int .i64 q0, .int .i64 q1, .int .i64 q2, .int .i64 q3, .int .i64 q4, .int .i64 q5, .int .i64 q6], .agg #[.int .i64 n0, .int .i64 n1]] w fun en w' => en = .returned (.bool true) ∧ Below w.heap.size w w' := by
  obtain ⟨s0, s1, s2, s3, s4, s5, s6, hsm⟩ : ∃ s0 s1 s2 s3 s4 s5 s6, sm7 q0 q1 q2 q3 q4 q5 q6 = ⟨s0, s1, s2, s3, s4, s5, s6⟩ := ⟨_, _, _, _, _, _, _, rfl⟩
  have hsl := sm7_sl q0 q1 q2 q3 q4 q5 q6
  rw [hsm] at hsl
  have HSM : Hid (∀ W, Calls Try.prog 14 #[.agg #[.int .i64 q0, .int .i64 q1, .int .i64 q2, .int .i64 q3, .int .i64 q4, .int .i64 q5, .int .i64 q6]] W fun en w' => en = .returned (av s0 s1 s2 s3 s4 s5 s6) ∧ Below W.heap.size W w') := fun W => by
    have := sm7_any q0 q1 q2 q3 q4 q5 q6 W; rw [hsm] at this; exact this
  clear hsm
  obtain ⟨u, hu⟩ : ∃ z, n0.tmod 200 = z := ⟨_, rfl⟩
  have bu : -200 < u ∧ u < 200 := by have := (tmod_bd n0 200).1 (by omega); rw [hu] at this; exact this
  obtain ⟨v, hv⟩ : ∃ z, n1.tmod 200 = z := ⟨_, rfl⟩
  have bv : -200 < v ∧ v < 200 := by have := (tmod_bd n1 200).1 (by omega); rw [hv] at this; exact this
  have hok : Ok ⟨s0, s1, s2, s3, s4, s5, s6⟩ := ⟨sl_bd hsl.1, hsl.2⟩
  have hc1 : inC u v = true := (has_iff _ _ _ _ _ _).2 (by omega)
  have h2 : srcT ⟨s0, s1, s2, s3, s4, s5, s6⟩ u v = ⟨sx ⟨s0, s1, s2, s3, s4, s5, s6⟩ u v, sy ⟨s0, s1, s2, s3, s4, s5, s6⟩ u v, 0⟩ := by unfold srcT; rw [(okA_iff _).2 hok, hc1]; rfl
  have HA : Hid (∀ W, Calls Try.prog 30 #[av s0 s1 s2 s3 s4 s5 s6, tv u v] W fun en w' => en = .returned (.tuple #[tv (sx ⟨s0, s1, s2, s3, s4, s5, s6⟩ u v) (sy ⟨s0, s1, s2, s3, s4, s5, s6⟩ u v), .int .i64 0]) ∧ Below W.heap.size W w') := fun W => by
    have := sourceT_any s0 s1 s2 s3 s4 s5 s6 u v W; rw [h2] at this; exact this
  have HD : Hid (∀ W, Calls Try.prog 36 #[av s0 s1 s2 s3 s4 s5 s6] W fun en w' => en = .returned (.int .i64 (det ⟨s0, s1, s2, s3, s4, s5, s6⟩)) ∧ Below W.heap.size W w') := fun W => by
    have := refDet_any s0 s1 s2 s3 s4 s5 s6 W; rw [show detw s0 s1 s3 s4 = det ⟨s0, s1, s2, s3, s4, s5, s6⟩ from detw_eq hok.1] at this; exact this
  have kb : Cb u ∧ Cb v := inC_cb hc1
  obtain ⟨f0, f1, f2, f3, _, _⟩ := src_facts hok kb.1 kb.2
  have bn := nxy_bd hok.1 kb.1 kb.2
  have bd := det_bd hok.1
  have bs := sxy_bd hok kb.1 kb.2
  have hpq : (det ⟨s0, s1, s2, s3, s4, s5, s6⟩ < 0 → (2 * (-det ⟨s0, s1, s2, s3, s4, s5, s6⟩) * sx ⟨s0, s1, s2, s3, s4, s5, s6⟩ u v ≤ -(nx ⟨s0, s1, s2, s3, s4, s5, s6⟩ u v) ∧ -(nx ⟨s0, s1, s2, s3, s4, s5, s6⟩ u v) < 2 * (-det ⟨s0, s1, s2, s3, s4, s5, s6⟩) * (sx ⟨s0, s1, s2, s3, s4, s5, s6⟩ u v + 1)) ∧ (2 * (-det ⟨s0, s1, s2, s3, s4, s5, s6⟩) * sy ⟨s0, s1, s2, s3, s4, s5, s6⟩ u v ≤ -(ny ⟨s0, s1, s2, s3, s4, s5, s6⟩ u v) ∧ -(ny ⟨s0, s1, s2, s3, s4, s5, s6⟩ u v) < 2 * (-det ⟨s0, s1, s2, s3, s4, s5, s6⟩) * (sy ⟨s0, s1, s2, s3, s4, s5, s6⟩ u v + 1))) ∧ (¬ det ⟨s0, s1, s2, s3, s4, s5, s6⟩ < 0 → (2 * det ⟨s0, s1, s2, s3, s4, s5, s6⟩ * sx ⟨s0, s1, s2, s3, s4, s5, s6⟩ u v ≤ nx ⟨s0, s1, s2, s3, s4, s5, s6⟩ u v ∧ nx ⟨s0, s1, s2, s3, s4, s5, s6⟩ u v < 2 * det ⟨s0, s1, s2, s3, s4, s5, s6⟩ * (sx ⟨s0, s1, s2, s3, s4, s5, s6⟩ u v + 1)) ∧ (2 * det ⟨s0, s1, s2, s3, s4, s5, s6⟩ * sy ⟨s0, s1, s2, s3, s4, s5, s6⟩ u v ≤ ny ⟨s0, s1, s2, s3, s4, s5, s6⟩ u v ∧ ny ⟨s0, s1, s2, s3, s4, s5, s6⟩ u v < 2 * det ⟨s0, s1, s2, s3, s4, s5, s6⟩ * (sy ⟨s0, s1, s2, s3, s4, s5, s6⟩ u v + 1))) := by
    refine ⟨fun hd => ?_, fun hd => ?_⟩
    · have e : 2 * (-det ⟨s0, s1, s2, s3, s4, s5, s6⟩) = -(2 * det ⟨s0, s1, s2, s3, s4, s5, s6⟩) := by omega
      rw [e]
      have k1 := (fl_pos (n := -(nx ⟨s0, s1, s2, s3, s4, s5, s6⟩ u v)) (d := -(2 * det ⟨s0, s1, s2, s3, s4, s5, s6⟩)) (q := sx ⟨s0, s1, s2, s3, s4, s5, s6⟩ u v) (by omega)).1 (fl_neg f0)
      have k2 := (fl_pos (n := -(ny ⟨s0, s1, s2, s3, s4, s5, s6⟩ u v)) (d := -(2 * det ⟨s0, s1, s2, s3, s4, s5, s6⟩)) (q := sy ⟨s0, s1, s2, s3, s4, s5, s6⟩ u v) (by omega)).1 (fl_neg f0)
      rw [Int.mul_add, Int.mul_add, Int.mul_one]; exact ⟨k1, k2⟩
    · have k1 := (fl_pos (n := nx ⟨s0, s1, s2, s3, s4, s5, s6⟩ u v) (d := 2 * det ⟨s0, s1, s2, s3, s4, s5, s6⟩) (q := sx ⟨s0, s1, s2, s3, s4, s5, s6⟩ u v) (by omega)).1 rfl
      have k2 := (fl_pos (n := ny ⟨s0, s1, s2, s3, s4, s5, s6⟩ u v) (d := 2 * det ⟨s0, s1, s2, s3, s4, s5, s6⟩) (q := sy ⟨s0, s1, s2, s3, s4, s5, s6⟩ u v) (by omega)).1 rfl
      rw [Int.mul_add, Int.mul_add, Int.mul_one]; exact ⟨k1, k2⟩
  have u1 := uv_bd hok.1 kb.1 s2 hok.1.2.2.2.2.2.1
  have u2 := uv_bd hok.1 kb.2 s5 hok.1.2.2.2.2.2.2
  simp only at u1 u2
  obtain ⟨U, hU⟩ : ∃ U, s6 * (2 * u + 1) - 2 * s2 = U := ⟨_, rfl⟩
  obtain ⟨V, hV⟩ : ∃ V, s6 * (2 * v + 1) - 2 * s5 = V := ⟨_, rfl⟩
  have HE : Hid (nx ⟨s0, s1, s2, s3, s4, s5, s6⟩ u v = s4 * U - s1 * V ∧ ny ⟨s0, s1, s2, s3, s4, s5, s6⟩ u v = s0 * V - s3 * U) := by subst hU hV; exact ⟨rfl, rfl⟩
  have hl := hsl.1
  unfold Sl at hl
  simp only at hl
  have g1 : wrap64 (2 * u) = 2 * u := w64 ⟨by omega, by omega⟩
  have g2 : wrap64 (2 * u + 1) = 2 * u + 1 := w64 ⟨by omega, by omega⟩
  have g3 : wrap64 (s6 * (2 * u + 1)) = s6 * (2 * u + 1) := w64 ⟨by omega, by omega⟩
  have g4 : wrap64 (2 * s2) = 2 * s2 := w64 ⟨by omega, by omega⟩
  have g5 : wrap64 (s6 * (2 * u + 1) - 2 * s2) = U := by rw [hU]; exact w64 ⟨by omega, by omega⟩
  have g6 : wrap64 (2 * v) = 2 * v := w64 ⟨by omega, by omega⟩
  have g7 : wrap64 (2 * v + 1) = 2 * v + 1 := w64 ⟨by omega, by omega⟩
  have g8 : wrap64 (s6 * (2 * v + 1)) = s6 * (2 * v + 1) := w64 ⟨by omega, by omega⟩
  have g9 : wrap64 (2 * s5) = 2 * s5 := w64 ⟨by omega, by omega⟩
  have g10 : wrap64 (s6 * (2 * v + 1) - 2 * s5) = V := by rw [hV]; exact w64 ⟨by omega, by omega⟩
  have bU : -2000000000 ≤ U ∧ U ≤ 2000000000 := by omega
  have bV : -2000000000 ≤ V ∧ V ≤ 2000000000 := by omega
  have m1 := mul_le_of (x := s4) (a := 4) (by omega) bU
  have m2 := mul_le_of (x := s1) (a := 4) (by omega) bV
  have m3 := mul_le_of (x := s0) (a := 4) (by omega) bV
  have m4 := mul_le_of (x := s3) (a := 4) (by omega) bU
  obtain ⟨X, hX⟩ : ∃ X, nx ⟨s0, s1, s2, s3, s4, s5, s6⟩ u v = X := ⟨_, rfl⟩
  obtain ⟨Y, hY⟩ : ∃ Y, ny ⟨s0, s1, s2, s3, s4, s5, s6⟩ u v = Y := ⟨_, rfl⟩
  rw [hX, hY] at HE
  have g11 : wrap64 (s4 * U) = s4 * U := w64 ⟨by omega, by omega⟩
  have g12 : wrap64 (s1 * V) = s1 * V := w64 ⟨by omega, by omega⟩
  have g13 : wrap64 (s4 * U - s1 * V) = X := by rw [← HE.out.1]; rw [HE.out.1]; exact w64 ⟨by omega, by omega⟩
  have g14 : wrap64 (s0 * V) = s0 * V := w64 ⟨by omega, by omega⟩
  have g15 : wrap64 (s3 * U) = s3 * U := w64 ⟨by omega, by omega⟩
  have g16 : wrap64 (s0 * V - s3 * U) = Y := by rw [← HE.out.2]; rw [HE.out.2]; exact w64 ⟨by omega, by omega⟩
  rw [hX, hY] at hpq bn
  have dl : -40 ≤ det ⟨s0, s1, s2, s3, s4, s5, s6⟩ ∧ det ⟨s0, s1, s2, s3, s4, s5, s6⟩ ≤ 40 := by
    have k1 := mul_le_of (x := s0) (y := s4) (a := 4) (b := 4) (by omega) (by omega)
    have k2 := mul_le_of (x := s1) (y := s3) (a := 4) (b := 4) (by omega) (by omega)
    unfold det; simp only; omega
  generalize sx ⟨s0, s1, s2, s3, s4, s5, s6⟩ u v = sX at *
  generalize sy ⟨s0, s1, s2, s3, s4, s5, s6⟩ u v = sY at *
  generalize det ⟨s0, s1, s2, s3, s4, s5, s6⟩ = D at *
  clear h2 f1 f2 f3 hX hY hU hV HE u1 u2 hl hsl hok hc1 kb bU bV m1 m2 m3 m4 bd
  have q1 := mul_le_of (x := D) (y := sX) (a := 40) (b := 20000000000002) (by omega) (by omega)
  have q2 := mul_le_of (x := D) (y := sY) (a := 40) (b := 20000000000002) (by omega) (by omega)
  have g17 : wrap64 (-D) = -D := w64 ⟨by omega, by omega⟩
  have g18 : wrap64 (-X) = -X := w64 ⟨by omega, by omega⟩
  have g19 : wrap64 (-Y) = -Y := w64 ⟨by omega, by omega⟩
  have g20 : wrap64 (2 * D) = 2 * D := w64 ⟨by omega, by omega⟩
  have g21 : wrap64 (2 * -D) = 2 * -D := w64 ⟨by omega, by omega⟩
  have g22 : wrap64 (sX + 1) = sX + 1 := w64 ⟨by omega, by omega⟩
  have g23 : wrap64 (sY + 1) = sY + 1 := w64 ⟨by omega, by omega⟩
  have r1 : 2 * D * sX = 2 * (D * sX) := Int.mul_assoc _ _ _
  have r2 : 2 * D * sY = 2 * (D * sY) := Int.mul_assoc _ _ _
  have r3 : 2 * -D * sX = -(2 * (D * sX)) := by grind
  have r4 : 2 * -D * sY = -(2 * (D * sY)) := by grind
  have r5 : 2 * D * (sX + 1) = 2 * (D * sX) + 2 * D := by grind
  have r6 : 2 * D * (sY + 1) = 2 * (D * sY) + 2 * D := by grind
  have r7 : 2 * -D * (sX + 1) = -(2 * (D * sX)) - 2 * D := by grind
  have r8 : 2 * -D * (sY + 1) = -(2 * (D * sY)) - 2 * D := by grind
  have g24 : wrap64 (2 * D * sX) = 2 * D * sX := w64 ⟨by omega, by omega⟩
  have g25 : wrap64 (2 * D * sY) = 2 * D * sY := w64 ⟨by omega, by omega⟩
  have g26 : wrap64 (2 * -D * sX) = 2 * -D * sX := w64 ⟨by omega, by omega⟩
  have g27 : wrap64 (2 * -D * sY) = 2 * -D * sY := w64 ⟨by omega, by omega⟩
  have g28 : wrap64 (2 * D * (sX + 1)) = 2 * D * (sX + 1) := w64 ⟨by omega, by omega⟩
  have g29 : wrap64 (2 * D * (sY + 1)) = 2 * D * (sY + 1) := w64 ⟨by omega, by omega⟩
  have g30 : wrap64 (2 * -D * (sX + 1)) = 2 * -D * (sX + 1) := w64 ⟨by omega, by omega⟩
  have g31 : wrap64 (2 * -D * (sY + 1)) = 2 * -D * (sY + 1) := w64 ⟨by omega, by omega⟩
  clear r1 r2 r3 r4 r5 r6 r7 r8 q1 q2 bn bs f0 dl
  go_enter Try.func8, Try.ntmps8
  go_upto_region 1 with fail
  have h0 := (((St.start w).alloc ((.cells #[.int .i64 q0, .int .i64 q1, .int .i64 q2, .int .i64 q3, .int .i64 q4, .int .i64 q5, .int .i64 q6] 26 : Obj))).alloc ((.cells #[.int .i64 n0, .int .i64 n1] 72 : Obj)))
  simp only [World.size_alloc] at h0
  generalize hb0 : w.heap.size = b0 at h0 ⊢
  generalize (w.alloc ((.cells #[.int .i64 q0, .int .i64 q1, .int .i64 q2, .int .i64 q3, .int .i64 q4, .int .i64 q5, .int .i64 q6] 26 : Obj))).alloc ((.cells #[.int .i64 n0, .int .i64 n1] 72 : Obj)) = w0 at h0 ⊢
  go_upto_region 2 with (first | (go_at_call 13; (with_reducible refine (St.call h0 (sane_any _)).mono ?_); rintro en w1 ⟨rfl, h1⟩))
  have zh10 := St.cell h1 (b := b0) (cs := #[.int .i64 q0, .int .i64 q1, .int .i64 q2, .int .i64 q3, .int .i64 q4, .int .i64 q5, .int .i64 q6]) (t := 26) (by simp) 0; have zh11 := St.cell h1 (b := b0) (cs := #[.int .i64 q0, .int .i64 q1, .int .i64 q2, .int .i64 q3, .int .i64 q4, .int .i64 q5, .int .i64 q6]) (t := 26) (by simp) 1; have zh12 := St.cell h1 (b := b0) (cs := #[.int .i64 q0, .int .i64 q1, .int .i64 q2, .int .i64 q3, .int .i64 q4, .int .i64 q5, .int .i64 q6]) (t := 26) (by simp) 2; have zh13 := St.cell h1 (b := b0) (cs := #[.int .i64 q0, .int .i64 q1, .int .i64 q2, .int .i64 q3, .int .i64 q4, .int .i64 q5, .int .i64 q6]) (t := 26) (by simp) 3; have zh14 := St.cell h1 (b := b0) (cs := #[.int .i64 q0, .int .i64 q1, .int .i64 q2, .int .i64 q3, .int .i64 q4, .int .i64 q5, .int .i64 q6]) (t := 26) (by simp) 4; have zh15 := St.cell h1 (b := b0) (cs := #[.int .i64 q0, .int .i64 q1, .int .i64 q2, .int .i64 q3, .int .i64 q4, .int .i64 q5, .int .i64 q6]) (t := 26) (by simp) 5; have zh16 := St.cell h1 (b := b0) (cs := #[.int .i64 q0, .int .i64 q1, .int .i64 q2, .int .i64 q3, .int .i64 q4, .int .i64 q5, .int .i64 q6]) (t := 26) (by simp) 6; simp only [List.getElem?_toArray, List.getElem?_cons_zero, List.getElem?_cons_succ] at zh10 zh11 zh12 zh13 zh14 zh15 zh16
  go_upto_region 3 with (first | (go_at_call 14; (with_reducible refine (St.call h1 (HSM.out _)).mono ?_); rintro en w2 ⟨rfl, h2⟩))
  have h3 := h2.alloc (ao s0 s1 s2 s3 s4 s5 s6)
  generalize w2.heap.size = c1 at h3 ⊢
  generalize w2.alloc (ao s0 s1 s2 s3 s4 s5 s6) = w3 at h3 ⊢
  have zh30 := St.cell h3 (b := b0 + 1) (cs := #[.int .i64 n0, .int .i64 n1]) (t := 72) (by simp) 0; have zh31 := St.cell h3 (b := b0 + 1) (cs := #[.int .i64 n0, .int .i64 n1]) (t := 72) (by simp) 1; simp only [List.getElem?_toArray, List.getElem?_cons_zero, List.getElem?_cons_succ] at zh30 zh31
  go_upto_region 4 with fail
  have h4 := h3.alloc (pob u v)
  generalize w3.heap.size = c2 at h4 ⊢
  generalize w3.alloc (pob u v) = w4 at h4 ⊢
  obtain ⟨_, _, _, _, _, _, _⟩ := St.aff h4 (b := c1) (a := s0) (b' := s1) (c := s2) (d := s3) (e := s4) (f := s5) (n := s6) (by simp)
  obtain ⟨_, _⟩ := St.pt h4 (b := c2) (x := u) (y := v) (by simp)
  go_upto_region 5 with (first | (go_at_call 30; (with_reducible refine (St.call h4 (HA.out _)).mono ?_); rintro en w5 ⟨rfl, h5⟩))
  have h6 := h5.alloc (pob sX sY)
  generalize w5.heap.size = c3 at h6 ⊢
  generalize w5.alloc (pob sX sY) = w6 at h6 ⊢
  obtain ⟨_, _, _, _, _, _, _⟩ := St.aff h6 (b := c1) (a := s0) (b' := s1) (c := s2) (d := s3) (e := s4) (f := s5) (n := s6) (by simp)
  go_upto_region 6 with (first | (go_at_call 36; (with_reducible refine (St.call h6 (HD.out _)).mono ?_); rintro en w7 ⟨rfl, h7⟩; obtain ⟨_, _, _, _, _, _, _⟩ := St.aff h7 (b := c1) (a := s0) (b' := s1) (c := s2) (d := s3) (e := s4) (f := s5) (n := s6) (by simp); obtain ⟨_, _⟩ := St.pt h7 (b := c2) (x := u) (y := v) (by simp); obtain ⟨_, _⟩ := St.pt h7 (b := c3) (x := sX) (y := sY) (by simp)))
  by_cases hd : D < 0
  · obtain ⟨⟨P1, P2⟩, P3, P4⟩ := hpq.1 hd
    clear hpq
    go_wp2
    all_goals go_ret
    all_goals subst hb0
    all_goals exact ⟨ret_bool (by simp [*]), h7.below⟩
  · obtain ⟨⟨P1, P2⟩, P3, P4⟩ := hpq.2 (by omega)
    clear hpq
    go_wp2
    all_goals go_ret
    all_goals subst hb0
    all_goals exact ⟨ret_bool (by simp [*]), h7.below⟩

set_option maxRecDepth 100000 in
theorem lifted (os : Os) (started : os.Started) (H : Type) (enc : TypeId × Value → H) :
    ReturnsInHanded {} Try.checked os 8 .any (Rows.affinePreimagesSpec.pre6 enc Try.prog Try.f8 Rows.affinePreimagesRow.domain false) (Rows.affinePreimagesSpec.post enc Try.prog Try.f8 false true false false) := by
  refine returnsInHanded_of_change_sized (C := Try.checked) own started (by kernel_rfl) Try.func8
    (ChangeSpec.witness6 (enc := enc) (C := Try.checked) false ⟨#[], #[.agg #[.int .i64 0, .int .i64 0, .int .i64 0, .int .i64 0, .int .i64 0, .int .i64 0, .int .i64 0], .agg #[.int .i64 0, .int .i64 0]], []⟩ 8 (by kernel_rfl) (by kernel_rfl) (by kernel_rfl) (by kernel_rfl)) ?_
  intro W base args ds gs before hval0 hW _ _ _
  have hval : ∀ (j : Nat) t v, Try.f8.params[j]? = some t → args[j]? = some v → Value.okWide Try.prog W .any base t v := hval0
  have hW' := hW
  obtain ⟨p, q, hA0, hV, rfl, hfz, hnd⟩ := hW
  have hA : DataW.TrodAll enc Try.prog W 0 (fun _ => true) true Try.f8.params.toList args.toList ds p := hA0
  rw [Try.params8] at hA hval
  obtain ⟨v0, v1, d0, d1, p0, p1, rfl, rfl, rfl, h0, h1⟩ := trodAll_two hA
  obtain ⟨rfl, rfl⟩ := trodVars_none hV
  obtain ⟨q0, q1, q2, q3, q4, q5, q6, rfl⟩ := op__7_int (hval 0 26 v0 rfl rfl)
  obtain ⟨n0, n1, rfl⟩ := op__2_int (hval 1 72 v1 rfl rfl)
  refine (walk q0 q1 q2 q3 q4 q5 q6 n0 n1 W).mono fun en W' ⟨he, hb⟩ => ?_
  subst he
  exact ⟨_, rfl, law_post hW' rfl (by kernel_rfl) rfl (by intro t ht; rw [Try.params8] at ht; simp at ht; rcases ht with rfl | rfl <;> exact ⟨by kernel_rfl, of_decide_eq_true (by kernel_rfl)⟩) hb⟩

theorem holds : Rows.AffinePreimagesSaid :=
  OpenClaim.holds_of_wide 8 Try.f8 rfl rfl rfl rfl rfl rfl rfl ⟨rfl, rfl, rfl, rfl, rfl⟩ rfl rfl rfl rfl rfl (by kernel_rfl) Try.func8 (by kernel_rfl)
    (of_decide_eq_true (by kernel_rfl)) (by unfold Func.isWrapper; first | (rw [if_pos (by decide +kernel)]; kernel_rfl) | (rw [if_neg (by decide +kernel)]; exact ⟨rfl, rfl⟩))
    (fun os started H enc _ => lifted os started H enc)
end Go.Proofs.Ytfjbcjhbaenjcaa.F.ALPreimages
