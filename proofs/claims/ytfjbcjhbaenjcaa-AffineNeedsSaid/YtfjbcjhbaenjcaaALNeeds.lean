/-
  AffineNeeds: for all small placements and rectangles, Need contains the source of every pixel of the rectangle, and each of its four sides is reached by some source. No conditions.
-/
import Derived.Test.YtfjbcjhbaenjcaaAOpen
import Derived.Test.YtfjbcjhbaenjcaaASeen
namespace Go.Proofs.Ytfjbcjhbaenjcaa.F.ALNeeds
open Go.ChangeShapes Go.WideShapes Go.ChangeAt Go.RowKit
set_option maxRecDepth 100000

theorem sml_lim (a b c d : Int) : (-20 ≤ (sml a b c d).x0 ∧ (sml a b c d).x0 ≤ 20) ∧ (-20 ≤ (sml a b c d).y0 ∧ (sml a b c d).y0 ≤ 20) ∧ ((sml a b c d).x0 ≤ (sml a b c d).x1 ∧ (sml a b c d).x1 ≤ (sml a b c d).x0 + 39) ∧ ((sml a b c d).y0 ≤ (sml a b c d).y1 ∧ (sml a b c d).y1 ≤ (sml a b c d).y0 + 39) := by
  unfold sml; simp only; omega
theorem chk_small {a : Af} {r0 r1 r2 r3 : Int} (h : Ok a) (hl : (-20 ≤ r0 ∧ r0 ≤ 20) ∧ (-20 ≤ r1 ∧ r1 ≤ 20) ∧ (r0 ≤ r2 ∧ r2 ≤ r0 + 39) ∧ (r1 ≤ r3 ∧ r3 ≤ r1 + 39)) : chkE a r0 r1 r2 r3 = 0 := by
  unfold chkE
  rw [if_pos]
  rw [(okA_iff _).2 h, Bool.true_and]
  cases he : emp r0 r1 r2 r3
  · rw [Bool.false_or]; unfold vld; rw [he, Bool.not_false, Bool.true_and, ins_iff]; omega
  · rfl

set_option maxHeartbeats 8000000 in
set_option maxRecDepth 100000 in
theorem walk (q0 q1 q2 q3 q4 q5 q6 n0 n1 n2 n3 : Int) (w : World) : Calls Try.prog 9 #[.agg #[.int .i64 q0, .int .i64 q1, .int .i64 q2, .int .i64 q3, .int .i64 q4, .int .i64 q5, .int .i64 q6], .agg #[.int .i64 n0, .int .i64 n1, .int .i64 n2, .int .i64 n3]] w fun en w' => en = .returned (.bool true) ∧ Below w.heap.size w w' := by
  obtain ⟨s0, s1, s2, s3, s4, s5, s6, hsm⟩ : ∃ s0 s1 s2 s3 s4 s5 s6, sm7 q0 q1 q2 q3 q4 q5 q6 = ⟨s0, s1, s2, s3, s4, s5, s6⟩ := ⟨_, _, _, _, _, _, _, rfl⟩
  have hsl := sm7_sl q0 q1 q2 q3 q4 q5 q6
  rw [hsm] at hsl
  have HSM : Hid (∀ W, Calls Try.prog 14 #[.agg #[.int .i64 q0, .int .i64 q1, .int .i64 q2, .int .i64 q3, .int .i64 q4, .int .i64 q5, .int .i64 q6]] W fun en w' => en = .returned (av s0 s1 s2 s3 s4 s5 s6) ∧ Below W.heap.size W w') := fun W => by
    have := sm7_any q0 q1 q2 q3 q4 q5 q6 W; rw [hsm] at this; exact this
  clear hsm
  have hok : Ok ⟨s0, s1, s2, s3, s4, s5, s6⟩ := ⟨sl_bd hsl.1, hsl.2⟩
  have HM0 : Hid (∀ W, Calls Try.prog 15 #[.int .i64 n2, .int .i64 12] W fun en w' => en = .returned (.int .i64 (n2 % 12)) ∧ Below W.heap.size W w') := fun W => lrest_any n2 12 W (by omega) (by omega)
  have HM1 : Hid (∀ W, Calls Try.prog 15 #[.int .i64 n3, .int .i64 12] W fun en w' => en = .returned (.int .i64 (n3 % 12)) ∧ Below W.heap.size W w') := fun W => lrest_any n3 12 W (by omega) (by omega)
  obtain ⟨e2, he2⟩ : ∃ e, n2 % 12 = e := ⟨_, rfl⟩
  obtain ⟨e3, he3⟩ : ∃ e, n3 % 12 = e := ⟨_, rfl⟩
  have b2 : 0 ≤ e2 ∧ e2 < 12 := by omega
  have b3 : 0 ≤ e3 ∧ e3 < 12 := by omega
  rw [he2] at HM0
  rw [he3] at HM1
  clear he2 he3
  obtain ⟨m2, hm2⟩ : ∃ e, 1 + e2 = e := ⟨_, rfl⟩
  obtain ⟨m3, hm3⟩ : ∃ e, 1 + e3 = e := ⟨_, rfl⟩
  have v2 : IntKind.i64.wrap (1 + e2) = m2 := by rw [hm2]; exact wI64 ⟨by omega, by omega⟩
  have v3 : IntKind.i64.wrap (1 + e3) = m3 := by rw [hm3]; exact wI64 ⟨by omega, by omega⟩
  have hpos : (sml n0 n1 m2 m3).x0 < (sml n0 n1 m2 m3).x1 ∧ (sml n0 n1 m2 m3).y0 < (sml n0 n1 m2 m3).y1 := by unfold sml; simp only; omega
  obtain ⟨r0, r1, r2, r3, hrr⟩ : ∃ r0 r1 r2 r3, sml n0 n1 m2 m3 = ⟨r0, r1, r2, r3⟩ := ⟨_, _, _, _, rfl⟩
  have hrl := sml_lim n0 n1 m2 m3
  rw [hrr] at hrl hpos
  simp only at hrl hpos
  have HRS : Hid (∀ W, Calls Try.prog 29 #[.agg #[.int .i64 n0, .int .i64 n1, .int .i64 m2, .int .i64 m3]] W fun en w' => en = .returned (rv r0 r1 r2 r3) ∧ Below W.heap.size W w') := fun W => by
    have := small_any n0 n1 m2 m3 W; rw [hrr] at this; exact this
  have hnd : needT ⟨s0, s1, s2, s3, s4, s5, s6⟩ r0 r1 r2 r3 = ⟨nd0 ⟨s0, s1, s2, s3, s4, s5, s6⟩ r0 r1 r2 r3, nd1 ⟨s0, s1, s2, s3, s4, s5, s6⟩ r0 r1 r2 r3, nd2 ⟨s0, s1, s2, s3, s4, s5, s6⟩ r0 r1 r2 r3 + 1, nd3 ⟨s0, s1, s2, s3, s4, s5, s6⟩ r0 r1 r2 r3 + 1, 0⟩ := by
    unfold needT; rw [if_pos (chk_small hok hrl), if_neg (by rw [(emp_not _ _ _ _).2 hpos]; decide)]
  have HN : Hid (∀ W, Calls Try.prog 31 #[av s0 s1 s2 s3 s4 s5 s6, rv r0 r1 r2 r3] W fun en w' => en = .returned (.tuple #[rv (nd0 ⟨s0, s1, s2, s3, s4, s5, s6⟩ r0 r1 r2 r3) (nd1 ⟨s0, s1, s2, s3, s4, s5, s6⟩ r0 r1 r2 r3) (nd2 ⟨s0, s1, s2, s3, s4, s5, s6⟩ r0 r1 r2 r3 + 1) (nd3 ⟨s0, s1, s2, s3, s4, s5, s6⟩ r0 r1 r2 r3 + 1), .int .i64 0]) ∧ Below W.heap.size W w') := fun W => by
    have := needT_any s0 s1 s2 s3 s4 s5 s6 r0 r1 r2 r3 W; rw [hnd] at this; exact this
  have hpx : ∀ x y, r0 ≤ x → x < r2 → r1 ≤ y → y < r3 → Cb x ∧ Cb y ∧ inC x y = true := fun x y h0 h1 h2 h3 => ⟨by unfold Cb; omega, by unfold Cb; omega, (has_iff _ _ _ _ _ _).2 (by omega)⟩
  have HSR : Hid (∀ x y, r0 ≤ x → x < r2 → r1 ≤ y → y < r3 → ∀ W, Calls Try.prog 30 #[av s0 s1 s2 s3 s4 s5 s6, tv x y] W fun en w' => en = .returned (.tuple #[tv (sx ⟨s0, s1, s2, s3, s4, s5, s6⟩ x y) (sy ⟨s0, s1, s2, s3, s4, s5, s6⟩ x y), .int .i64 0]) ∧ Below W.heap.size W w') := fun x y h0 h1 h2 h3 W => by
    have := sourceT_any s0 s1 s2 s3 s4 s5 s6 x y W
    rw [show srcT ⟨s0, s1, s2, s3, s4, s5, s6⟩ x y = ⟨sx ⟨s0, s1, s2, s3, s4, s5, s6⟩ x y, sy ⟨s0, s1, s2, s3, s4, s5, s6⟩ x y, 0⟩ from by unfold srcT; rw [(okA_iff _).2 hok, (hpx x y h0 h1 h2 h3).2.2]; rfl] at this
    exact this
  have HBT : Hid (∀ x y, r0 ≤ x → x < r2 → r1 ≤ y → y < r3 → has (nd0 ⟨s0, s1, s2, s3, s4, s5, s6⟩ r0 r1 r2 r3) (nd1 ⟨s0, s1, s2, s3, s4, s5, s6⟩ r0 r1 r2 r3) (nd2 ⟨s0, s1, s2, s3, s4, s5, s6⟩ r0 r1 r2 r3 + 1) (nd3 ⟨s0, s1, s2, s3, s4, s5, s6⟩ r0 r1 r2 r3 + 1) (sx ⟨s0, s1, s2, s3, s4, s5, s6⟩ x y) (sy ⟨s0, s1, s2, s3, s4, s5, s6⟩ x y) = true ∧ wrap64 (sx ⟨s0, s1, s2, s3, s4, s5, s6⟩ x y + 1) = sx ⟨s0, s1, s2, s3, s4, s5, s6⟩ x y + 1 ∧ wrap64 (sy ⟨s0, s1, s2, s3, s4, s5, s6⟩ x y + 1) = sy ⟨s0, s1, s2, s3, s4, s5, s6⟩ x y + 1) := fun x y h0 h1 h2 h3 => by
    have hb := need_btw (r0 := r0) (r1 := r1) (r2 := r2) (r3 := r3) hok h0 (by omega : x ≤ r2 - 1) h2 (by omega : y ≤ r3 - 1)
    have hk := hpx x y h0 h1 h2 h3
    have hs := sxy_bd hok hk.1 hk.2.1
    exact ⟨(has_iff _ _ _ _ _ _).2 (by omega), w64 ⟨by omega, by omega⟩, w64 ⟨by omega, by omega⟩⟩
  have HST : Hid (∀ z x y, Seen ⟨s0, s1, s2, s3, s4, s5, s6⟩ r0 r1 r2 r3 z y x → r0 ≤ x → x < r2 → r1 ≤ y → y < r3 → Seen ⟨s0, s1, s2, s3, s4, s5, s6⟩ r0 r1 r2 r3 (uni z.x0 z.y0 z.x1 z.y1 (sx ⟨s0, s1, s2, s3, s4, s5, s6⟩ x y) (sy ⟨s0, s1, s2, s3, s4, s5, s6⟩ x y) (sx ⟨s0, s1, s2, s3, s4, s5, s6⟩ x y + 1) (sy ⟨s0, s1, s2, s3, s4, s5, s6⟩ x y + 1)) y (x + 1)) := fun z x y h h0 h1 h2 h3 => Seen.step hok h h0 h1 h2 h3
  have HFI : Hid (∀ z, Seen ⟨s0, s1, s2, s3, s4, s5, s6⟩ r0 r1 r2 r3 z r3 r0 → eqr z.x0 z.y0 z.x1 z.y1 (nd0 ⟨s0, s1, s2, s3, s4, s5, s6⟩ r0 r1 r2 r3) (nd1 ⟨s0, s1, s2, s3, s4, s5, s6⟩ r0 r1 r2 r3) (nd2 ⟨s0, s1, s2, s3, s4, s5, s6⟩ r0 r1 r2 r3 + 1) (nd3 ⟨s0, s1, s2, s3, s4, s5, s6⟩ r0 r1 r2 r3 + 1) = true) := fun z h => Seen.all h hpos.1 hpos.2
  have HS0 : Hid (Seen ⟨s0, s1, s2, s3, s4, s5, s6⟩ r0 r1 r2 r3 ⟨0, 0, 0, 0⟩ r1 r0) := Seen.start _ _ _ _ _
  have HRW : Hid (∀ z y, Seen ⟨s0, s1, s2, s3, s4, s5, s6⟩ r0 r1 r2 r3 z y r2 → Seen ⟨s0, s1, s2, s3, s4, s5, s6⟩ r0 r1 r2 r3 z (y + 1) r0) := fun z y h => h.row
  have HLIM : Hid (r0 < r2 ∧ r1 < r3 ∧ -100 ≤ r0 ∧ r2 ≤ 100 ∧ -100 ≤ r1 ∧ r3 ≤ 100) := ⟨hpos.1, hpos.2, by omega, by omega, by omega, by omega⟩
  clear hsl hok b2 b3 hm2 hm3 hpos hrr hrl hnd hpx
  generalize hSE : Seen ⟨s0, s1, s2, s3, s4, s5, s6⟩ r0 r1 r2 r3 = SE at HST HFI HS0 HRW
  clear hSE
  generalize nd0 ⟨s0, s1, s2, s3, s4, s5, s6⟩ r0 r1 r2 r3 = o0 at HN HBT HFI
  generalize nd1 ⟨s0, s1, s2, s3, s4, s5, s6⟩ r0 r1 r2 r3 = o1 at HN HBT HFI
  generalize nd2 ⟨s0, s1, s2, s3, s4, s5, s6⟩ r0 r1 r2 r3 + 1 = o2 at HN HBT HFI
  generalize nd3 ⟨s0, s1, s2, s3, s4, s5, s6⟩ r0 r1 r2 r3 + 1 = o3 at HN HBT HFI
  generalize sx ⟨s0, s1, s2, s3, s4, s5, s6⟩ = fx at HSR HBT HST
  generalize sy ⟨s0, s1, s2, s3, s4, s5, s6⟩ = fy at HSR HBT HST
  go_enter Try.func9, Try.ntmps9
  go_upto_region 1 with fail
  have h0 := (((St.start w).alloc ((.cells #[.int .i64 q0, .int .i64 q1, .int .i64 q2, .int .i64 q3, .int .i64 q4, .int .i64 q5, .int .i64 q6] 26 : Obj))).alloc ((.cells #[.int .i64 n0, .int .i64 n1, .int .i64 n2, .int .i64 n3] 55 : Obj)))
  try simp only [World.size_alloc] at h0
  generalize hb0 : w.heap.size = b0 at h0 ⊢
  generalize (w.alloc ((.cells #[.int .i64 q0, .int .i64 q1, .int .i64 q2, .int .i64 q3, .int .i64 q4, .int .i64 q5, .int .i64 q6] 26 : Obj))).alloc ((.cells #[.int .i64 n0, .int .i64 n1, .int .i64 n2, .int .i64 n3] 55 : Obj)) = w0 at h0 ⊢
  go_upto_region 2 with (first | (go_at_call 13; (with_reducible refine (St.call h0 (sane_any _)).mono ?_); rintro en w1 ⟨rfl, h1⟩))
  have zh10 := St.cell h1 (b := b0) (cs := #[.int .i64 q0, .int .i64 q1, .int .i64 q2, .int .i64 q3, .int .i64 q4, .int .i64 q5, .int .i64 q6]) (t := 26) (by simp) 0; have zh11 := St.cell h1 (b := b0) (cs := #[.int .i64 q0, .int .i64 q1, .int .i64 q2, .int .i64 q3, .int .i64 q4, .int .i64 q5, .int .i64 q6]) (t := 26) (by simp) 1; have zh12 := St.cell h1 (b := b0) (cs := #[.int .i64 q0, .int .i64 q1, .int .i64 q2, .int .i64 q3, .int .i64 q4, .int .i64 q5, .int .i64 q6]) (t := 26) (by simp) 2; have zh13 := St.cell h1 (b := b0) (cs := #[.int .i64 q0, .int .i64 q1, .int .i64 q2, .int .i64 q3, .int .i64 q4, .int .i64 q5, .int .i64 q6]) (t := 26) (by simp) 3; have zh14 := St.cell h1 (b := b0) (cs := #[.int .i64 q0, .int .i64 q1, .int .i64 q2, .int .i64 q3, .int .i64 q4, .int .i64 q5, .int .i64 q6]) (t := 26) (by simp) 4; have zh15 := St.cell h1 (b := b0) (cs := #[.int .i64 q0, .int .i64 q1, .int .i64 q2, .int .i64 q3, .int .i64 q4, .int .i64 q5, .int .i64 q6]) (t := 26) (by simp) 5; have zh16 := St.cell h1 (b := b0) (cs := #[.int .i64 q0, .int .i64 q1, .int .i64 q2, .int .i64 q3, .int .i64 q4, .int .i64 q5, .int .i64 q6]) (t := 26) (by simp) 6; simp only [List.getElem?_toArray, List.getElem?_cons_zero, List.getElem?_cons_succ] at zh10 zh11 zh12 zh13 zh14 zh15 zh16
  go_upto_region 3 with (first | (go_at_call 14; (with_reducible refine (St.call h1 (HSM.out _)).mono ?_); rintro en w2 ⟨rfl, h2⟩))
  have h3 := h2.alloc (ao s0 s1 s2 s3 s4 s5 s6)
  generalize w2.heap.size = c1 at h3 ⊢
  generalize w2.alloc (ao s0 s1 s2 s3 s4 s5 s6) = w3 at h3 ⊢
  have HP : Hid (∀ V9, St w [(c1, ao s0 s1 s2 s3 s4 s5 s6), (b0 + 1, (.cells #[.int .i64 n0, .int .i64 n1, .int .i64 n2, .int .i64 n3] 55 : Obj)), (b0, (.cells #[.int .i64 q0, .int .i64 q1, .int .i64 q2, .int .i64 q3, .int .i64 q4, .int .i64 q5, .int .i64 q6] 26 : Obj))] V9 → St w [(c1, ao s0 s1 s2 s3 s4 s5 s6), (b0 + 1, (.cells #[.int .i64 n0, .int .i64 n1, .int .i64 n2, .int .i64 n3] 55 : Obj)), (b0, (.cells #[.int .i64 q0, .int .i64 q1, .int .i64 q2, .int .i64 q3, .int .i64 q4, .int .i64 q5, .int .i64 q6] 26 : Obj))] V9 ∧ V9.cell? ⟨b0 + 1, 0, none⟩ = some (.int .i64 n0) ∧ V9.cell? ⟨b0 + 1, 1, none⟩ = some (.int .i64 n1) ∧ V9.cell? ⟨b0 + 1, 2, none⟩ = some (.int .i64 n2) ∧ V9.cell? ⟨b0 + 1, 3, none⟩ = some (.int .i64 n3)) := fun V hV => ⟨hV, hV.cell (b := b0 + 1) (cs := #[.int .i64 n0, .int .i64 n1, .int .i64 n2, .int .i64 n3]) (t := 55) (by simp) 0, hV.cell (b := b0 + 1) (cs := #[.int .i64 n0, .int .i64 n1, .int .i64 n2, .int .i64 n3]) (t := 55) (by simp) 1, hV.cell (b := b0 + 1) (cs := #[.int .i64 n0, .int .i64 n1, .int .i64 n2, .int .i64 n3]) (t := 55) (by simp) 2, hV.cell (b := b0 + 1) (cs := #[.int .i64 n0, .int .i64 n1, .int .i64 n2, .int .i64 n3]) (t := 55) (by simp) 3⟩
  go_cut [7] (fun v9 wx => ∃ b9, v9 = .pointer (some ⟨b9, 0, none⟩) ∧ Hid (St w ((b9, ro r0 r1 r2 r3) :: [(c1, ao s0 s1 s2 s3 s4 s5 s6), (b0 + 1, (.cells #[.int .i64 n0, .int .i64 n1, .int .i64 n2, .int .i64 n3] 55 : Obj)), (b0, (.cells #[.int .i64 q0, .int .i64 q1, .int .i64 q2, .int .i64 q3, .int .i64 q4, .int .i64 q5, .int .i64 q6] 26 : Obj))]) wx))
  case first =>
    refine wp_region_held_drew (S := fun V9 => St w [(c1, ao s0 s1 s2 s3 s4 s5 s6), (b0 + 1, (.cells #[.int .i64 n0, .int .i64 n1, .int .i64 n2, .int .i64 n3] 55 : Obj)), (b0, (.cells #[.int .i64 q0, .int .i64 q1, .int .i64 q2, .int .i64 q3, .int .i64 q4, .int .i64 q5, .int .i64 q6] 26 : Obj))] V9 ∧ V9.cell? ⟨b0 + 1, 0, none⟩ = some (.int .i64 n0) ∧ V9.cell? ⟨b0 + 1, 1, none⟩ = some (.int .i64 n1) ∧ V9.cell? ⟨b0 + 1, 2, none⟩ = some (.int .i64 n2) ∧ V9.cell? ⟨b0 + 1, 3, none⟩ = some (.int .i64 n3)) (by kernel_rfl) ?_ (fun hHeld => ?_)
    · exact HP.out _ (h3.drew)
    have h30 := h3.drew
    refine wpAnyH_take (i := 0) (oi := { dst := some 18, op := Op.indexAddr 55 (Operand.tmp 3) (Operand.const (Value.int IntKind.i64 0)), type := 0, pos := "law.go:148", after := #[], guard := none }) (v := ?_) rfl (by kernel_rfl) (by kernel_rfl) (by kernel_rfl) (fun _ _ _ h => h) (Or.inl ⟨by kernel_rfl, ?_⟩) (by assumption) ?_
    rotate_left 1
    focus (intro w hSw; (try dsimp only at hSw); go_simp; (try with_reducible rfl))
    try simp only [Act.put, List.setIfInBounds_toArray, List.set_cons_zero, List.set_cons_succ]
    refine wpAnyH_take (i := 1) (oi := { dst := some 19, op := Op.load 3 (Operand.tmp 18), type := 3, pos := "law.go:148", after := #[{ on := 0, ground := Ground.data }], guard := none }) (v := ?_) rfl (by kernel_rfl) (by kernel_rfl) (by kernel_rfl) (fun _ _ _ h => h) (Or.inl ⟨by kernel_rfl, ?_⟩) (by assumption) ?_
    rotate_left 1
    focus (intro w hSw; (try dsimp only at hSw); go_simp; (try with_reducible rfl))
    try simp only [Act.put, List.setIfInBounds_toArray, List.set_cons_zero, List.set_cons_succ]
    refine wpAnyH_take (i := 2) (oi := { dst := some 20, op := Op.indexAddr 55 (Operand.tmp 3) (Operand.const (Value.int IntKind.i64 1)), type := 0, pos := "law.go:148", after := #[], guard := none }) (v := ?_) rfl (by kernel_rfl) (by kernel_rfl) (by kernel_rfl) (fun _ _ _ h => h) (Or.inl ⟨by kernel_rfl, ?_⟩) (by assumption) ?_
    rotate_left 1
    focus (intro w hSw; (try dsimp only at hSw); go_simp; (try with_reducible rfl))
    try simp only [Act.put, List.setIfInBounds_toArray, List.set_cons_zero, List.set_cons_succ]
    refine wpAnyH_take (i := 3) (oi := { dst := some 21, op := Op.load 3 (Operand.tmp 20), type := 3, pos := "law.go:148", after := #[{ on := 2, ground := Ground.data }], guard := none }) (v := ?_) rfl (by kernel_rfl) (by kernel_rfl) (by kernel_rfl) (fun _ _ _ h => h) (Or.inl ⟨by kernel_rfl, ?_⟩) (by assumption) ?_
    rotate_left 1
    focus (intro w hSw; (try dsimp only at hSw); go_simp; (try with_reducible rfl))
    try simp only [Act.put, List.setIfInBounds_toArray, List.set_cons_zero, List.set_cons_succ]
    refine wpAnyH_take (i := 4) (oi := { dst := some 22, op := Op.indexAddr 55 (Operand.tmp 3) (Operand.const (Value.int IntKind.i64 2)), type := 0, pos := "law.go:148", after := #[], guard := none }) (v := ?_) rfl (by kernel_rfl) (by kernel_rfl) (by kernel_rfl) (fun _ _ _ h => h) (Or.inl ⟨by kernel_rfl, ?_⟩) (by assumption) ?_
    rotate_left 1
    focus (intro w hSw; (try dsimp only at hSw); go_simp; (try with_reducible rfl))
    try simp only [Act.put, List.setIfInBounds_toArray, List.set_cons_zero, List.set_cons_succ]
    refine wpAnyH_take (i := 5) (oi := { dst := some 23, op := Op.load 3 (Operand.tmp 22), type := 3, pos := "law.go:148", after := #[{ on := 4, ground := Ground.data }], guard := none }) (v := ?_) rfl (by kernel_rfl) (by kernel_rfl) (by kernel_rfl) (fun _ _ _ h => h) (Or.inl ⟨by kernel_rfl, ?_⟩) (by assumption) ?_
    rotate_left 1
    focus (intro w hSw; (try dsimp only at hSw); go_simp; (try with_reducible rfl))
    try simp only [Act.put, List.setIfInBounds_toArray, List.set_cons_zero, List.set_cons_succ]
    refine wpAnyH_take (i := 8) (oi := { dst := some 26, op := Op.indexAddr 55 (Operand.tmp 3) (Operand.const (Value.int IntKind.i64 3)), type := 0, pos := "law.go:148", after := #[], guard := none }) (v := ?_) rfl (by kernel_rfl) (by kernel_rfl) (by kernel_rfl) (fun _ _ _ h => h) (Or.inl ⟨by kernel_rfl, ?_⟩) (by assumption) ?_
    rotate_left 1
    focus (intro w hSw; (try dsimp only at hSw); go_simp; (try with_reducible rfl))
    try simp only [Act.put, List.setIfInBounds_toArray, List.set_cons_zero, List.set_cons_succ]
    refine wpAnyH_take (i := 9) (oi := { dst := some 27, op := Op.load 3 (Operand.tmp 26), type := 3, pos := "law.go:148", after := #[{ on := 8, ground := Ground.data }], guard := none }) (v := ?_) rfl (by kernel_rfl) (by kernel_rfl) (by kernel_rfl) (fun _ _ _ h => h) (Or.inl ⟨by kernel_rfl, ?_⟩) (by assumption) ?_
    rotate_left 1
    focus (intro w hSw; (try dsimp only at hSw); go_simp; (try with_reducible rfl))
    try simp only [Act.put, List.setIfInBounds_toArray, List.set_cons_zero, List.set_cons_succ]
    refine wpAnyH_ready (rs := [6, 14]) (by kernel_rfl) (by simp) (AllReadyH.cons (o := { dst := some 24, op := Op.call { callee := Callee.value (Operand.func 15), args := #[Operand.tmp 23, Operand.const (Value.int IntKind.i64 12)], argTypes := #[3, 3] }, type := 3, pos := "law.go:148", after := #[{ on := 5, ground := Ground.data }], guard := none }) rfl (fun K hK => ?_) (AllReadyH.cons (o := { dst := some 7, op := Op.alloc 51, type := 0, pos := "law.go:148", after := #[], guard := none }) rfl (fun K hK => ?_) AllReadyH.nil))
    · (go_simp; (go_at_call 15; (refine (St.call h30 (HM0.out _)).mono ?_); rintro e V1r3 ⟨rfl, h31r3⟩))
      refine hK.out _ _ ?_ (fun hHeld => ?_)
      · exact HP.out _ (h31r3)
      clear hK K
      try simp only [Act.put, List.setIfInBounds_toArray, List.set_cons_zero, List.set_cons_succ]
      refine wpAnyH_take (i := 7) (oi := { dst := some 25, op := Op.binOp BinOp.add 3 (Operand.const (Value.int IntKind.i64 1)) (Operand.tmp 24) 3, type := 3, pos := "law.go:148", after := #[{ on := 6, ground := Ground.data }], guard := none }) (v := ?_) rfl (by kernel_rfl) (by kernel_rfl) (by kernel_rfl) (fun _ _ _ h => h) (Or.inl ⟨by kernel_rfl, ?_⟩) (by assumption) ?_
      rotate_left 1
      focus (intro w hSw; (try dsimp only at hSw); go_simp; (try with_reducible rfl))
      try simp only [Act.put, List.setIfInBounds_toArray, List.set_cons_zero, List.set_cons_succ]
      refine wpAnyH_ready (rs := [10, 14]) (by kernel_rfl) (by simp) (AllReadyH.cons (o := { dst := some 28, op := Op.call { callee := Callee.value (Operand.func 15), args := #[Operand.tmp 27, Operand.const (Value.int IntKind.i64 12)], argTypes := #[3, 3] }, type := 3, pos := "law.go:148", after := #[{ on := 9, ground := Ground.data }, { on := 6, ground := Ground.chain }], guard := none }) rfl (fun K hK => ?_) (AllReadyH.cons (o := { dst := some 7, op := Op.alloc 51, type := 0, pos := "law.go:148", after := #[], guard := none }) rfl (fun K hK => ?_) AllReadyH.nil))
      · (go_simp; (go_at_call 15; (refine (St.call h31r3 (HM1.out _)).mono ?_); rintro e V2r3 ⟨rfl, h32r3⟩))
        refine hK.out _ _ ?_ (fun hHeld => ?_)
        · exact HP.out _ (h32r3)
        clear hK K
        try simp only [Act.put, List.setIfInBounds_toArray, List.set_cons_zero, List.set_cons_succ]
        refine wpAnyH_take (i := 11) (oi := { dst := some 29, op := Op.binOp BinOp.add 3 (Operand.const (Value.int IntKind.i64 1)) (Operand.tmp 28) 3, type := 3, pos := "law.go:148", after := #[{ on := 10, ground := Ground.data }], guard := none }) (v := ?_) rfl (by kernel_rfl) (by kernel_rfl) (by kernel_rfl) (fun _ _ _ h => h) (Or.inl ⟨by kernel_rfl, ?_⟩) (by assumption) ?_
        rotate_left 1
        focus (intro w hSw; (try dsimp only at hSw); go_simp; (try with_reducible rfl))
        try simp only [Act.put, List.setIfInBounds_toArray, List.set_cons_zero, List.set_cons_succ]
        refine wpAnyH_take (i := 12) (oi := { dst := some 30, op := Op.build 55 #[(0, Operand.tmp 19), (1, Operand.tmp 21), (2, Operand.tmp 25), (3, Operand.tmp 29)], type := 55, pos := "law.go:148", after := #[{ on := 1, ground := Ground.data }, { on := 3, ground := Ground.data }, { on := 7, ground := Ground.data }, { on := 11, ground := Ground.data }], guard := none }) (v := ?_) rfl (by kernel_rfl) (by kernel_rfl) (by kernel_rfl) (fun _ _ _ h => h) (Or.inl ⟨by kernel_rfl, ?_⟩) (by assumption) ?_
        rotate_left 1
        focus (intro w hSw; (try dsimp only at hSw); go_simp; (try with_reducible rfl))
        try simp only [Act.put, List.setIfInBounds_toArray, List.set_cons_zero, List.set_cons_succ]
        refine wpAnyH_ready (rs := [13, 14]) (by kernel_rfl) (by simp) (AllReadyH.cons (o := { dst := some 31, op := Op.call { callee := Callee.value (Operand.func 29), args := #[Operand.tmp 30], argTypes := #[55] }, type := 51, pos := "law.go:148", after := #[{ on := 12, ground := Ground.data }, { on := 10, ground := Ground.chain }], guard := none }) rfl (fun K hK => ?_) (AllReadyH.cons (o := { dst := some 7, op := Op.alloc 51, type := 0, pos := "law.go:148", after := #[], guard := none }) rfl (fun K hK => ?_) AllReadyH.nil))
        · (go_simp; (go_at_call 29; (refine (St.call h32r3 (HRS.out _)).mono ?_); rintro e V3r3 ⟨rfl, h33r3⟩))
          refine hK.out _ _ ?_ (fun hHeld => ?_)
          · exact HP.out _ (h33r3)
          clear hK K
          try simp only [Act.put, List.setIfInBounds_toArray, List.set_cons_zero, List.set_cons_succ]
          refine wpAnyH_ready (rs := [14]) (by kernel_rfl) (by simp) (AllReadyH.cons (o := { dst := some 7, op := Op.alloc 51, type := 0, pos := "law.go:148", after := #[], guard := none }) rfl (fun K hK => ?_) AllReadyH.nil)
          have hne14r3 := h33r3.ne
          have hle14r3 := h33r3.below.size
          have hlt14r3 := fun (b : Nat) (o : Obj) (hm : (b, o) ∈ _) => h33r3.lt hm
          have h34r3 := h33r3.alloc (.cells #[.int .i64 0, .int .i64 0, .int .i64 0, .int .i64 0] 51)
          refine wp_alloc_of 51 rfl _ (zero_rect _) ?_
          refine hK.out _ _ ?_ (fun hHeld => ?_)
          · exact HP.out _ (h34r3.tl)
          clear hK K
          try simp only [Act.put, List.setIfInBounds_toArray, List.set_cons_zero, List.set_cons_succ]
          refine wpAnyH_ready (rs := [15]) (by kernel_rfl) (by simp) (AllReadyH.cons (o := { dst := none, op := Op.store 51 (Operand.tmp 7) (Operand.tmp 31), type := 0, pos := "law.go:148", after := #[{ on := 14, ground := Ground.data }, { on := 13, ground := Ground.data }, { on := 13, ground := Ground.chain }, { on := 0, ground := Ground.phase }, { on := 1, ground := Ground.phase }, { on := 2, ground := Ground.phase }, { on := 3, ground := Ground.phase }, { on := 4, ground := Ground.phase }, { on := 5, ground := Ground.phase }, { on := 6, ground := Ground.phase }, { on := 7, ground := Ground.phase }, { on := 8, ground := Ground.phase }, { on := 9, ground := Ground.phase }, { on := 10, ground := Ground.phase }, { on := 11, ground := Ground.phase }, { on := 12, ground := Ground.phase }, { on := 13, ground := Ground.phase }, { on := 14, ground := Ground.phase }], guard := none }) rfl (fun K hK => ?_) AllReadyH.nil)
          have h35r3 := h34r3.rowset (ds := #[.int .i64 r0, .int .i64 r1, .int .i64 r2, .int .i64 r3]) hle14r3 hne14r3
          refine wp_store_of 51 _ _ rfl (store_row 51 (cs := #[.int .i64 0, .int .i64 0, .int .i64 0, .int .i64 0]) (ds := #[.int .i64 r0, .int .i64 r1, .int .i64 r2, .int .i64 r3]) (by kernel_rfl) rfl (by simp [Value.oneCell']) h34r3.hd) ?_
          refine hK.out _ _ ?_ (fun hHeld => ?_)
          · exact HP.out _ (h35r3.tl)
          clear hK K
          try simp only [Act.put]
          refine wpAnyH_done (by kernel_rfl) ?_ _
          have h9 := h35r3
          go_wp2_with fail
          go_meet
          case rel => exact ⟨_, rfl, h9⟩
        · have hne14r3 := h32r3.ne
          have hle14r3 := h32r3.below.size
          have hlt14r3 := fun (b : Nat) (o : Obj) (hm : (b, o) ∈ _) => h32r3.lt hm
          have h36r3 := h32r3.alloc (.cells #[.int .i64 0, .int .i64 0, .int .i64 0, .int .i64 0] 51)
          refine wp_alloc_of 51 rfl _ (zero_rect _) ?_
          refine hK.out _ _ ?_ (fun hHeld => ?_)
          · exact HP.out _ (h36r3.tl)
          clear hK K
          try simp only [Act.put, List.setIfInBounds_toArray, List.set_cons_zero, List.set_cons_succ]
          refine wpAnyH_ready (rs := [13]) (by kernel_rfl) (by simp) (AllReadyH.cons (o := { dst := some 31, op := Op.call { callee := Callee.value (Operand.func 29), args := #[Operand.tmp 30], argTypes := #[55] }, type := 51, pos := "law.go:148", after := #[{ on := 12, ground := Ground.data }, { on := 10, ground := Ground.chain }], guard := none }) rfl (fun K hK => ?_) AllReadyH.nil)
          (go_simp; (go_at_call 29; (refine (St.call h36r3 (HRS.out _)).mono ?_); rintro e V7r3 ⟨rfl, h37r3⟩))
          refine hK.out _ _ ?_ (fun hHeld => ?_)
          · exact HP.out _ (h37r3.tl)
          clear hK K
          try simp only [Act.put, List.setIfInBounds_toArray, List.set_cons_zero, List.set_cons_succ]
          refine wpAnyH_ready (rs := [15]) (by kernel_rfl) (by simp) (AllReadyH.cons (o := { dst := none, op := Op.store 51 (Operand.tmp 7) (Operand.tmp 31), type := 0, pos := "law.go:148", after := #[{ on := 14, ground := Ground.data }, { on := 13, ground := Ground.data }, { on := 13, ground := Ground.chain }, { on := 0, ground := Ground.phase }, { on := 1, ground := Ground.phase }, { on := 2, ground := Ground.phase }, { on := 3, ground := Ground.phase }, { on := 4, ground := Ground.phase }, { on := 5, ground := Ground.phase }, { on := 6, ground := Ground.phase }, { on := 7, ground := Ground.phase }, { on := 8, ground := Ground.phase }, { on := 9, ground := Ground.phase }, { on := 10, ground := Ground.phase }, { on := 11, ground := Ground.phase }, { on := 12, ground := Ground.phase }, { on := 13, ground := Ground.phase }, { on := 14, ground := Ground.phase }], guard := none }) rfl (fun K hK => ?_) AllReadyH.nil)
          have h38r3 := h37r3.rowset (ds := #[.int .i64 r0, .int .i64 r1, .int .i64 r2, .int .i64 r3]) hle14r3 hne14r3
          refine wp_store_of 51 _ _ rfl (store_row 51 (cs := #[.int .i64 0, .int .i64 0, .int .i64 0, .int .i64 0]) (ds := #[.int .i64 r0, .int .i64 r1, .int .i64 r2, .int .i64 r3]) (by kernel_rfl) rfl (by simp [Value.oneCell']) h37r3.hd) ?_
          refine hK.out _ _ ?_ (fun hHeld => ?_)
          · exact HP.out _ (h38r3.tl)
          clear hK K
          try simp only [Act.put]
          refine wpAnyH_done (by kernel_rfl) ?_ _
          have h9 := h38r3
          go_wp2_with fail
          go_meet
          case rel => exact ⟨_, rfl, h9⟩
      · have hne14r3 := h31r3.ne
        have hle14r3 := h31r3.below.size
        have hlt14r3 := fun (b : Nat) (o : Obj) (hm : (b, o) ∈ _) => h31r3.lt hm
        have h39r3 := h31r3.alloc (.cells #[.int .i64 0, .int .i64 0, .int .i64 0, .int .i64 0] 51)
        refine wp_alloc_of 51 rfl _ (zero_rect _) ?_
        refine hK.out _ _ ?_ (fun hHeld => ?_)
        · exact HP.out _ (h39r3.tl)
        clear hK K
        try simp only [Act.put, List.setIfInBounds_toArray, List.set_cons_zero, List.set_cons_succ]
        refine wpAnyH_ready (rs := [10]) (by kernel_rfl) (by simp) (AllReadyH.cons (o := { dst := some 28, op := Op.call { callee := Callee.value (Operand.func 15), args := #[Operand.tmp 27, Operand.const (Value.int IntKind.i64 12)], argTypes := #[3, 3] }, type := 3, pos := "law.go:148", after := #[{ on := 9, ground := Ground.data }, { on := 6, ground := Ground.chain }], guard := none }) rfl (fun K hK => ?_) AllReadyH.nil)
        (go_simp; (go_at_call 15; (refine (St.call h39r3 (HM1.out _)).mono ?_); rintro e V10r3 ⟨rfl, h310r3⟩))
        refine hK.out _ _ ?_ (fun hHeld => ?_)
        · exact HP.out _ (h310r3.tl)
        clear hK K
        try simp only [Act.put, List.setIfInBounds_toArray, List.set_cons_zero, List.set_cons_succ]
        refine wpAnyH_take (i := 11) (oi := { dst := some 29, op := Op.binOp BinOp.add 3 (Operand.const (Value.int IntKind.i64 1)) (Operand.tmp 28) 3, type := 3, pos := "law.go:148", after := #[{ on := 10, ground := Ground.data }], guard := none }) (v := ?_) rfl (by kernel_rfl) (by kernel_rfl) (by kernel_rfl) (fun _ _ _ h => h) (Or.inl ⟨by kernel_rfl, ?_⟩) (by assumption) ?_
        rotate_left 1
        focus (intro w hSw; (try dsimp only at hSw); go_simp; (try with_reducible rfl))
        try simp only [Act.put, List.setIfInBounds_toArray, List.set_cons_zero, List.set_cons_succ]
        refine wpAnyH_take (i := 12) (oi := { dst := some 30, op := Op.build 55 #[(0, Operand.tmp 19), (1, Operand.tmp 21), (2, Operand.tmp 25), (3, Operand.tmp 29)], type := 55, pos := "law.go:148", after := #[{ on := 1, ground := Ground.data }, { on := 3, ground := Ground.data }, { on := 7, ground := Ground.data }, { on := 11, ground := Ground.data }], guard := none }) (v := ?_) rfl (by kernel_rfl) (by kernel_rfl) (by kernel_rfl) (fun _ _ _ h => h) (Or.inl ⟨by kernel_rfl, ?_⟩) (by assumption) ?_
        rotate_left 1
        focus (intro w hSw; (try dsimp only at hSw); go_simp; (try with_reducible rfl))
        try simp only [Act.put, List.setIfInBounds_toArray, List.set_cons_zero, List.set_cons_succ]
        refine wpAnyH_ready (rs := [13]) (by kernel_rfl) (by simp) (AllReadyH.cons (o := { dst := some 31, op := Op.call { callee := Callee.value (Operand.func 29), args := #[Operand.tmp 30], argTypes := #[55] }, type := 51, pos := "law.go:148", after := #[{ on := 12, ground := Ground.data }, { on := 10, ground := Ground.chain }], guard := none }) rfl (fun K hK => ?_) AllReadyH.nil)
        (go_simp; (go_at_call 29; (refine (St.call h310r3 (HRS.out _)).mono ?_); rintro e V11r3 ⟨rfl, h311r3⟩))
        refine hK.out _ _ ?_ (fun hHeld => ?_)
        · exact HP.out _ (h311r3.tl)
        clear hK K
        try simp only [Act.put, List.setIfInBounds_toArray, List.set_cons_zero, List.set_cons_succ]
        refine wpAnyH_ready (rs := [15]) (by kernel_rfl) (by simp) (AllReadyH.cons (o := { dst := none, op := Op.store 51 (Operand.tmp 7) (Operand.tmp 31), type := 0, pos := "law.go:148", after := #[{ on := 14, ground := Ground.data }, { on := 13, ground := Ground.data }, { on := 13, ground := Ground.chain }, { on := 0, ground := Ground.phase }, { on := 1, ground := Ground.phase }, { on := 2, ground := Ground.phase }, { on := 3, ground := Ground.phase }, { on := 4, ground := Ground.phase }, { on := 5, ground := Ground.phase }, { on := 6, ground := Ground.phase }, { on := 7, ground := Ground.phase }, { on := 8, ground := Ground.phase }, { on := 9, ground := Ground.phase }, { on := 10, ground := Ground.phase }, { on := 11, ground := Ground.phase }, { on := 12, ground := Ground.phase }, { on := 13, ground := Ground.phase }, { on := 14, ground := Ground.phase }], guard := none }) rfl (fun K hK => ?_) AllReadyH.nil)
        have h312r3 := h311r3.rowset (ds := #[.int .i64 r0, .int .i64 r1, .int .i64 r2, .int .i64 r3]) hle14r3 hne14r3
        refine wp_store_of 51 _ _ rfl (store_row 51 (cs := #[.int .i64 0, .int .i64 0, .int .i64 0, .int .i64 0]) (ds := #[.int .i64 r0, .int .i64 r1, .int .i64 r2, .int .i64 r3]) (by kernel_rfl) rfl (by simp [Value.oneCell']) h311r3.hd) ?_
        refine hK.out _ _ ?_ (fun hHeld => ?_)
        · exact HP.out _ (h312r3.tl)
        clear hK K
        try simp only [Act.put]
        refine wpAnyH_done (by kernel_rfl) ?_ _
        have h9 := h312r3
        go_wp2_with fail
        go_meet
        case rel => exact ⟨_, rfl, h9⟩
    · have hne14r3 := h30.ne
      have hle14r3 := h30.below.size
      have hlt14r3 := fun (b : Nat) (o : Obj) (hm : (b, o) ∈ _) => h30.lt hm
      have h313r3 := h30.alloc (.cells #[.int .i64 0, .int .i64 0, .int .i64 0, .int .i64 0] 51)
      refine wp_alloc_of 51 rfl _ (zero_rect _) ?_
      refine hK.out _ _ ?_ (fun hHeld => ?_)
      · exact HP.out _ (h313r3.tl)
      clear hK K
      try simp only [Act.put, List.setIfInBounds_toArray, List.set_cons_zero, List.set_cons_succ]
      refine wpAnyH_ready (rs := [6]) (by kernel_rfl) (by simp) (AllReadyH.cons (o := { dst := some 24, op := Op.call { callee := Callee.value (Operand.func 15), args := #[Operand.tmp 23, Operand.const (Value.int IntKind.i64 12)], argTypes := #[3, 3] }, type := 3, pos := "law.go:148", after := #[{ on := 5, ground := Ground.data }], guard := none }) rfl (fun K hK => ?_) AllReadyH.nil)
      (go_simp; (go_at_call 15; (refine (St.call h313r3 (HM0.out _)).mono ?_); rintro e V14r3 ⟨rfl, h314r3⟩))
      refine hK.out _ _ ?_ (fun hHeld => ?_)
      · exact HP.out _ (h314r3.tl)
      clear hK K
      try simp only [Act.put, List.setIfInBounds_toArray, List.set_cons_zero, List.set_cons_succ]
      refine wpAnyH_take (i := 7) (oi := { dst := some 25, op := Op.binOp BinOp.add 3 (Operand.const (Value.int IntKind.i64 1)) (Operand.tmp 24) 3, type := 3, pos := "law.go:148", after := #[{ on := 6, ground := Ground.data }], guard := none }) (v := ?_) rfl (by kernel_rfl) (by kernel_rfl) (by kernel_rfl) (fun _ _ _ h => h) (Or.inl ⟨by kernel_rfl, ?_⟩) (by assumption) ?_
      rotate_left 1
      focus (intro w hSw; (try dsimp only at hSw); go_simp; (try with_reducible rfl))
      try simp only [Act.put, List.setIfInBounds_toArray, List.set_cons_zero, List.set_cons_succ]
      refine wpAnyH_ready (rs := [10]) (by kernel_rfl) (by simp) (AllReadyH.cons (o := { dst := some 28, op := Op.call { callee := Callee.value (Operand.func 15), args := #[Operand.tmp 27, Operand.const (Value.int IntKind.i64 12)], argTypes := #[3, 3] }, type := 3, pos := "law.go:148", after := #[{ on := 9, ground := Ground.data }, { on := 6, ground := Ground.chain }], guard := none }) rfl (fun K hK => ?_) AllReadyH.nil)
      (go_simp; (go_at_call 15; (refine (St.call h314r3 (HM1.out _)).mono ?_); rintro e V15r3 ⟨rfl, h315r3⟩))
      refine hK.out _ _ ?_ (fun hHeld => ?_)
      · exact HP.out _ (h315r3.tl)
      clear hK K
      try simp only [Act.put, List.setIfInBounds_toArray, List.set_cons_zero, List.set_cons_succ]
      refine wpAnyH_take (i := 11) (oi := { dst := some 29, op := Op.binOp BinOp.add 3 (Operand.const (Value.int IntKind.i64 1)) (Operand.tmp 28) 3, type := 3, pos := "law.go:148", after := #[{ on := 10, ground := Ground.data }], guard := none }) (v := ?_) rfl (by kernel_rfl) (by kernel_rfl) (by kernel_rfl) (fun _ _ _ h => h) (Or.inl ⟨by kernel_rfl, ?_⟩) (by assumption) ?_
      rotate_left 1
      focus (intro w hSw; (try dsimp only at hSw); go_simp; (try with_reducible rfl))
      try simp only [Act.put, List.setIfInBounds_toArray, List.set_cons_zero, List.set_cons_succ]
      refine wpAnyH_take (i := 12) (oi := { dst := some 30, op := Op.build 55 #[(0, Operand.tmp 19), (1, Operand.tmp 21), (2, Operand.tmp 25), (3, Operand.tmp 29)], type := 55, pos := "law.go:148", after := #[{ on := 1, ground := Ground.data }, { on := 3, ground := Ground.data }, { on := 7, ground := Ground.data }, { on := 11, ground := Ground.data }], guard := none }) (v := ?_) rfl (by kernel_rfl) (by kernel_rfl) (by kernel_rfl) (fun _ _ _ h => h) (Or.inl ⟨by kernel_rfl, ?_⟩) (by assumption) ?_
      rotate_left 1
      focus (intro w hSw; (try dsimp only at hSw); go_simp; (try with_reducible rfl))
      try simp only [Act.put, List.setIfInBounds_toArray, List.set_cons_zero, List.set_cons_succ]
      refine wpAnyH_ready (rs := [13]) (by kernel_rfl) (by simp) (AllReadyH.cons (o := { dst := some 31, op := Op.call { callee := Callee.value (Operand.func 29), args := #[Operand.tmp 30], argTypes := #[55] }, type := 51, pos := "law.go:148", after := #[{ on := 12, ground := Ground.data }, { on := 10, ground := Ground.chain }], guard := none }) rfl (fun K hK => ?_) AllReadyH.nil)
      (go_simp; (go_at_call 29; (refine (St.call h315r3 (HRS.out _)).mono ?_); rintro e V16r3 ⟨rfl, h316r3⟩))
      refine hK.out _ _ ?_ (fun hHeld => ?_)
      · exact HP.out _ (h316r3.tl)
      clear hK K
      try simp only [Act.put, List.setIfInBounds_toArray, List.set_cons_zero, List.set_cons_succ]
      refine wpAnyH_ready (rs := [15]) (by kernel_rfl) (by simp) (AllReadyH.cons (o := { dst := none, op := Op.store 51 (Operand.tmp 7) (Operand.tmp 31), type := 0, pos := "law.go:148", after := #[{ on := 14, ground := Ground.data }, { on := 13, ground := Ground.data }, { on := 13, ground := Ground.chain }, { on := 0, ground := Ground.phase }, { on := 1, ground := Ground.phase }, { on := 2, ground := Ground.phase }, { on := 3, ground := Ground.phase }, { on := 4, ground := Ground.phase }, { on := 5, ground := Ground.phase }, { on := 6, ground := Ground.phase }, { on := 7, ground := Ground.phase }, { on := 8, ground := Ground.phase }, { on := 9, ground := Ground.phase }, { on := 10, ground := Ground.phase }, { on := 11, ground := Ground.phase }, { on := 12, ground := Ground.phase }, { on := 13, ground := Ground.phase }, { on := 14, ground := Ground.phase }], guard := none }) rfl (fun K hK => ?_) AllReadyH.nil)
      have h317r3 := h316r3.rowset (ds := #[.int .i64 r0, .int .i64 r1, .int .i64 r2, .int .i64 r3]) hle14r3 hne14r3
      refine wp_store_of 51 _ _ rfl (store_row 51 (cs := #[.int .i64 0, .int .i64 0, .int .i64 0, .int .i64 0]) (ds := #[.int .i64 r0, .int .i64 r1, .int .i64 r2, .int .i64 r3]) (by kernel_rfl) rfl (by simp [Value.oneCell']) h316r3.hd) ?_
      refine hK.out _ _ ?_ (fun hHeld => ?_)
      · exact HP.out _ (h317r3.tl)
      clear hK K
      try simp only [Act.put]
      refine wpAnyH_done (by kernel_rfl) ?_ _
      have h9 := h317r3
      go_wp2_with fail
      go_meet
      case rel => exact ⟨_, rfl, h9⟩
  case rest =>
    obtain ⟨b9, rfl, HQ⟩ := hcut
    have h20 := HQ.out
    clear HQ HP HM0 HM1 HRS HSM
    obtain ⟨_, _, _, _, _, _, _⟩ := St.aff h20 (b := c1) (a := s0) (b' := s1) (c := s2) (d := s3) (e := s4) (f := s5) (n := s6) (by simp)
    obtain ⟨_, _, _, _⟩ := St.rect h20 (b := b9) (x0 := r0) (x1 := r1) (x2 := r2) (x3 := r3) (by simp)
    go_upto_region 7 with (first | (go_at_call 31; (with_reducible refine (St.call h20 (HN.out _)).mono ?_); rintro en w21 ⟨rfl, h21⟩))
    have h22 := h21.alloc (ro o0 o1 o2 o3)
    generalize w21.heap.size = c11 at h22 ⊢
    generalize w21.alloc (ro o0 o1 o2 o3) = w22 at h22 ⊢
    go_upto_region 8 with fail
    have hnec12 := h22.ne
    have hlec12 := h22.below.size
    have h23 := h22.alloc (ro 0 0 0 0)
    generalize w22.heap.size = c12 at h23 hnec12 hlec12 ⊢
    generalize w22.alloc (ro 0 0 0 0) = w23 at h23 ⊢
    obtain ⟨_, _, _, _⟩ := St.rect h23 (b := b9) (x0 := r0) (x1 := r1) (x2 := r2) (x3 := r3) (by simp)
    obtain ⟨_, _, _, _, _, _⟩ := HLIM.out
    go_wp2_with fail
    go_loopw [11] (fun i wr => ∃ (y : Int) (z : Rc), i = .int .i64 y ∧ r1 ≤ y ∧ y ≤ r3 ∧ Hid (SE z y r0) ∧ Hid (St w ((c12, ro z.x0 z.y0 z.x1 z.y1) :: [(c11, ro o0 o1 o2 o3), (b9, ro r0 r1 r2 r3), (c1, ao s0 s1 s2 s3 s4 s5 s6), (b0 + 1, (.cells #[.int .i64 n0, .int .i64 n1, .int .i64 n2, .int .i64 n3] 55 : Obj)), (b0, (.cells #[.int .i64 q0, .int .i64 q1, .int .i64 q2, .int .i64 q3, .int .i64 q4, .int .i64 q5, .int .i64 q6] 26 : Obj))]) wr)) (fun i _ => (r3 - intOf i).toNat)
    case atStart => exact ⟨r1, ⟨0, 0, 0, 0⟩, rfl, by omega, by omega, HS0, h23⟩
    case round =>
      obtain ⟨y, z, rfl, hy0, hy1, HSE, HSt⟩ := hrel
      have hS := HSt.out
      obtain ⟨_, _, _, _⟩ := St.rect hS (b := b9) (x0 := r0) (x1 := r1) (x2 := r2) (x3 := r3) (by simp)
      by_cases hyy : y < r3
      · go_upto_block 2 with fail
        go_wp2_with fail
        go_loopw [12] (fun j wq => ∃ (x : Int) (z : Rc), j = .int .i64 x ∧ r0 ≤ x ∧ x ≤ r2 ∧ Hid (SE z y x) ∧ Hid (St w ((c12, ro z.x0 z.y0 z.x1 z.y1) :: [(c11, ro o0 o1 o2 o3), (b9, ro r0 r1 r2 r3), (c1, ao s0 s1 s2 s3 s4 s5 s6), (b0 + 1, (.cells #[.int .i64 n0, .int .i64 n1, .int .i64 n2, .int .i64 n3] 55 : Obj)), (b0, (.cells #[.int .i64 q0, .int .i64 q1, .int .i64 q2, .int .i64 q3, .int .i64 q4, .int .i64 q5, .int .i64 q6] 26 : Obj))]) wq)) (fun j _ => (r2 - intOf j).toNat)
        case atStart => exact ⟨r0, z, rfl, by omega, by omega, HSE, HSt⟩
        case round =>
          clear hS HSE HSt
          obtain ⟨x, z, rfl, hx0, hx1, HSE, HSt⟩ := hrel
          have hS := HSt.out
          obtain ⟨_, _, _, _⟩ := St.rect hS (b := b9) (x0 := r0) (x1 := r1) (x2 := r2) (x3 := r3) (by simp)
          by_cases hxx : x < r2
          · have HSR2 := Lib.hid (HSR.out x y hx0 hxx hy0 hyy)
            obtain ⟨k1, k2, k3⟩ := HBT.out x y hx0 hxx hy0 hyy
            have HNX := Lib.hid (HST.out z x y HSE.out hx0 hxx hy0 hyy)
            have HH := Lib.hid (fun W => has_any o0 o1 o2 o3 (fx x y) (fy x y) W)
            rw [k1] at HH
            have HU := Lib.hid (fun W => union_any z.x0 z.y0 z.x1 z.y1 (fx x y) (fy x y) (fx x y + 1) (fy x y + 1) W)
            generalize uni z.x0 z.y0 z.x1 z.y1 (fx x y) (fy x y) (fx x y + 1) (fy x y + 1) = z' at HU HNX
            generalize fx x y = X at HSR2 HH HU k2 k3
            generalize fy x y = Y at HSR2 HH HU k3
            clear k1
            have ex : wrap64 (x + 1) = x + 1 := w64 ⟨by omega, by omega⟩
            obtain ⟨_, _, _, _, _, _, _⟩ := St.aff hS (b := c1) (a := s0) (b' := s1) (c := s2) (d := s3) (e := s4) (f := s5) (n := s6) (by simp)
            go_upto_region 15 with (first | (go_at_call 30; (with_reducible refine (St.call hS (HSR2.out _)).mono ?_); rintro en w61 ⟨rfl, h61⟩))
            have h62 := h61.alloc (pob X Y)
            generalize w61.heap.size = c61 at h62 ⊢
            generalize w61.alloc (pob X Y) = w62 at h62 ⊢
            obtain ⟨_, _, _, _⟩ := St.rect h62 (b := c11) (x0 := o0) (x1 := o1) (x2 := o2) (x3 := o3) (by simp)
            obtain ⟨_, _⟩ := St.pt h62 (b := c61) (x := X) (y := Y) (by simp)
            go_upto_region 17 with (first | (go_at_call 37; (with_reducible refine (St.call h62 (HH.out _)).mono ?_); rintro en w63 ⟨rfl, h63⟩; obtain ⟨_, _⟩ := St.pt h63 (b := c61) (x := X) (y := Y) (by simp)))
            obtain ⟨_, _, _, _⟩ := St.rect h63 (b := c12) (x0 := z.x0) (x1 := z.y0) (x2 := z.x1) (x3 := z.y1) (by simp)
            go_wp2_with (first | (go_at_call 38; (with_reducible refine (St.call h63 (HU.out _)).mono ?_); rintro en w64 ⟨rfl, h64⟩; obtain ⟨_, _, _, _⟩ := St.rect h64 (b := c12) (x0 := z.x0) (x1 := z.y0) (x2 := z.x1) (x3 := z.y1) (by simp); have : ∀ j, _ = false := St.frozen h64 (b := c12) (cs := #[.int .i64 z.x0, .int .i64 z.y0, .int .i64 z.x1, .int .i64 z.y1]) (t := 51) (by simp)))
            exact ⟨⟨x + 1, z', rfl, by omega, by omega, HNX, h64.tl.put4 hlec12 hnec12⟩, by simp [intOf]; omega⟩
          · obtain rfl : x = r2 := by omega
            have HNX := Lib.hid (HRW.out z y HSE.out)
            have ey : wrap64 (y + 1) = y + 1 := w64 ⟨by omega, by omega⟩
            go_wp2_with fail
            exact ⟨⟨y + 1, z, rfl, by omega, by omega, HNX, HSt⟩, by simp [intOf]; omega⟩
      · obtain rfl : y = r3 := by omega
        have HFX := Lib.hid (HFI.out z HSE.out)
        have HEQ := Lib.hid (fun W => equal_any z.x0 z.y0 z.x1 z.y1 o0 o1 o2 o3 W)
        rw [HFX.out] at HEQ
        clear HFX
        obtain ⟨_, _, _, _⟩ := St.rect hS (b := c12) (x0 := z.x0) (x1 := z.y0) (x2 := z.x1) (x3 := z.y1) (by simp)
        obtain ⟨_, _, _, _⟩ := St.rect hS (b := c11) (x0 := o0) (x1 := o1) (x2 := o2) (x3 := o3) (by simp)
        go_wp2_with (first | (go_at_call 39; (with_reducible refine (St.call hS (HEQ.out _)).mono ?_); rintro en w81 ⟨rfl, h81⟩))
        go_ret
        subst hb0
        exact ⟨rfl, h81.below⟩

set_option maxRecDepth 100000 in
theorem lifted (os : Os) (started : os.Started) (H : Type) (enc : TypeId × Value → H) :
    ReturnsInHanded {} Try.checked os 9 .any (Rows.affineNeedsSpec.pre6 enc Try.prog Try.f9 Rows.affineNeedsRow.domain false) (Rows.affineNeedsSpec.post enc Try.prog Try.f9 false true false false) := by
  refine returnsInHanded_of_change_sized (C := Try.checked) own started (by kernel_rfl) Try.func9
    (ChangeSpec.witness6 (enc := enc) (C := Try.checked) false ⟨#[], #[.agg #[.int .i64 0, .int .i64 0, .int .i64 0, .int .i64 0, .int .i64 0, .int .i64 0, .int .i64 0], .agg #[.int .i64 0, .int .i64 0, .int .i64 0, .int .i64 0]], []⟩ 8 (by kernel_rfl) (by kernel_rfl) (by kernel_rfl) (by kernel_rfl)) ?_
  intro W base args ds gs before hval0 hW _ _ _
  have hval : ∀ (j : Nat) t v, Try.f9.params[j]? = some t → args[j]? = some v → Value.okWide Try.prog W .any base t v := hval0
  have hW' := hW
  obtain ⟨p, q, hA0, hV, rfl, hfz, hnd⟩ := hW
  have hA : DataW.TrodAll enc Try.prog W 0 (fun _ => true) true Try.f9.params.toList args.toList ds p := hA0
  rw [Try.params9] at hA hval
  obtain ⟨v0, v1, d0, d1, p0, p1, rfl, rfl, rfl, h0, h1⟩ := trodAll_two hA
  obtain ⟨rfl, rfl⟩ := trodVars_none hV
  obtain ⟨q0, q1, q2, q3, q4, q5, q6, rfl⟩ := op__7_int (hval 0 26 v0 rfl rfl)
  obtain ⟨n0, n1, n2, n3, rfl⟩ := op__4_int (hval 1 55 v1 rfl rfl)
  refine (walk q0 q1 q2 q3 q4 q5 q6 n0 n1 n2 n3 W).mono fun en W' ⟨he, hb⟩ => ?_
  subst he
  exact ⟨_, rfl, law_post hW' rfl (by kernel_rfl) rfl (by intro t ht; rw [Try.params9] at ht; simp at ht; rcases ht with rfl | rfl <;> exact ⟨by kernel_rfl, of_decide_eq_true (by kernel_rfl)⟩) hb⟩

theorem holds : Rows.AffineNeedsSaid :=
  OpenClaim.holds_of_wide 9 Try.f9 rfl rfl rfl rfl rfl rfl rfl ⟨rfl, rfl, rfl, rfl, rfl⟩ rfl rfl rfl rfl rfl (by kernel_rfl) Try.func9 (by kernel_rfl)
    (of_decide_eq_true (by kernel_rfl)) (by unfold Func.isWrapper; first | (rw [if_pos (by decide +kernel)]; kernel_rfl) | (rw [if_neg (by decide +kernel)]; exact ⟨rfl, rfl⟩))
    (fun os started H enc _ => lifted os started H enc)
end Go.Proofs.Ytfjbcjhbaenjcaa.F.ALNeeds
