/-
  Need of the reference.
-/
import Derived.Test.YtgipfcpkphmbpaaARSmp
import Derived.Test.YtgipfcpkphmbpaaANeed
import Derived.Deep.DeepCutAuto
namespace Go.Proofs.Ytgipfcpkphmbpaa.F
open Go.RowKit
set_option maxRecDepth 100000

abbrev BB5 (w : World) (b : Nat) (x0 x1 x2 x3 x4 : Int) : Prop :=
  w.cell? ⟨b, 0, none⟩ = some (.int .i64 x0) ∧ w.cell? ⟨b, 1, none⟩ = some (.int .i64 x1) ∧ w.cell? ⟨b, 2, none⟩ = some (.int .i64 x2) ∧ w.cell? ⟨b, 3, none⟩ = some (.int .i64 x3) ∧ w.cell? ⟨b, 4, none⟩ = some (.int .i64 x4)
theorem St.b5 {W w : World} {L : List (Nat × Obj)} (h : St W L w) {b : Nat} {x0 x1 x2 x3 x4 : Int} {t : TypeId} (hm : (b, .cells #[.int .i64 x0, .int .i64 x1, .int .i64 x2, .int .i64 x3, .int .i64 x4] t) ∈ L) : BB5 w b x0 x1 x2 x3 x4 :=
  ⟨h.cell hm 0, h.cell hm 1, h.cell hm 2, h.cell hm 3, h.cell hm 4⟩
theorem zero_p4 (w : World) : (zeroValue 88).run Try.prog w = .ok (.agg #[.int .i64 0, .int .i64 0, .int .i64 0, .int .i64 0, .int .i64 0, .int .i64 0, .int .i64 0, .int .i64 0]) w := by kernel_rfl
theorem uni_unit (a b c d x y : Int) (h : a < c ∧ b < d) : uni a b c d x y (x + 1) (y + 1) = ⟨mn a x, mn b y, mx c (x + 1), mx d (y + 1)⟩ := by
  unfold uni
  rw [(emp_not _ _ _ _).2 h, (emp_not x y (x + 1) (y + 1)).2 ⟨by omega, by omega⟩]
  simp only [Bool.false_eq_true, if_false]
theorem need_uni (X0 Y0 X1 Y1 X2 Y2 X3 Y3 : Int) : ∃ a b c d e f g h i j k l, uni X0 Y0 (X0 + 1) (Y0 + 1) X1 Y1 (X1 + 1) (Y1 + 1) = ⟨a, b, c, d⟩ ∧ uni a b c d X2 Y2 (X2 + 1) (Y2 + 1) = ⟨e, f, g, h⟩ ∧ uni e f g h X3 Y3 (X3 + 1) (Y3 + 1) = ⟨i, j, k, l⟩ ∧
    i = mn (mn (mn X0 X1) X2) X3 ∧ j = mn (mn (mn Y0 Y1) Y2) Y3 ∧ k = mx (mx (mx X0 X1) X2) X3 + 1 ∧ l = mx (mx (mx Y0 Y1) Y2) Y3 + 1 := by
  refine ⟨_, _, _, _, _, _, _, _, _, _, _, _, uni_unit _ _ _ _ _ _ ⟨by omega, by omega⟩, uni_unit _ _ _ _ _ _ ?_, uni_unit _ _ _ _ _ _ ?_, rfl, rfl, ?_, ?_⟩ <;> simp only [mn_eq, mx_eq] <;> omega
set_option maxHeartbeats 8000000 in
theorem refNeedT_any (p0 p1 p2 p3 p4 p5 p6 r0 r1 r2 r3 : Int) (w : World) : Calls Try.prog 34 #[av p0 p1 p2 p3 p4 p5 p6, rv r0 r1 r2 r3] w fun en w' => en = .returned (needT ⟨p0, p1, p2, p3, p4, p5, p6⟩ r0 r1 r2 r3).r ∧ Below w.heap.size w w' := by
  have HV : Hid (∀ W, Calls Try.prog 17 #[av p0 p1 p2 p3 p4 p5 p6] W fun en w' => en = .returned ((.bool (okA ⟨p0, p1, p2, p3, p4, p5, p6⟩))) ∧ Below W.heap.size W w') := fun W => refOk_any p0 p1 p2 p3 p4 p5 p6 W
  have HE : Hid (∀ W, Calls Try.prog 63 #[rv r0 r1 r2 r3] W fun en w' => en = .returned ((.bool (emp r0 r1 r2 r3))) ∧ Below W.heap.size W w') := fun W => refEmpty_any r0 r1 r2 r3 W
  have HW : Hid (∀ W, Calls Try.prog 64 #[rv r0 r1 r2 r3] W fun en w' => en = .returned ((.bool (vld r0 r1 r2 r3))) ∧ Below W.heap.size W w') := fun W => refValid_any r0 r1 r2 r3 W
  have HO : Hid (okA ⟨p0, p1, p2, p3, p4, p5, p6⟩ = true → emp r0 r1 r2 r3 = false → vld r0 r1 r2 r3 = true → Ok ⟨p0, p1, p2, p3, p4, p5, p6⟩ ∧ (-65536 ≤ r0 ∧ r0 < r2 ∧ r2 ≤ 65536) ∧ (-65536 ≤ r1 ∧ r1 < r3 ∧ r3 ≤ 65536)) := fun h1 h2 h3 => chkE_ok (by unfold chkE; rw [h1, h2, h3]; rfl) h2
  unfold needT chkE
  generalize okA ⟨p0, p1, p2, p3, p4, p5, p6⟩ = s1 at HV HO ⊢
  generalize emp r0 r1 r2 r3 = s2 at HE HO ⊢
  generalize vld r0 r1 r2 r3 = s3 at HW HO ⊢
  cases s1
  · cases s2 <;> cases s3
    all_goals
      go_enter Try.func34, Try.ntmps34
      go_upto_region 1 with fail
      have hs := (((St.start w).alloc (ao p0 p1 p2 p3 p4 p5 p6)).alloc (ro r0 r1 r2 r3)).alloc (b5o 0 0 0 0 0)
      simp only [World.size_alloc] at hs
      generalize hb0 : w.heap.size = b0 at hs ⊢
      generalize ((w.alloc (ao p0 p1 p2 p3 p4 p5 p6)).alloc (ro r0 r1 r2 r3)).alloc (b5o 0 0 0 0 0) = w1 at hs ⊢
      obtain ⟨_, _, _, _, _, _, _⟩ := St.aff hs (b := b0) (a := p0) (b' := p1) (c := p2) (d := p3) (e := p4) (f := p5) (n := p6) (by simp)
      obtain ⟨_, _, _, _⟩ := St.rect hs (b := b0 + 1) (x0 := r0) (x1 := r1) (x2 := r2) (x3 := r3) (by simp)
      go_wp2_with (first | (go_at_call 17; (with_reducible refine (St.call hs (HV.out _)).mono ?_); rintro en w2 ⟨rfl, h2⟩; obtain ⟨_, _, _, _⟩ := St.rect h2 (b := b0 + 1) (x0 := r0) (x1 := r1) (x2 := r2) (x3 := r3) (by simp)) | (go_at_call 63; (with_reducible refine (St.call h2 (HE.out _)).mono ?_); rintro en w3 ⟨rfl, h3⟩; obtain ⟨_, _, _, _⟩ := St.rect h3 (b := b0 + 1) (x0 := r0) (x1 := r1) (x2 := r2) (x3 := r3) (by simp)) | (go_at_call 64; (with_reducible refine (St.call h3 (HW.out _)).mono ?_); rintro en w4 ⟨rfl, h4⟩; obtain ⟨_, _, _, _, _⟩ := St.b5 h4 (b := b0 + 1 + 1) (x0 := 0) (x1 := 0) (x2 := 0) (x3 := 0) (x4 := 0) (t := 66) (by simp); have : ∀ j, _ = false := h4.frozen (b := b0 + 1 + 1) (cs := #[.int .i64 0, .int .i64 0, .int .i64 0, .int .i64 0, .int .i64 0]) (t := 66) (by simp)))
      subst hb0; exact bodyPost_ret (v := .agg #[.int .i64 0, .int .i64 0, .int .i64 0, .int .i64 0, .int .i64 1]) (by simp [results, Try.results34, go_sem, *]) rfl ⟨rfl, below_set5 h4.below (by omega) _ _ _ _ _⟩
  cases s2
  case true =>
    cases s3
    all_goals
      go_enter Try.func34, Try.ntmps34
      go_upto_region 1 with fail
      have hs := (((St.start w).alloc (ao p0 p1 p2 p3 p4 p5 p6)).alloc (ro r0 r1 r2 r3)).alloc (b5o 0 0 0 0 0)
      simp only [World.size_alloc] at hs
      generalize hb0 : w.heap.size = b0 at hs ⊢
      generalize ((w.alloc (ao p0 p1 p2 p3 p4 p5 p6)).alloc (ro r0 r1 r2 r3)).alloc (b5o 0 0 0 0 0) = w1 at hs ⊢
      obtain ⟨_, _, _, _, _, _, _⟩ := St.aff hs (b := b0) (a := p0) (b' := p1) (c := p2) (d := p3) (e := p4) (f := p5) (n := p6) (by simp)
      obtain ⟨_, _, _, _⟩ := St.rect hs (b := b0 + 1) (x0 := r0) (x1 := r1) (x2 := r2) (x3 := r3) (by simp)
      go_wp2_with (first | (go_at_call 17; (with_reducible refine (St.call hs (HV.out _)).mono ?_); rintro en w2 ⟨rfl, h2⟩; obtain ⟨_, _, _, _⟩ := St.rect h2 (b := b0 + 1) (x0 := r0) (x1 := r1) (x2 := r2) (x3 := r3) (by simp)) | (go_at_call 63; (with_reducible refine (St.call h2 (HE.out _)).mono ?_); rintro en w3 ⟨rfl, h3⟩; obtain ⟨_, _, _, _⟩ := St.rect h3 (b := b0 + 1) (x0 := r0) (x1 := r1) (x2 := r2) (x3 := r3) (by simp)) | (go_at_call 64; (with_reducible refine (St.call h3 (HW.out _)).mono ?_); rintro en w4 ⟨rfl, h4⟩; obtain ⟨_, _, _, _, _⟩ := St.b5 h4 (b := b0 + 1 + 1) (x0 := 0) (x1 := 0) (x2 := 0) (x3 := 0) (x4 := 0) (t := 66) (by simp); have : ∀ j, _ = false := h4.frozen (b := b0 + 1 + 1) (cs := #[.int .i64 0, .int .i64 0, .int .i64 0, .int .i64 0, .int .i64 0]) (t := 66) (by simp)))
      subst hb0; exact bodyPost_ret (v := .agg #[.int .i64 0, .int .i64 0, .int .i64 0, .int .i64 0, .int .i64 0]) (by simp [results, Try.results34, go_sem, *]) rfl ⟨rfl, below_set5 h4.below (by omega) _ _ _ _ _⟩
  cases s3
  · go_enter Try.func34, Try.ntmps34
    go_upto_region 1 with fail
    have hs := (((St.start w).alloc (ao p0 p1 p2 p3 p4 p5 p6)).alloc (ro r0 r1 r2 r3)).alloc (b5o 0 0 0 0 0)
    simp only [World.size_alloc] at hs
    generalize hb0 : w.heap.size = b0 at hs ⊢
    generalize ((w.alloc (ao p0 p1 p2 p3 p4 p5 p6)).alloc (ro r0 r1 r2 r3)).alloc (b5o 0 0 0 0 0) = w1 at hs ⊢
    obtain ⟨_, _, _, _, _, _, _⟩ := St.aff hs (b := b0) (a := p0) (b' := p1) (c := p2) (d := p3) (e := p4) (f := p5) (n := p6) (by simp)
    obtain ⟨_, _, _, _⟩ := St.rect hs (b := b0 + 1) (x0 := r0) (x1 := r1) (x2 := r2) (x3 := r3) (by simp)
    go_wp2_with (first | (go_at_call 17; (with_reducible refine (St.call hs (HV.out _)).mono ?_); rintro en w2 ⟨rfl, h2⟩; obtain ⟨_, _, _, _⟩ := St.rect h2 (b := b0 + 1) (x0 := r0) (x1 := r1) (x2 := r2) (x3 := r3) (by simp)) | (go_at_call 63; (with_reducible refine (St.call h2 (HE.out _)).mono ?_); rintro en w3 ⟨rfl, h3⟩; obtain ⟨_, _, _, _⟩ := St.rect h3 (b := b0 + 1) (x0 := r0) (x1 := r1) (x2 := r2) (x3 := r3) (by simp)) | (go_at_call 64; (with_reducible refine (St.call h3 (HW.out _)).mono ?_); rintro en w4 ⟨rfl, h4⟩; obtain ⟨_, _, _, _, _⟩ := St.b5 h4 (b := b0 + 1 + 1) (x0 := 0) (x1 := 0) (x2 := 0) (x3 := 0) (x4 := 0) (t := 66) (by simp); have : ∀ j, _ = false := h4.frozen (b := b0 + 1 + 1) (cs := #[.int .i64 0, .int .i64 0, .int .i64 0, .int .i64 0, .int .i64 0]) (t := 66) (by simp)))
    subst hb0; exact bodyPost_ret (v := .agg #[.int .i64 0, .int .i64 0, .int .i64 0, .int .i64 0, .int .i64 1]) (by simp [results, Try.results34, go_sem, *]) rfl ⟨rfl, below_set5 h4.below (by omega) _ _ _ _ _⟩
  obtain ⟨hok, hx, hy⟩ := HO.out rfl rfl rfl
  clear HO
  have k0 : Cb r0 := by unfold Cb; omega
  have k1 : Cb r1 := by unfold Cb; omega
  have k2 : Cb (r2 - 1) := by unfold Cb; omega
  have k3 : Cb (r3 - 1) := by unfold Cb; omega
  have e2 : IntKind.i64.wrap (r2 - 1) = r2 - 1 := wI64 ⟨by omega, by omega⟩
  have e3 : IntKind.i64.wrap (r3 - 1) = r3 - 1 := wI64 ⟨by omega, by omega⟩
  have HS0 : Hid (∀ W, Calls Try.prog 62 #[av p0 p1 p2 p3 p4 p5 p6, .int .i64 r0, .int .i64 r1] W fun en w' => en = .returned (tv (sx ⟨p0, p1, p2, p3, p4, p5, p6⟩ r0 r1) (sy ⟨p0, p1, p2, p3, p4, p5, p6⟩ r0 r1)) ∧ Below W.heap.size W w') := fun W => refSource0_any p0 p1 p2 p3 p4 p5 p6 r0 r1 W hok k0 k1
  have q0 := sxy_bd hok k0 k1
  have HS1 : Hid (∀ W, Calls Try.prog 62 #[av p0 p1 p2 p3 p4 p5 p6, .int .i64 (r2 - 1), .int .i64 r1] W fun en w' => en = .returned (tv (sx ⟨p0, p1, p2, p3, p4, p5, p6⟩ (r2 - 1) r1) (sy ⟨p0, p1, p2, p3, p4, p5, p6⟩ (r2 - 1) r1)) ∧ Below W.heap.size W w') := fun W => refSource0_any p0 p1 p2 p3 p4 p5 p6 (r2 - 1) r1 W hok k2 k1
  have q1 := sxy_bd hok k2 k1
  have HS2 : Hid (∀ W, Calls Try.prog 62 #[av p0 p1 p2 p3 p4 p5 p6, .int .i64 r0, .int .i64 (r3 - 1)] W fun en w' => en = .returned (tv (sx ⟨p0, p1, p2, p3, p4, p5, p6⟩ r0 (r3 - 1)) (sy ⟨p0, p1, p2, p3, p4, p5, p6⟩ r0 (r3 - 1))) ∧ Below W.heap.size W w') := fun W => refSource0_any p0 p1 p2 p3 p4 p5 p6 r0 (r3 - 1) W hok k0 k3
  have q2 := sxy_bd hok k0 k3
  have HS3 : Hid (∀ W, Calls Try.prog 62 #[av p0 p1 p2 p3 p4 p5 p6, .int .i64 (r2 - 1), .int .i64 (r3 - 1)] W fun en w' => en = .returned (tv (sx ⟨p0, p1, p2, p3, p4, p5, p6⟩ (r2 - 1) (r3 - 1)) (sy ⟨p0, p1, p2, p3, p4, p5, p6⟩ (r2 - 1) (r3 - 1))) ∧ Below W.heap.size W w') := fun W => refSource0_any p0 p1 p2 p3 p4 p5 p6 (r2 - 1) (r3 - 1) W hok k2 k3
  have q3 := sxy_bd hok k2 k3
  have hnd0 : nd0 ⟨p0, p1, p2, p3, p4, p5, p6⟩ r0 r1 r2 r3 = mn (mn (mn (sx ⟨p0, p1, p2, p3, p4, p5, p6⟩ r0 r1) (sx ⟨p0, p1, p2, p3, p4, p5, p6⟩ (r2 - 1) r1)) (sx ⟨p0, p1, p2, p3, p4, p5, p6⟩ r0 (r3 - 1))) (sx ⟨p0, p1, p2, p3, p4, p5, p6⟩ (r2 - 1) (r3 - 1)) := rfl
  have hnd1 : nd1 ⟨p0, p1, p2, p3, p4, p5, p6⟩ r0 r1 r2 r3 = mn (mn (mn (sy ⟨p0, p1, p2, p3, p4, p5, p6⟩ r0 r1) (sy ⟨p0, p1, p2, p3, p4, p5, p6⟩ (r2 - 1) r1)) (sy ⟨p0, p1, p2, p3, p4, p5, p6⟩ r0 (r3 - 1))) (sy ⟨p0, p1, p2, p3, p4, p5, p6⟩ (r2 - 1) (r3 - 1)) := rfl
  have hnd2 : nd2 ⟨p0, p1, p2, p3, p4, p5, p6⟩ r0 r1 r2 r3 = mx (mx (mx (sx ⟨p0, p1, p2, p3, p4, p5, p6⟩ r0 r1) (sx ⟨p0, p1, p2, p3, p4, p5, p6⟩ (r2 - 1) r1)) (sx ⟨p0, p1, p2, p3, p4, p5, p6⟩ r0 (r3 - 1))) (sx ⟨p0, p1, p2, p3, p4, p5, p6⟩ (r2 - 1) (r3 - 1)) := rfl
  have hnd3 : nd3 ⟨p0, p1, p2, p3, p4, p5, p6⟩ r0 r1 r2 r3 = mx (mx (mx (sy ⟨p0, p1, p2, p3, p4, p5, p6⟩ r0 r1) (sy ⟨p0, p1, p2, p3, p4, p5, p6⟩ (r2 - 1) r1)) (sy ⟨p0, p1, p2, p3, p4, p5, p6⟩ r0 (r3 - 1))) (sy ⟨p0, p1, p2, p3, p4, p5, p6⟩ (r2 - 1) (r3 - 1)) := rfl
  generalize sx ⟨p0, p1, p2, p3, p4, p5, p6⟩ r0 r1 = X0 at *
  generalize sy ⟨p0, p1, p2, p3, p4, p5, p6⟩ r0 r1 = Y0 at *
  generalize sx ⟨p0, p1, p2, p3, p4, p5, p6⟩ (r2 - 1) r1 = X1 at *
  generalize sy ⟨p0, p1, p2, p3, p4, p5, p6⟩ (r2 - 1) r1 = Y1 at *
  generalize sx ⟨p0, p1, p2, p3, p4, p5, p6⟩ r0 (r3 - 1) = X2 at *
  generalize sy ⟨p0, p1, p2, p3, p4, p5, p6⟩ r0 (r3 - 1) = Y2 at *
  generalize sx ⟨p0, p1, p2, p3, p4, p5, p6⟩ (r2 - 1) (r3 - 1) = X3 at *
  generalize sy ⟨p0, p1, p2, p3, p4, p5, p6⟩ (r2 - 1) (r3 - 1) = Y3 at *
  obtain ⟨o4, o5, o6, o7, o8, o9, o10, o11, o12, o13, o14, o15, hu1, hu2, hu3, z0, z1, z2, z3⟩ := need_uni X0 Y0 X1 Y1 X2 Y2 X3 Y3
  rw [← hnd0] at z0
  rw [← hnd1] at z1
  rw [← hnd2] at z2
  rw [← hnd3] at z3
  clear hnd0 hnd1 hnd2 hnd3
  generalize nd0 ⟨p0, p1, p2, p3, p4, p5, p6⟩ r0 r1 r2 r3 = d0 at z0 ⊢
  generalize nd1 ⟨p0, p1, p2, p3, p4, p5, p6⟩ r0 r1 r2 r3 = d1 at z1 ⊢
  generalize nd2 ⟨p0, p1, p2, p3, p4, p5, p6⟩ r0 r1 r2 r3 = d2 at z2 ⊢
  generalize nd3 ⟨p0, p1, p2, p3, p4, p5, p6⟩ r0 r1 r2 r3 = d3 at z3 ⊢
  subst z0 z1
  have HU1 : Hid (∀ W, Calls Try.prog 65 #[rv X0 Y0 (X0 + 1) (Y0 + 1), rv X1 Y1 (X1 + 1) (Y1 + 1)] W fun en w' => en = .returned (rv o4 o5 o6 o7) ∧ Below W.heap.size W w') := fun W => by
    have := refUnion_any X0 Y0 (X0 + 1) (Y0 + 1) X1 Y1 (X1 + 1) (Y1 + 1) W; rw [hu1] at this; exact this
  have HU2 : Hid (∀ W, Calls Try.prog 65 #[rv o4 o5 o6 o7, rv X2 Y2 (X2 + 1) (Y2 + 1)] W fun en w' => en = .returned (rv o8 o9 o10 o11) ∧ Below W.heap.size W w') := fun W => by
    have := refUnion_any o4 o5 o6 o7 X2 Y2 (X2 + 1) (Y2 + 1) W; rw [hu2] at this; exact this
  have HU3 : Hid (∀ W, Calls Try.prog 65 #[rv o8 o9 o10 o11, rv X3 Y3 (X3 + 1) (Y3 + 1)] W fun en w' => en = .returned (rv o12 o13 o14 o15) ∧ Below W.heap.size W w') := fun W => by
    have := refUnion_any o8 o9 o10 o11 X3 Y3 (X3 + 1) (Y3 + 1) W; rw [hu3] at this; exact this
  have a0 : IntKind.i64.wrap (X0 + 1) = X0 + 1 := wI64 ⟨by omega, by omega⟩
  have b0 : IntKind.i64.wrap (Y0 + 1) = Y0 + 1 := wI64 ⟨by omega, by omega⟩
  have a1 : IntKind.i64.wrap (X1 + 1) = X1 + 1 := wI64 ⟨by omega, by omega⟩
  have b1 : IntKind.i64.wrap (Y1 + 1) = Y1 + 1 := wI64 ⟨by omega, by omega⟩
  have a2 : IntKind.i64.wrap (X2 + 1) = X2 + 1 := wI64 ⟨by omega, by omega⟩
  have b2 : IntKind.i64.wrap (Y2 + 1) = Y2 + 1 := wI64 ⟨by omega, by omega⟩
  have a3 : IntKind.i64.wrap (X3 + 1) = X3 + 1 := wI64 ⟨by omega, by omega⟩
  have b3 : IntKind.i64.wrap (Y3 + 1) = Y3 + 1 := wI64 ⟨by omega, by omega⟩
  have a0' : wrap64 (X0 + 1) = X0 + 1 := w64 ⟨by omega, by omega⟩
  have b0' : wrap64 (Y0 + 1) = Y0 + 1 := w64 ⟨by omega, by omega⟩
  clear hu1 hu2 hu3 q0 q1 q2 q3 k0 k1 k2 k3 hok hx hy
  go_enter Try.func34, Try.ntmps34
  go_upto_region 1 with fail
  have hs := (((St.start w).alloc (ao p0 p1 p2 p3 p4 p5 p6)).alloc (ro r0 r1 r2 r3)).alloc (b5o 0 0 0 0 0)
  simp only [World.size_alloc] at hs
  generalize hb0 : w.heap.size = b0 at hs ⊢
  generalize ((w.alloc (ao p0 p1 p2 p3 p4 p5 p6)).alloc (ro r0 r1 r2 r3)).alloc (b5o 0 0 0 0 0) = w1 at hs ⊢
  obtain ⟨_, _, _, _, _, _, _⟩ := St.aff hs (b := b0) (a := p0) (b' := p1) (c := p2) (d := p3) (e := p4) (f := p5) (n := p6) (by simp)
  obtain ⟨_, _, _, _⟩ := St.rect hs (b := b0 + 1) (x0 := r0) (x1 := r1) (x2 := r2) (x3 := r3) (by simp)
  go_upto_region 8 with (first | (go_at_call 17; (with_reducible refine (St.call hs (HV.out _)).mono ?_); rintro en w2 ⟨rfl, h2⟩; obtain ⟨_, _, _, _⟩ := St.rect h2 (b := b0 + 1) (x0 := r0) (x1 := r1) (x2 := r2) (x3 := r3) (by simp)) | (go_at_call 63; (with_reducible refine (St.call h2 (HE.out _)).mono ?_); rintro en w3 ⟨rfl, h3⟩; obtain ⟨_, _, _, _⟩ := St.rect h3 (b := b0 + 1) (x0 := r0) (x1 := r1) (x2 := r2) (x3 := r3) (by simp)) | (go_at_call 64; (with_reducible refine (St.call h3 (HW.out _)).mono ?_); rintro en w4 ⟨rfl, h4⟩))
  have HP : Hid (∀ V9, St w [(b0 + 1 + 1, b5o 0 0 0 0 0), (b0 + 1, ro r0 r1 r2 r3), (b0, ao p0 p1 p2 p3 p4 p5 p6)] V9 → St w [(b0 + 1 + 1, b5o 0 0 0 0 0), (b0 + 1, ro r0 r1 r2 r3), (b0, ao p0 p1 p2 p3 p4 p5 p6)] V9 ∧ AB V9 b0 p0 p1 p2 p3 p4 p5 p6 ∧ RB V9 (b0 + 1) r0 r1 r2 r3) := fun V hV => ⟨hV, St.aff hV (by simp), St.rect hV (by simp)⟩
  go_cut [8] (fun v8 wx => ∃ b8, v8 = .pointer (some ⟨b8, 0, none⟩) ∧ b0 + 1 + 1 ≠ b8 ∧ Hid (St w [(b8, (.cells #[.int .i64 X0, .int .i64 Y0, .int .i64 X1, .int .i64 Y1, .int .i64 X2, .int .i64 Y2, .int .i64 X3, .int .i64 Y3] 88 : Obj)), (b0 + 1 + 1, b5o 0 0 0 0 0)] wx))
  case first =>
    refine wp_region_held_drew (S := fun V9 => St w [(b0 + 1 + 1, b5o 0 0 0 0 0), (b0 + 1, ro r0 r1 r2 r3), (b0, ao p0 p1 p2 p3 p4 p5 p6)] V9 ∧ AB V9 b0 p0 p1 p2 p3 p4 p5 p6 ∧ RB V9 (b0 + 1) r0 r1 r2 r3) (by kernel_rfl) ?_ (fun hHeld => ?_)
    · exact HP.out _ (h4.drew)
    have h40 := h4.drew
    refine wpAnyH_take (i := 0) (oi := { dst := some 30, op := Op.load 23 (Operand.tmp 2), type := 23, pos := "ref.go:140", after := #[], guard := none }) (v := ?_) rfl (by kernel_rfl) (by kernel_rfl) (by kernel_rfl) (fun _ _ _ h => h) (Or.inl ⟨by kernel_rfl, ?_⟩) (by assumption) ?_
    rotate_left 1
    focus (intro w hSw; (try dsimp only at hSw); go_simp; (try with_reducible rfl))
    try simp only [Act.put, List.setIfInBounds_toArray, List.set_cons_zero, List.set_cons_succ]
    refine wpAnyH_take (i := 1) (oi := { dst := some 31, op := Op.fieldAddr 51 (Operand.tmp 3) 0, type := 0, pos := "ref.go:140", after := #[], guard := none }) (v := ?_) rfl (by kernel_rfl) (by kernel_rfl) (by kernel_rfl) (fun _ _ _ h => h) (Or.inl ⟨by kernel_rfl, ?_⟩) (by assumption) ?_
    rotate_left 1
    focus (intro w hSw; (try dsimp only at hSw); go_simp; (try with_reducible rfl))
    try simp only [Act.put, List.setIfInBounds_toArray, List.set_cons_zero, List.set_cons_succ]
    refine wpAnyH_take (i := 2) (oi := { dst := some 32, op := Op.load 3 (Operand.tmp 31), type := 3, pos := "ref.go:140", after := #[{ on := 1, ground := Ground.data }], guard := none }) (v := ?_) rfl (by kernel_rfl) (by kernel_rfl) (by kernel_rfl) (fun _ _ _ h => h) (Or.inl ⟨by kernel_rfl, ?_⟩) (by assumption) ?_
    rotate_left 1
    focus (intro w hSw; (try dsimp only at hSw); go_simp; (try with_reducible rfl))
    try simp only [Act.put, List.setIfInBounds_toArray, List.set_cons_zero, List.set_cons_succ]
    refine wpAnyH_take (i := 3) (oi := { dst := some 33, op := Op.fieldAddr 51 (Operand.tmp 3) 1, type := 0, pos := "ref.go:140", after := #[], guard := none }) (v := ?_) rfl (by kernel_rfl) (by kernel_rfl) (by kernel_rfl) (fun _ _ _ h => h) (Or.inl ⟨by kernel_rfl, ?_⟩) (by assumption) ?_
    rotate_left 1
    focus (intro w hSw; (try dsimp only at hSw); go_simp; (try with_reducible rfl))
    try simp only [Act.put, List.setIfInBounds_toArray, List.set_cons_zero, List.set_cons_succ]
    refine wpAnyH_take (i := 4) (oi := { dst := some 34, op := Op.load 3 (Operand.tmp 33), type := 3, pos := "ref.go:140", after := #[{ on := 3, ground := Ground.data }], guard := none }) (v := ?_) rfl (by kernel_rfl) (by kernel_rfl) (by kernel_rfl) (fun _ _ _ h => h) (Or.inl ⟨by kernel_rfl, ?_⟩) (by assumption) ?_
    rotate_left 1
    focus (intro w hSw; (try dsimp only at hSw); go_simp; (try with_reducible rfl))
    try simp only [Act.put, List.setIfInBounds_toArray, List.set_cons_zero, List.set_cons_succ]
    refine wpAnyH_take (i := 6) (oi := { dst := some 36, op := Op.load 23 (Operand.tmp 2), type := 23, pos := "ref.go:140", after := #[], guard := none }) (v := ?_) rfl (by kernel_rfl) (by kernel_rfl) (by kernel_rfl) (fun _ _ _ h => h) (Or.inl ⟨by kernel_rfl, ?_⟩) (by assumption) ?_
    rotate_left 1
    focus (intro w hSw; (try dsimp only at hSw); go_simp; (try with_reducible rfl))
    try simp only [Act.put, List.setIfInBounds_toArray, List.set_cons_zero, List.set_cons_succ]
    refine wpAnyH_take (i := 7) (oi := { dst := some 37, op := Op.fieldAddr 51 (Operand.tmp 3) 2, type := 0, pos := "ref.go:140", after := #[], guard := none }) (v := ?_) rfl (by kernel_rfl) (by kernel_rfl) (by kernel_rfl) (fun _ _ _ h => h) (Or.inl ⟨by kernel_rfl, ?_⟩) (by assumption) ?_
    rotate_left 1
    focus (intro w hSw; (try dsimp only at hSw); go_simp; (try with_reducible rfl))
    try simp only [Act.put, List.setIfInBounds_toArray, List.set_cons_zero, List.set_cons_succ]
    refine wpAnyH_take (i := 8) (oi := { dst := some 38, op := Op.load 3 (Operand.tmp 37), type := 3, pos := "ref.go:140", after := #[{ on := 7, ground := Ground.data }], guard := none }) (v := ?_) rfl (by kernel_rfl) (by kernel_rfl) (by kernel_rfl) (fun _ _ _ h => h) (Or.inl ⟨by kernel_rfl, ?_⟩) (by assumption) ?_
    rotate_left 1
    focus (intro w hSw; (try dsimp only at hSw); go_simp; (try with_reducible rfl))
    try simp only [Act.put, List.setIfInBounds_toArray, List.set_cons_zero, List.set_cons_succ]
    refine wpAnyH_take (i := 9) (oi := { dst := some 39, op := Op.binOp BinOp.sub 3 (Operand.tmp 38) (Operand.const (Value.int IntKind.i64 1)) 3, type := 3, pos := "ref.go:140", after := #[{ on := 8, ground := Ground.data }], guard := none }) (v := ?_) rfl (by kernel_rfl) (by kernel_rfl) (by kernel_rfl) (fun _ _ _ h => h) (Or.inl ⟨by kernel_rfl, ?_⟩) (by assumption) ?_
    rotate_left 1
    focus (intro w hSw; (try dsimp only at hSw); go_simp; (try with_reducible rfl))
    try simp only [Act.put, List.setIfInBounds_toArray, List.set_cons_zero, List.set_cons_succ]
    refine wpAnyH_take (i := 10) (oi := { dst := some 40, op := Op.fieldAddr 51 (Operand.tmp 3) 1, type := 0, pos := "ref.go:140", after := #[], guard := none }) (v := ?_) rfl (by kernel_rfl) (by kernel_rfl) (by kernel_rfl) (fun _ _ _ h => h) (Or.inl ⟨by kernel_rfl, ?_⟩) (by assumption) ?_
    rotate_left 1
    focus (intro w hSw; (try dsimp only at hSw); go_simp; (try with_reducible rfl))
    try simp only [Act.put, List.setIfInBounds_toArray, List.set_cons_zero, List.set_cons_succ]
    refine wpAnyH_take (i := 11) (oi := { dst := some 41, op := Op.load 3 (Operand.tmp 40), type := 3, pos := "ref.go:140", after := #[{ on := 10, ground := Ground.data }], guard := none }) (v := ?_) rfl (by kernel_rfl) (by kernel_rfl) (by kernel_rfl) (fun _ _ _ h => h) (Or.inl ⟨by kernel_rfl, ?_⟩) (by assumption) ?_
    rotate_left 1
    focus (intro w hSw; (try dsimp only at hSw); go_simp; (try with_reducible rfl))
    try simp only [Act.put, List.setIfInBounds_toArray, List.set_cons_zero, List.set_cons_succ]
    refine wpAnyH_take (i := 13) (oi := { dst := some 43, op := Op.load 23 (Operand.tmp 2), type := 23, pos := "ref.go:140", after := #[], guard := none }) (v := ?_) rfl (by kernel_rfl) (by kernel_rfl) (by kernel_rfl) (fun _ _ _ h => h) (Or.inl ⟨by kernel_rfl, ?_⟩) (by assumption) ?_
    rotate_left 1
    focus (intro w hSw; (try dsimp only at hSw); go_simp; (try with_reducible rfl))
    try simp only [Act.put, List.setIfInBounds_toArray, List.set_cons_zero, List.set_cons_succ]
    refine wpAnyH_take (i := 14) (oi := { dst := some 44, op := Op.fieldAddr 51 (Operand.tmp 3) 0, type := 0, pos := "ref.go:140", after := #[], guard := none }) (v := ?_) rfl (by kernel_rfl) (by kernel_rfl) (by kernel_rfl) (fun _ _ _ h => h) (Or.inl ⟨by kernel_rfl, ?_⟩) (by assumption) ?_
    rotate_left 1
    focus (intro w hSw; (try dsimp only at hSw); go_simp; (try with_reducible rfl))
    try simp only [Act.put, List.setIfInBounds_toArray, List.set_cons_zero, List.set_cons_succ]
    refine wpAnyH_take (i := 15) (oi := { dst := some 45, op := Op.load 3 (Operand.tmp 44), type := 3, pos := "ref.go:140", after := #[{ on := 14, ground := Ground.data }], guard := none }) (v := ?_) rfl (by kernel_rfl) (by kernel_rfl) (by kernel_rfl) (fun _ _ _ h => h) (Or.inl ⟨by kernel_rfl, ?_⟩) (by assumption) ?_
    rotate_left 1
    focus (intro w hSw; (try dsimp only at hSw); go_simp; (try with_reducible rfl))
    try simp only [Act.put, List.setIfInBounds_toArray, List.set_cons_zero, List.set_cons_succ]
    refine wpAnyH_take (i := 16) (oi := { dst := some 46, op := Op.fieldAddr 51 (Operand.tmp 3) 3, type := 0, pos := "ref.go:140", after := #[], guard := none }) (v := ?_) rfl (by kernel_rfl) (by kernel_rfl) (by kernel_rfl) (fun _ _ _ h => h) (Or.inl ⟨by kernel_rfl, ?_⟩) (by assumption) ?_
    rotate_left 1
    focus (intro w hSw; (try dsimp only at hSw); go_simp; (try with_reducible rfl))
    try simp only [Act.put, List.setIfInBounds_toArray, List.set_cons_zero, List.set_cons_succ]
    refine wpAnyH_take (i := 17) (oi := { dst := some 47, op := Op.load 3 (Operand.tmp 46), type := 3, pos := "ref.go:140", after := #[{ on := 16, ground := Ground.data }], guard := none }) (v := ?_) rfl (by kernel_rfl) (by kernel_rfl) (by kernel_rfl) (fun _ _ _ h => h) (Or.inl ⟨by kernel_rfl, ?_⟩) (by assumption) ?_
    rotate_left 1
    focus (intro w hSw; (try dsimp only at hSw); go_simp; (try with_reducible rfl))
    try simp only [Act.put, List.setIfInBounds_toArray, List.set_cons_zero, List.set_cons_succ]
    refine wpAnyH_take (i := 18) (oi := { dst := some 48, op := Op.binOp BinOp.sub 3 (Operand.tmp 47) (Operand.const (Value.int IntKind.i64 1)) 3, type := 3, pos := "ref.go:140", after := #[{ on := 17, ground := Ground.data }], guard := none }) (v := ?_) rfl (by kernel_rfl) (by kernel_rfl) (by kernel_rfl) (fun _ _ _ h => h) (Or.inl ⟨by kernel_rfl, ?_⟩) (by assumption) ?_
    rotate_left 1
    focus (intro w hSw; (try dsimp only at hSw); go_simp; (try with_reducible rfl))
    try simp only [Act.put, List.setIfInBounds_toArray, List.set_cons_zero, List.set_cons_succ]
    refine wpAnyH_take (i := 20) (oi := { dst := some 50, op := Op.load 23 (Operand.tmp 2), type := 23, pos := "ref.go:140", after := #[], guard := none }) (v := ?_) rfl (by kernel_rfl) (by kernel_rfl) (by kernel_rfl) (fun _ _ _ h => h) (Or.inl ⟨by kernel_rfl, ?_⟩) (by assumption) ?_
    rotate_left 1
    focus (intro w hSw; (try dsimp only at hSw); go_simp; (try with_reducible rfl))
    try simp only [Act.put, List.setIfInBounds_toArray, List.set_cons_zero, List.set_cons_succ]
    refine wpAnyH_take (i := 21) (oi := { dst := some 51, op := Op.fieldAddr 51 (Operand.tmp 3) 2, type := 0, pos := "ref.go:140", after := #[], guard := none }) (v := ?_) rfl (by kernel_rfl) (by kernel_rfl) (by kernel_rfl) (fun _ _ _ h => h) (Or.inl ⟨by kernel_rfl, ?_⟩) (by assumption) ?_
    rotate_left 1
    focus (intro w hSw; (try dsimp only at hSw); go_simp; (try with_reducible rfl))
    try simp only [Act.put, List.setIfInBounds_toArray, List.set_cons_zero, List.set_cons_succ]
    refine wpAnyH_take (i := 22) (oi := { dst := some 52, op := Op.load 3 (Operand.tmp 51), type := 3, pos := "ref.go:140", after := #[{ on := 21, ground := Ground.data }], guard := none }) (v := ?_) rfl (by kernel_rfl) (by kernel_rfl) (by kernel_rfl) (fun _ _ _ h => h) (Or.inl ⟨by kernel_rfl, ?_⟩) (by assumption) ?_
    rotate_left 1
    focus (intro w hSw; (try dsimp only at hSw); go_simp; (try with_reducible rfl))
    try simp only [Act.put, List.setIfInBounds_toArray, List.set_cons_zero, List.set_cons_succ]
    refine wpAnyH_take (i := 23) (oi := { dst := some 53, op := Op.binOp BinOp.sub 3 (Operand.tmp 52) (Operand.const (Value.int IntKind.i64 1)) 3, type := 3, pos := "ref.go:140", after := #[{ on := 22, ground := Ground.data }], guard := none }) (v := ?_) rfl (by kernel_rfl) (by kernel_rfl) (by kernel_rfl) (fun _ _ _ h => h) (Or.inl ⟨by kernel_rfl, ?_⟩) (by assumption) ?_
    rotate_left 1
    focus (intro w hSw; (try dsimp only at hSw); go_simp; (try with_reducible rfl))
    try simp only [Act.put, List.setIfInBounds_toArray, List.set_cons_zero, List.set_cons_succ]
    refine wpAnyH_take (i := 24) (oi := { dst := some 54, op := Op.fieldAddr 51 (Operand.tmp 3) 3, type := 0, pos := "ref.go:140", after := #[], guard := none }) (v := ?_) rfl (by kernel_rfl) (by kernel_rfl) (by kernel_rfl) (fun _ _ _ h => h) (Or.inl ⟨by kernel_rfl, ?_⟩) (by assumption) ?_
    rotate_left 1
    focus (intro w hSw; (try dsimp only at hSw); go_simp; (try with_reducible rfl))
    try simp only [Act.put, List.setIfInBounds_toArray, List.set_cons_zero, List.set_cons_succ]
    refine wpAnyH_take (i := 25) (oi := { dst := some 55, op := Op.load 3 (Operand.tmp 54), type := 3, pos := "ref.go:140", after := #[{ on := 24, ground := Ground.data }], guard := none }) (v := ?_) rfl (by kernel_rfl) (by kernel_rfl) (by kernel_rfl) (fun _ _ _ h => h) (Or.inl ⟨by kernel_rfl, ?_⟩) (by assumption) ?_
    rotate_left 1
    focus (intro w hSw; (try dsimp only at hSw); go_simp; (try with_reducible rfl))
    try simp only [Act.put, List.setIfInBounds_toArray, List.set_cons_zero, List.set_cons_succ]
    refine wpAnyH_take (i := 26) (oi := { dst := some 56, op := Op.binOp BinOp.sub 3 (Operand.tmp 55) (Operand.const (Value.int IntKind.i64 1)) 3, type := 3, pos := "ref.go:140", after := #[{ on := 25, ground := Ground.data }], guard := none }) (v := ?_) rfl (by kernel_rfl) (by kernel_rfl) (by kernel_rfl) (fun _ _ _ h => h) (Or.inl ⟨by kernel_rfl, ?_⟩) (by assumption) ?_
    rotate_left 1
    focus (intro w hSw; (try dsimp only at hSw); go_simp; (try with_reducible rfl))
    try simp only [Act.put, List.setIfInBounds_toArray, List.set_cons_zero, List.set_cons_succ]
    refine wpAnyH_ready (rs := [5, 29]) (by kernel_rfl) (by simp) (AllReadyH.cons (o := { dst := some 35, op := Op.call { callee := Callee.value (Operand.func 62), args := #[Operand.tmp 30, Operand.tmp 32, Operand.tmp 34], argTypes := #[23, 3, 3] }, type := 49, pos := "ref.go:140", after := #[{ on := 0, ground := Ground.data }, { on := 2, ground := Ground.data }, { on := 4, ground := Ground.data }], guard := none }) rfl (fun K hK => ?_) (AllReadyH.cons (o := { dst := some 8, op := Op.alloc 88, type := 0, pos := "ref.go:140", after := #[], guard := none }) rfl (fun K hK => ?_) AllReadyH.nil))
    · (go_simp; (go_at_call 62; (refine (St.call h40 (HS0.out _)).mono ?_); rintro e V1r8 ⟨rfl, h41r8⟩))
      refine hK.out _ _ ?_ (fun hHeld => ?_)
      · exact HP.out _ (h41r8)
      clear hK K
      try simp only [Act.put, List.setIfInBounds_toArray, List.set_cons_zero, List.set_cons_succ]
      refine wpAnyH_ready (rs := [12, 29]) (by kernel_rfl) (by simp) (AllReadyH.cons (o := { dst := some 42, op := Op.call { callee := Callee.value (Operand.func 62), args := #[Operand.tmp 36, Operand.tmp 39, Operand.tmp 41], argTypes := #[23, 3, 3] }, type := 49, pos := "ref.go:140", after := #[{ on := 6, ground := Ground.data }, { on := 9, ground := Ground.data }, { on := 11, ground := Ground.data }, { on := 5, ground := Ground.chain }], guard := none }) rfl (fun K hK => ?_) (AllReadyH.cons (o := { dst := some 8, op := Op.alloc 88, type := 0, pos := "ref.go:140", after := #[], guard := none }) rfl (fun K hK => ?_) AllReadyH.nil))
      · (go_simp; (go_at_call 62; (refine (St.call h41r8 (HS1.out _)).mono ?_); rintro e V2r8 ⟨rfl, h42r8⟩))
        refine hK.out _ _ ?_ (fun hHeld => ?_)
        · exact HP.out _ (h42r8)
        clear hK K
        try simp only [Act.put, List.setIfInBounds_toArray, List.set_cons_zero, List.set_cons_succ]
        refine wpAnyH_ready (rs := [19, 29]) (by kernel_rfl) (by simp) (AllReadyH.cons (o := { dst := some 49, op := Op.call { callee := Callee.value (Operand.func 62), args := #[Operand.tmp 43, Operand.tmp 45, Operand.tmp 48], argTypes := #[23, 3, 3] }, type := 49, pos := "ref.go:140", after := #[{ on := 13, ground := Ground.data }, { on := 15, ground := Ground.data }, { on := 18, ground := Ground.data }, { on := 12, ground := Ground.chain }], guard := none }) rfl (fun K hK => ?_) (AllReadyH.cons (o := { dst := some 8, op := Op.alloc 88, type := 0, pos := "ref.go:140", after := #[], guard := none }) rfl (fun K hK => ?_) AllReadyH.nil))
        · (go_simp; (go_at_call 62; (refine (St.call h42r8 (HS2.out _)).mono ?_); rintro e V3r8 ⟨rfl, h43r8⟩))
          refine hK.out _ _ ?_ (fun hHeld => ?_)
          · exact HP.out _ (h43r8)
          clear hK K
          try simp only [Act.put, List.setIfInBounds_toArray, List.set_cons_zero, List.set_cons_succ]
          refine wpAnyH_ready (rs := [27, 29]) (by kernel_rfl) (by simp) (AllReadyH.cons (o := { dst := some 57, op := Op.call { callee := Callee.value (Operand.func 62), args := #[Operand.tmp 50, Operand.tmp 53, Operand.tmp 56], argTypes := #[23, 3, 3] }, type := 49, pos := "ref.go:140", after := #[{ on := 20, ground := Ground.data }, { on := 23, ground := Ground.data }, { on := 26, ground := Ground.data }, { on := 19, ground := Ground.chain }], guard := none }) rfl (fun K hK => ?_) (AllReadyH.cons (o := { dst := some 8, op := Op.alloc 88, type := 0, pos := "ref.go:140", after := #[], guard := none }) rfl (fun K hK => ?_) AllReadyH.nil))
          · (go_simp; (go_at_call 62; (refine (St.call h43r8 (HS3.out _)).mono ?_); rintro e V4r8 ⟨rfl, h44r8⟩))
            refine hK.out _ _ ?_ (fun hHeld => ?_)
            · exact HP.out _ (h44r8)
            clear hK K
            try simp only [Act.put, List.setIfInBounds_toArray, List.set_cons_zero, List.set_cons_succ]
            refine wpAnyH_take (i := 28) (oi := { dst := some 58, op := Op.build 88 #[(0, Operand.tmp 35), (1, Operand.tmp 42), (2, Operand.tmp 49), (3, Operand.tmp 57)], type := 88, pos := "ref.go:140", after := #[{ on := 5, ground := Ground.data }, { on := 12, ground := Ground.data }, { on := 19, ground := Ground.data }, { on := 27, ground := Ground.data }], guard := none }) (v := ?_) rfl (by kernel_rfl) (by kernel_rfl) (by kernel_rfl) (fun _ _ _ h => h) (Or.inl ⟨by kernel_rfl, ?_⟩) (by assumption) ?_
            rotate_left 1
            focus (intro w hSw; (try dsimp only at hSw); go_simp; (try with_reducible rfl))
            try simp only [Act.put, List.setIfInBounds_toArray, List.set_cons_zero, List.set_cons_succ]
            refine wpAnyH_ready (rs := [29]) (by kernel_rfl) (by simp) (AllReadyH.cons (o := { dst := some 8, op := Op.alloc 88, type := 0, pos := "ref.go:140", after := #[], guard := none }) rfl (fun K hK => ?_) AllReadyH.nil)
            have hne29r8 := h44r8.ne
            have hle29r8 := h44r8.below.size
            have hlt29r8 := fun (b : Nat) (o : Obj) (hm : (b, o) ∈ _) => h44r8.lt hm
            have h45r8 := h44r8.alloc (.cells #[.int .i64 0, .int .i64 0, .int .i64 0, .int .i64 0, .int .i64 0, .int .i64 0, .int .i64 0, .int .i64 0] 88)
            refine wp_alloc_of 88 rfl _ (zero_p4 _) ?_
            refine hK.out _ _ ?_ (fun hHeld => ?_)
            · exact HP.out _ (h45r8.tl)
            clear hK K
            try simp only [Act.put, List.setIfInBounds_toArray, List.set_cons_zero, List.set_cons_succ]
            refine wpAnyH_ready (rs := [30]) (by kernel_rfl) (by simp) (AllReadyH.cons (o := { dst := none, op := Op.store 88 (Operand.tmp 8) (Operand.tmp 58), type := 0, pos := "ref.go:140", after := #[{ on := 29, ground := Ground.data }, { on := 28, ground := Ground.data }, { on := 27, ground := Ground.chain }, { on := 0, ground := Ground.phase }, { on := 1, ground := Ground.phase }, { on := 2, ground := Ground.phase }, { on := 3, ground := Ground.phase }, { on := 4, ground := Ground.phase }, { on := 5, ground := Ground.phase }, { on := 6, ground := Ground.phase }, { on := 7, ground := Ground.phase }, { on := 8, ground := Ground.phase }, { on := 9, ground := Ground.phase }, { on := 10, ground := Ground.phase }, { on := 11, ground := Ground.phase }, { on := 12, ground := Ground.phase }, { on := 13, ground := Ground.phase }, { on := 14, ground := Ground.phase }, { on := 15, ground := Ground.phase }, { on := 16, ground := Ground.phase }, { on := 17, ground := Ground.phase }, { on := 18, ground := Ground.phase }, { on := 19, ground := Ground.phase }, { on := 20, ground := Ground.phase }, { on := 21, ground := Ground.phase }, { on := 22, ground := Ground.phase }, { on := 23, ground := Ground.phase }, { on := 24, ground := Ground.phase }, { on := 25, ground := Ground.phase }, { on := 26, ground := Ground.phase }, { on := 27, ground := Ground.phase }, { on := 28, ground := Ground.phase }, { on := 29, ground := Ground.phase }], guard := none }) rfl (fun K hK => ?_) AllReadyH.nil)
            have h46r8 := h45r8.rowset (ds := #[.int .i64 X0, .int .i64 Y0, .int .i64 X1, .int .i64 Y1, .int .i64 X2, .int .i64 Y2, .int .i64 X3, .int .i64 Y3]) hle29r8 hne29r8
            refine wp_store_of 88 _ _ rfl (store_row 88 (cs := #[.int .i64 0, .int .i64 0, .int .i64 0, .int .i64 0, .int .i64 0, .int .i64 0, .int .i64 0, .int .i64 0]) (ds := #[.int .i64 X0, .int .i64 Y0, .int .i64 X1, .int .i64 Y1, .int .i64 X2, .int .i64 Y2, .int .i64 X3, .int .i64 Y3]) (by kernel_rfl) rfl (by simp [Value.oneCell']) h45r8.hd) ?_
            refine hK.out _ _ ?_ (fun hHeld => ?_)
            · exact HP.out _ (h46r8.tl)
            clear hK K
            try simp only [Act.put]
            refine wpAnyH_done (by kernel_rfl) ?_ _
            have h9 := h46r8
            go_wp2_with fail
            go_meet
            case rel => exact ⟨_, rfl, hne29r8 (b0 + 1 + 1, b5o 0 0 0 0 0) (by simp), h9.sub (by intro x hx; simp at hx ⊢; rcases hx with rfl | rfl <;> simp)⟩
          · have hne29r8 := h43r8.ne
            have hle29r8 := h43r8.below.size
            have hlt29r8 := fun (b : Nat) (o : Obj) (hm : (b, o) ∈ _) => h43r8.lt hm
            have h47r8 := h43r8.alloc (.cells #[.int .i64 0, .int .i64 0, .int .i64 0, .int .i64 0, .int .i64 0, .int .i64 0, .int .i64 0, .int .i64 0] 88)
            refine wp_alloc_of 88 rfl _ (zero_p4 _) ?_
            refine hK.out _ _ ?_ (fun hHeld => ?_)
            · exact HP.out _ (h47r8.tl)
            clear hK K
            try simp only [Act.put, List.setIfInBounds_toArray, List.set_cons_zero, List.set_cons_succ]
            refine wpAnyH_ready (rs := [27]) (by kernel_rfl) (by simp) (AllReadyH.cons (o := { dst := some 57, op := Op.call { callee := Callee.value (Operand.func 62), args := #[Operand.tmp 50, Operand.tmp 53, Operand.tmp 56], argTypes := #[23, 3, 3] }, type := 49, pos := "ref.go:140", after := #[{ on := 20, ground := Ground.data }, { on := 23, ground := Ground.data }, { on := 26, ground := Ground.data }, { on := 19, ground := Ground.chain }], guard := none }) rfl (fun K hK => ?_) AllReadyH.nil)
            (go_simp; (go_at_call 62; (refine (St.call h47r8 (HS3.out _)).mono ?_); rintro e V8r8 ⟨rfl, h48r8⟩))
            refine hK.out _ _ ?_ (fun hHeld => ?_)
            · exact HP.out _ (h48r8.tl)
            clear hK K
            try simp only [Act.put, List.setIfInBounds_toArray, List.set_cons_zero, List.set_cons_succ]
            refine wpAnyH_take (i := 28) (oi := { dst := some 58, op := Op.build 88 #[(0, Operand.tmp 35), (1, Operand.tmp 42), (2, Operand.tmp 49), (3, Operand.tmp 57)], type := 88, pos := "ref.go:140", after := #[{ on := 5, ground := Ground.data }, { on := 12, ground := Ground.data }, { on := 19, ground := Ground.data }, { on := 27, ground := Ground.data }], guard := none }) (v := ?_) rfl (by kernel_rfl) (by kernel_rfl) (by kernel_rfl) (fun _ _ _ h => h) (Or.inl ⟨by kernel_rfl, ?_⟩) (by assumption) ?_
            rotate_left 1
            focus (intro w hSw; (try dsimp only at hSw); go_simp; (try with_reducible rfl))
            try simp only [Act.put, List.setIfInBounds_toArray, List.set_cons_zero, List.set_cons_succ]
            refine wpAnyH_ready (rs := [30]) (by kernel_rfl) (by simp) (AllReadyH.cons (o := { dst := none, op := Op.store 88 (Operand.tmp 8) (Operand.tmp 58), type := 0, pos := "ref.go:140", after := #[{ on := 29, ground := Ground.data }, { on := 28, ground := Ground.data }, { on := 27, ground := Ground.chain }, { on := 0, ground := Ground.phase }, { on := 1, ground := Ground.phase }, { on := 2, ground := Ground.phase }, { on := 3, ground := Ground.phase }, { on := 4, ground := Ground.phase }, { on := 5, ground := Ground.phase }, { on := 6, ground := Ground.phase }, { on := 7, ground := Ground.phase }, { on := 8, ground := Ground.phase }, { on := 9, ground := Ground.phase }, { on := 10, ground := Ground.phase }, { on := 11, ground := Ground.phase }, { on := 12, ground := Ground.phase }, { on := 13, ground := Ground.phase }, { on := 14, ground := Ground.phase }, { on := 15, ground := Ground.phase }, { on := 16, ground := Ground.phase }, { on := 17, ground := Ground.phase }, { on := 18, ground := Ground.phase }, { on := 19, ground := Ground.phase }, { on := 20, ground := Ground.phase }, { on := 21, ground := Ground.phase }, { on := 22, ground := Ground.phase }, { on := 23, ground := Ground.phase }, { on := 24, ground := Ground.phase }, { on := 25, ground := Ground.phase }, { on := 26, ground := Ground.phase }, { on := 27, ground := Ground.phase }, { on := 28, ground := Ground.phase }, { on := 29, ground := Ground.phase }], guard := none }) rfl (fun K hK => ?_) AllReadyH.nil)
            have h49r8 := h48r8.rowset (ds := #[.int .i64 X0, .int .i64 Y0, .int .i64 X1, .int .i64 Y1, .int .i64 X2, .int .i64 Y2, .int .i64 X3, .int .i64 Y3]) hle29r8 hne29r8
            refine wp_store_of 88 _ _ rfl (store_row 88 (cs := #[.int .i64 0, .int .i64 0, .int .i64 0, .int .i64 0, .int .i64 0, .int .i64 0, .int .i64 0, .int .i64 0]) (ds := #[.int .i64 X0, .int .i64 Y0, .int .i64 X1, .int .i64 Y1, .int .i64 X2, .int .i64 Y2, .int .i64 X3, .int .i64 Y3]) (by kernel_rfl) rfl (by simp [Value.oneCell']) h48r8.hd) ?_
            refine hK.out _ _ ?_ (fun hHeld => ?_)
            · exact HP.out _ (h49r8.tl)
            clear hK K
            try simp only [Act.put]
            refine wpAnyH_done (by kernel_rfl) ?_ _
            have h9 := h49r8
            go_wp2_with fail
            go_meet
            case rel => exact ⟨_, rfl, hne29r8 (b0 + 1 + 1, b5o 0 0 0 0 0) (by simp), h9.sub (by intro x hx; simp at hx ⊢; rcases hx with rfl | rfl <;> simp)⟩
        · have hne29r8 := h42r8.ne
          have hle29r8 := h42r8.below.size
          have hlt29r8 := fun (b : Nat) (o : Obj) (hm : (b, o) ∈ _) => h42r8.lt hm
          have h410r8 := h42r8.alloc (.cells #[.int .i64 0, .int .i64 0, .int .i64 0, .int .i64 0, .int .i64 0, .int .i64 0, .int .i64 0, .int .i64 0] 88)
          refine wp_alloc_of 88 rfl _ (zero_p4 _) ?_
          refine hK.out _ _ ?_ (fun hHeld => ?_)
          · exact HP.out _ (h410r8.tl)
          clear hK K
          try simp only [Act.put, List.setIfInBounds_toArray, List.set_cons_zero, List.set_cons_succ]
          refine wpAnyH_ready (rs := [19]) (by kernel_rfl) (by simp) (AllReadyH.cons (o := { dst := some 49, op := Op.call { callee := Callee.value (Operand.func 62), args := #[Operand.tmp 43, Operand.tmp 45, Operand.tmp 48], argTypes := #[23, 3, 3] }, type := 49, pos := "ref.go:140", after := #[{ on := 13, ground := Ground.data }, { on := 15, ground := Ground.data }, { on := 18, ground := Ground.data }, { on := 12, ground := Ground.chain }], guard := none }) rfl (fun K hK => ?_) AllReadyH.nil)
          (go_simp; (go_at_call 62; (refine (St.call h410r8 (HS2.out _)).mono ?_); rintro e V11r8 ⟨rfl, h411r8⟩))
          refine hK.out _ _ ?_ (fun hHeld => ?_)
          · exact HP.out _ (h411r8.tl)
          clear hK K
          try simp only [Act.put, List.setIfInBounds_toArray, List.set_cons_zero, List.set_cons_succ]
          refine wpAnyH_ready (rs := [27]) (by kernel_rfl) (by simp) (AllReadyH.cons (o := { dst := some 57, op := Op.call { callee := Callee.value (Operand.func 62), args := #[Operand.tmp 50, Operand.tmp 53, Operand.tmp 56], argTypes := #[23, 3, 3] }, type := 49, pos := "ref.go:140", after := #[{ on := 20, ground := Ground.data }, { on := 23, ground := Ground.data }, { on := 26, ground := Ground.data }, { on := 19, ground := Ground.chain }], guard := none }) rfl (fun K hK => ?_) AllReadyH.nil)
          (go_simp; (go_at_call 62; (refine (St.call h411r8 (HS3.out _)).mono ?_); rintro e V12r8 ⟨rfl, h412r8⟩))
          refine hK.out _ _ ?_ (fun hHeld => ?_)
          · exact HP.out _ (h412r8.tl)
          clear hK K
          try simp only [Act.put, List.setIfInBounds_toArray, List.set_cons_zero, List.set_cons_succ]
          refine wpAnyH_take (i := 28) (oi := { dst := some 58, op := Op.build 88 #[(0, Operand.tmp 35), (1, Operand.tmp 42), (2, Operand.tmp 49), (3, Operand.tmp 57)], type := 88, pos := "ref.go:140", after := #[{ on := 5, ground := Ground.data }, { on := 12, ground := Ground.data }, { on := 19, ground := Ground.data }, { on := 27, ground := Ground.data }], guard := none }) (v := ?_) rfl (by kernel_rfl) (by kernel_rfl) (by kernel_rfl) (fun _ _ _ h => h) (Or.inl ⟨by kernel_rfl, ?_⟩) (by assumption) ?_
          rotate_left 1
          focus (intro w hSw; (try dsimp only at hSw); go_simp; (try with_reducible rfl))
          try simp only [Act.put, List.setIfInBounds_toArray, List.set_cons_zero, List.set_cons_succ]
          refine wpAnyH_ready (rs := [30]) (by kernel_rfl) (by simp) (AllReadyH.cons (o := { dst := none, op := Op.store 88 (Operand.tmp 8) (Operand.tmp 58), type := 0, pos := "ref.go:140", after := #[{ on := 29, ground := Ground.data }, { on := 28, ground := Ground.data }, { on := 27, ground := Ground.chain }, { on := 0, ground := Ground.phase }, { on := 1, ground := Ground.phase }, { on := 2, ground := Ground.phase }, { on := 3, ground := Ground.phase }, { on := 4, ground := Ground.phase }, { on := 5, ground := Ground.phase }, { on := 6, ground := Ground.phase }, { on := 7, ground := Ground.phase }, { on := 8, ground := Ground.phase }, { on := 9, ground := Ground.phase }, { on := 10, ground := Ground.phase }, { on := 11, ground := Ground.phase }, { on := 12, ground := Ground.phase }, { on := 13, ground := Ground.phase }, { on := 14, ground := Ground.phase }, { on := 15, ground := Ground.phase }, { on := 16, ground := Ground.phase }, { on := 17, ground := Ground.phase }, { on := 18, ground := Ground.phase }, { on := 19, ground := Ground.phase }, { on := 20, ground := Ground.phase }, { on := 21, ground := Ground.phase }, { on := 22, ground := Ground.phase }, { on := 23, ground := Ground.phase }, { on := 24, ground := Ground.phase }, { on := 25, ground := Ground.phase }, { on := 26, ground := Ground.phase }, { on := 27, ground := Ground.phase }, { on := 28, ground := Ground.phase }, { on := 29, ground := Ground.phase }], guard := none }) rfl (fun K hK => ?_) AllReadyH.nil)
          have h413r8 := h412r8.rowset (ds := #[.int .i64 X0, .int .i64 Y0, .int .i64 X1, .int .i64 Y1, .int .i64 X2, .int .i64 Y2, .int .i64 X3, .int .i64 Y3]) hle29r8 hne29r8
          refine wp_store_of 88 _ _ rfl (store_row 88 (cs := #[.int .i64 0, .int .i64 0, .int .i64 0, .int .i64 0, .int .i64 0, .int .i64 0, .int .i64 0, .int .i64 0]) (ds := #[.int .i64 X0, .int .i64 Y0, .int .i64 X1, .int .i64 Y1, .int .i64 X2, .int .i64 Y2, .int .i64 X3, .int .i64 Y3]) (by kernel_rfl) rfl (by simp [Value.oneCell']) h412r8.hd) ?_
          refine hK.out _ _ ?_ (fun hHeld => ?_)
          · exact HP.out _ (h413r8.tl)
          clear hK K
          try simp only [Act.put]
          refine wpAnyH_done (by kernel_rfl) ?_ _
          have h9 := h413r8
          go_wp2_with fail
          go_meet
          case rel => exact ⟨_, rfl, hne29r8 (b0 + 1 + 1, b5o 0 0 0 0 0) (by simp), h9.sub (by intro x hx; simp at hx ⊢; rcases hx with rfl | rfl <;> simp)⟩
      · have hne29r8 := h41r8.ne
        have hle29r8 := h41r8.below.size
        have hlt29r8 := fun (b : Nat) (o : Obj) (hm : (b, o) ∈ _) => h41r8.lt hm
        have h414r8 := h41r8.alloc (.cells #[.int .i64 0, .int .i64 0, .int .i64 0, .int .i64 0, .int .i64 0, .int .i64 0, .int .i64 0, .int .i64 0] 88)
        refine wp_alloc_of 88 rfl _ (zero_p4 _) ?_
        refine hK.out _ _ ?_ (fun hHeld => ?_)
        · exact HP.out _ (h414r8.tl)
        clear hK K
        try simp only [Act.put, List.setIfInBounds_toArray, List.set_cons_zero, List.set_cons_succ]
        refine wpAnyH_ready (rs := [12]) (by kernel_rfl) (by simp) (AllReadyH.cons (o := { dst := some 42, op := Op.call { callee := Callee.value (Operand.func 62), args := #[Operand.tmp 36, Operand.tmp 39, Operand.tmp 41], argTypes := #[23, 3, 3] }, type := 49, pos := "ref.go:140", after := #[{ on := 6, ground := Ground.data }, { on := 9, ground := Ground.data }, { on := 11, ground := Ground.data }, { on := 5, ground := Ground.chain }], guard := none }) rfl (fun K hK => ?_) AllReadyH.nil)
        (go_simp; (go_at_call 62; (refine (St.call h414r8 (HS1.out _)).mono ?_); rintro e V15r8 ⟨rfl, h415r8⟩))
        refine hK.out _ _ ?_ (fun hHeld => ?_)
        · exact HP.out _ (h415r8.tl)
        clear hK K
        try simp only [Act.put, List.setIfInBounds_toArray, List.set_cons_zero, List.set_cons_succ]
        refine wpAnyH_ready (rs := [19]) (by kernel_rfl) (by simp) (AllReadyH.cons (o := { dst := some 49, op := Op.call { callee := Callee.value (Operand.func 62), args := #[Operand.tmp 43, Operand.tmp 45, Operand.tmp 48], argTypes := #[23, 3, 3] }, type := 49, pos := "ref.go:140", after := #[{ on := 13, ground := Ground.data }, { on := 15, ground := Ground.data }, { on := 18, ground := Ground.data }, { on := 12, ground := Ground.chain }], guard := none }) rfl (fun K hK => ?_) AllReadyH.nil)
        (go_simp; (go_at_call 62; (refine (St.call h415r8 (HS2.out _)).mono ?_); rintro e V16r8 ⟨rfl, h416r8⟩))
        refine hK.out _ _ ?_ (fun hHeld => ?_)
        · exact HP.out _ (h416r8.tl)
        clear hK K
        try simp only [Act.put, List.setIfInBounds_toArray, List.set_cons_zero, List.set_cons_succ]
        refine wpAnyH_ready (rs := [27]) (by kernel_rfl) (by simp) (AllReadyH.cons (o := { dst := some 57, op := Op.call { callee := Callee.value (Operand.func 62), args := #[Operand.tmp 50, Operand.tmp 53, Operand.tmp 56], argTypes := #[23, 3, 3] }, type := 49, pos := "ref.go:140", after := #[{ on := 20, ground := Ground.data }, { on := 23, ground := Ground.data }, { on := 26, ground := Ground.data }, { on := 19, ground := Ground.chain }], guard := none }) rfl (fun K hK => ?_) AllReadyH.nil)
        (go_simp; (go_at_call 62; (refine (St.call h416r8 (HS3.out _)).mono ?_); rintro e V17r8 ⟨rfl, h417r8⟩))
        refine hK.out _ _ ?_ (fun hHeld => ?_)
        · exact HP.out _ (h417r8.tl)
        clear hK K
        try simp only [Act.put, List.setIfInBounds_toArray, List.set_cons_zero, List.set_cons_succ]
        refine wpAnyH_take (i := 28) (oi := { dst := some 58, op := Op.build 88 #[(0, Operand.tmp 35), (1, Operand.tmp 42), (2, Operand.tmp 49), (3, Operand.tmp 57)], type := 88, pos := "ref.go:140", after := #[{ on := 5, ground := Ground.data }, { on := 12, ground := Ground.data }, { on := 19, ground := Ground.data }, { on := 27, ground := Ground.data }], guard := none }) (v := ?_) rfl (by kernel_rfl) (by kernel_rfl) (by kernel_rfl) (fun _ _ _ h => h) (Or.inl ⟨by kernel_rfl, ?_⟩) (by assumption) ?_
        rotate_left 1
        focus (intro w hSw; (try dsimp only at hSw); go_simp; (try with_reducible rfl))
        try simp only [Act.put, List.setIfInBounds_toArray, List.set_cons_zero, List.set_cons_succ]
        refine wpAnyH_ready (rs := [30]) (by kernel_rfl) (by simp) (AllReadyH.cons (o := { dst := none, op := Op.store 88 (Operand.tmp 8) (Operand.tmp 58), type := 0, pos := "ref.go:140", after := #[{ on := 29, ground := Ground.data }, { on := 28, ground := Ground.data }, { on := 27, ground := Ground.chain }, { on := 0, ground := Ground.phase }, { on := 1, ground := Ground.phase }, { on := 2, ground := Ground.phase }, { on := 3, ground := Ground.phase }, { on := 4, ground := Ground.phase }, { on := 5, ground := Ground.phase }, { on := 6, ground := Ground.phase }, { on := 7, ground := Ground.phase }, { on := 8, ground := Ground.phase }, { on := 9, ground := Ground.phase }, { on := 10, ground := Ground.phase }, { on := 11, ground := Ground.phase }, { on := 12, ground := Ground.phase }, { on := 13, ground := Ground.phase }, { on := 14, ground := Ground.phase }, { on := 15, ground := Ground.phase }, { on := 16, ground := Ground.phase }, { on := 17, ground := Ground.phase }, { on := 18, ground := Ground.phase }, { on := 19, ground := Ground.phase }, { on := 20, ground := Ground.phase }, { on := 21, ground := Ground.phase }, { on := 22, ground := Ground.phase }, { on := 23, ground := Ground.phase }, { on := 24, ground := Ground.phase }, { on := 25, ground := Ground.phase }, { on := 26, ground := Ground.phase }, { on := 27, ground := Ground.phase }, { on := 28, ground := Ground.phase }, { on := 29, ground := Ground.phase }], guard := none }) rfl (fun K hK => ?_) AllReadyH.nil)
        have h418r8 := h417r8.rowset (ds := #[.int .i64 X0, .int .i64 Y0, .int .i64 X1, .int .i64 Y1, .int .i64 X2, .int .i64 Y2, .int .i64 X3, .int .i64 Y3]) hle29r8 hne29r8
        refine wp_store_of 88 _ _ rfl (store_row 88 (cs := #[.int .i64 0, .int .i64 0, .int .i64 0, .int .i64 0, .int .i64 0, .int .i64 0, .int .i64 0, .int .i64 0]) (ds := #[.int .i64 X0, .int .i64 Y0, .int .i64 X1, .int .i64 Y1, .int .i64 X2, .int .i64 Y2, .int .i64 X3, .int .i64 Y3]) (by kernel_rfl) rfl (by simp [Value.oneCell']) h417r8.hd) ?_
        refine hK.out _ _ ?_ (fun hHeld => ?_)
        · exact HP.out _ (h418r8.tl)
        clear hK K
        try simp only [Act.put]
        refine wpAnyH_done (by kernel_rfl) ?_ _
        have h9 := h418r8
        go_wp2_with fail
        go_meet
        case rel => exact ⟨_, rfl, hne29r8 (b0 + 1 + 1, b5o 0 0 0 0 0) (by simp), h9.sub (by intro x hx; simp at hx ⊢; rcases hx with rfl | rfl <;> simp)⟩
    · have hne29r8 := h40.ne
      have hle29r8 := h40.below.size
      have hlt29r8 := fun (b : Nat) (o : Obj) (hm : (b, o) ∈ _) => h40.lt hm
      have h419r8 := h40.alloc (.cells #[.int .i64 0, .int .i64 0, .int .i64 0, .int .i64 0, .int .i64 0, .int .i64 0, .int .i64 0, .int .i64 0] 88)
      refine wp_alloc_of 88 rfl _ (zero_p4 _) ?_
      refine hK.out _ _ ?_ (fun hHeld => ?_)
      · exact HP.out _ (h419r8.tl)
      clear hK K
      try simp only [Act.put, List.setIfInBounds_toArray, List.set_cons_zero, List.set_cons_succ]
      refine wpAnyH_ready (rs := [5]) (by kernel_rfl) (by simp) (AllReadyH.cons (o := { dst := some 35, op := Op.call { callee := Callee.value (Operand.func 62), args := #[Operand.tmp 30, Operand.tmp 32, Operand.tmp 34], argTypes := #[23, 3, 3] }, type := 49, pos := "ref.go:140", after := #[{ on := 0, ground := Ground.data }, { on := 2, ground := Ground.data }, { on := 4, ground := Ground.data }], guard := none }) rfl (fun K hK => ?_) AllReadyH.nil)
      (go_simp; (go_at_call 62; (refine (St.call h419r8 (HS0.out _)).mono ?_); rintro e V20r8 ⟨rfl, h420r8⟩))
      refine hK.out _ _ ?_ (fun hHeld => ?_)
      · exact HP.out _ (h420r8.tl)
      clear hK K
      try simp only [Act.put, List.setIfInBounds_toArray, List.set_cons_zero, List.set_cons_succ]
      refine wpAnyH_ready (rs := [12]) (by kernel_rfl) (by simp) (AllReadyH.cons (o := { dst := some 42, op := Op.call { callee := Callee.value (Operand.func 62), args := #[Operand.tmp 36, Operand.tmp 39, Operand.tmp 41], argTypes := #[23, 3, 3] }, type := 49, pos := "ref.go:140", after := #[{ on := 6, ground := Ground.data }, { on := 9, ground := Ground.data }, { on := 11, ground := Ground.data }, { on := 5, ground := Ground.chain }], guard := none }) rfl (fun K hK => ?_) AllReadyH.nil)
      (go_simp; (go_at_call 62; (refine (St.call h420r8 (HS1.out _)).mono ?_); rintro e V21r8 ⟨rfl, h421r8⟩))
      refine hK.out _ _ ?_ (fun hHeld => ?_)
      · exact HP.out _ (h421r8.tl)
      clear hK K
      try simp only [Act.put, List.setIfInBounds_toArray, List.set_cons_zero, List.set_cons_succ]
      refine wpAnyH_ready (rs := [19]) (by kernel_rfl) (by simp) (AllReadyH.cons (o := { dst := some 49, op := Op.call { callee := Callee.value (Operand.func 62), args := #[Operand.tmp 43, Operand.tmp 45, Operand.tmp 48], argTypes := #[23, 3, 3] }, type := 49, pos := "ref.go:140", after := #[{ on := 13, ground := Ground.data }, { on := 15, ground := Ground.data }, { on := 18, ground := Ground.data }, { on := 12, ground := Ground.chain }], guard := none }) rfl (fun K hK => ?_) AllReadyH.nil)
      (go_simp; (go_at_call 62; (refine (St.call h421r8 (HS2.out _)).mono ?_); rintro e V22r8 ⟨rfl, h422r8⟩))
      refine hK.out _ _ ?_ (fun hHeld => ?_)
      · exact HP.out _ (h422r8.tl)
      clear hK K
      try simp only [Act.put, List.setIfInBounds_toArray, List.set_cons_zero, List.set_cons_succ]
      refine wpAnyH_ready (rs := [27]) (by kernel_rfl) (by simp) (AllReadyH.cons (o := { dst := some 57, op := Op.call { callee := Callee.value (Operand.func 62), args := #[Operand.tmp 50, Operand.tmp 53, Operand.tmp 56], argTypes := #[23, 3, 3] }, type := 49, pos := "ref.go:140", after := #[{ on := 20, ground := Ground.data }, { on := 23, ground := Ground.data }, { on := 26, ground := Ground.data }, { on := 19, ground := Ground.chain }], guard := none }) rfl (fun K hK => ?_) AllReadyH.nil)
      (go_simp; (go_at_call 62; (refine (St.call h422r8 (HS3.out _)).mono ?_); rintro e V23r8 ⟨rfl, h423r8⟩))
      refine hK.out _ _ ?_ (fun hHeld => ?_)
      · exact HP.out _ (h423r8.tl)
      clear hK K
      try simp only [Act.put, List.setIfInBounds_toArray, List.set_cons_zero, List.set_cons_succ]
      refine wpAnyH_take (i := 28) (oi := { dst := some 58, op := Op.build 88 #[(0, Operand.tmp 35), (1, Operand.tmp 42), (2, Operand.tmp 49), (3, Operand.tmp 57)], type := 88, pos := "ref.go:140", after := #[{ on := 5, ground := Ground.data }, { on := 12, ground := Ground.data }, { on := 19, ground := Ground.data }, { on := 27, ground := Ground.data }], guard := none }) (v := ?_) rfl (by kernel_rfl) (by kernel_rfl) (by kernel_rfl) (fun _ _ _ h => h) (Or.inl ⟨by kernel_rfl, ?_⟩) (by assumption) ?_
      rotate_left 1
      focus (intro w hSw; (try dsimp only at hSw); go_simp; (try with_reducible rfl))
      try simp only [Act.put, List.setIfInBounds_toArray, List.set_cons_zero, List.set_cons_succ]
      refine wpAnyH_ready (rs := [30]) (by kernel_rfl) (by simp) (AllReadyH.cons (o := { dst := none, op := Op.store 88 (Operand.tmp 8) (Operand.tmp 58), type := 0, pos := "ref.go:140", after := #[{ on := 29, ground := Ground.data }, { on := 28, ground := Ground.data }, { on := 27, ground := Ground.chain }, { on := 0, ground := Ground.phase }, { on := 1, ground := Ground.phase }, { on := 2, ground := Ground.phase }, { on := 3, ground := Ground.phase }, { on := 4, ground := Ground.phase }, { on := 5, ground := Ground.phase }, { on := 6, ground := Ground.phase }, { on := 7, ground := Ground.phase }, { on := 8, ground := Ground.phase }, { on := 9, ground := Ground.phase }, { on := 10, ground := Ground.phase }, { on := 11, ground := Ground.phase }, { on := 12, ground := Ground.phase }, { on := 13, ground := Ground.phase }, { on := 14, ground := Ground.phase }, { on := 15, ground := Ground.phase }, { on := 16, ground := Ground.phase }, { on := 17, ground := Ground.phase }, { on := 18, ground := Ground.phase }, { on := 19, ground := Ground.phase }, { on := 20, ground := Ground.phase }, { on := 21, ground := Ground.phase }, { on := 22, ground := Ground.phase }, { on := 23, ground := Ground.phase }, { on := 24, ground := Ground.phase }, { on := 25, ground := Ground.phase }, { on := 26, ground := Ground.phase }, { on := 27, ground := Ground.phase }, { on := 28, ground := Ground.phase }, { on := 29, ground := Ground.phase }], guard := none }) rfl (fun K hK => ?_) AllReadyH.nil)
      have h424r8 := h423r8.rowset (ds := #[.int .i64 X0, .int .i64 Y0, .int .i64 X1, .int .i64 Y1, .int .i64 X2, .int .i64 Y2, .int .i64 X3, .int .i64 Y3]) hle29r8 hne29r8
      refine wp_store_of 88 _ _ rfl (store_row 88 (cs := #[.int .i64 0, .int .i64 0, .int .i64 0, .int .i64 0, .int .i64 0, .int .i64 0, .int .i64 0, .int .i64 0]) (ds := #[.int .i64 X0, .int .i64 Y0, .int .i64 X1, .int .i64 Y1, .int .i64 X2, .int .i64 Y2, .int .i64 X3, .int .i64 Y3]) (by kernel_rfl) rfl (by simp [Value.oneCell']) h423r8.hd) ?_
      refine hK.out _ _ ?_ (fun hHeld => ?_)
      · exact HP.out _ (h424r8.tl)
      clear hK K
      try simp only [Act.put]
      refine wpAnyH_done (by kernel_rfl) ?_ _
      have h9 := h424r8
      go_wp2_with fail
      go_meet
      case rel => exact ⟨_, rfl, hne29r8 (b0 + 1 + 1, b5o 0 0 0 0 0) (by simp), h9.sub (by intro x hx; simp at hx ⊢; rcases hx with rfl | rfl <;> simp)⟩
  case rest =>
    obtain ⟨b8, rfl, hn8, HQ⟩ := hcut
    clear h4 h3 h2 hs HP HS0 HS1 HS2 HS3 HV HE HW
    have h5 := HQ.out
    clear HQ
    have zh50 := St.cell h5 (b := b8) (cs := #[.int .i64 X0, .int .i64 Y0, .int .i64 X1, .int .i64 Y1, .int .i64 X2, .int .i64 Y2, .int .i64 X3, .int .i64 Y3]) (t := 88) (by simp) 0
    have zh51 := St.cell h5 (b := b8) (cs := #[.int .i64 X0, .int .i64 Y0, .int .i64 X1, .int .i64 Y1, .int .i64 X2, .int .i64 Y2, .int .i64 X3, .int .i64 Y3]) (t := 88) (by simp) 1
    have zh52 := St.cell h5 (b := b8) (cs := #[.int .i64 X0, .int .i64 Y0, .int .i64 X1, .int .i64 Y1, .int .i64 X2, .int .i64 Y2, .int .i64 X3, .int .i64 Y3]) (t := 88) (by simp) 2
    have zh53 := St.cell h5 (b := b8) (cs := #[.int .i64 X0, .int .i64 Y0, .int .i64 X1, .int .i64 Y1, .int .i64 X2, .int .i64 Y2, .int .i64 X3, .int .i64 Y3]) (t := 88) (by simp) 3
    have zh54 := St.cell h5 (b := b8) (cs := #[.int .i64 X0, .int .i64 Y0, .int .i64 X1, .int .i64 Y1, .int .i64 X2, .int .i64 Y2, .int .i64 X3, .int .i64 Y3]) (t := 88) (by simp) 4
    have zh55 := St.cell h5 (b := b8) (cs := #[.int .i64 X0, .int .i64 Y0, .int .i64 X1, .int .i64 Y1, .int .i64 X2, .int .i64 Y2, .int .i64 X3, .int .i64 Y3]) (t := 88) (by simp) 5
    have zh56 := St.cell h5 (b := b8) (cs := #[.int .i64 X0, .int .i64 Y0, .int .i64 X1, .int .i64 Y1, .int .i64 X2, .int .i64 Y2, .int .i64 X3, .int .i64 Y3]) (t := 88) (by simp) 6
    have zh57 := St.cell h5 (b := b8) (cs := #[.int .i64 X0, .int .i64 Y0, .int .i64 X1, .int .i64 Y1, .int .i64 X2, .int .i64 Y2, .int .i64 X3, .int .i64 Y3]) (t := 88) (by simp) 7
    simp only [List.getElem?_toArray, List.getElem?_cons_zero, List.getElem?_cons_succ] at zh50 zh51 zh52 zh53 zh54 zh55 zh56 zh57
    go_upto_region 10 with fail
    have hne9 := h5.ne
    have hle9 := h5.below.size
    have h6 := h5.alloc (ro X0 Y0 (X0 + 1) (Y0 + 1))
    generalize hgs : wc.heap.size = b9 at h6 hne9 hle9 ⊢
    generalize wc.alloc (ro X0 Y0 (X0 + 1) (Y0 + 1)) = w6 at h6 ⊢
    clear h5 zh50 zh51 zh52 zh53 zh54 zh55 zh56 zh57 hgs
    go_wp2_with fail
    go_loopw [10] (fun i wr => (i = .int .i64 1 ∧ Hid (St w ((b9, ro X0 Y0 (X0 + 1) (Y0 + 1)) :: [(b8, (.cells #[.int .i64 X0, .int .i64 Y0, .int .i64 X1, .int .i64 Y1, .int .i64 X2, .int .i64 Y2, .int .i64 X3, .int .i64 Y3] 88 : Obj)), (b0 + 1 + 1, b5o 0 0 0 0 0)]) wr)) ∨ (i = .int .i64 2 ∧ Hid (St w ((b9, ro o4 o5 o6 o7) :: [(b8, (.cells #[.int .i64 X0, .int .i64 Y0, .int .i64 X1, .int .i64 Y1, .int .i64 X2, .int .i64 Y2, .int .i64 X3, .int .i64 Y3] 88 : Obj)), (b0 + 1 + 1, b5o 0 0 0 0 0)]) wr)) ∨ (i = .int .i64 3 ∧ Hid (St w ((b9, ro o8 o9 o10 o11) :: [(b8, (.cells #[.int .i64 X0, .int .i64 Y0, .int .i64 X1, .int .i64 Y1, .int .i64 X2, .int .i64 Y2, .int .i64 X3, .int .i64 Y3] 88 : Obj)), (b0 + 1 + 1, b5o 0 0 0 0 0)]) wr)) ∨ (i = .int .i64 4 ∧ Hid (St w ((b9, ro o12 o13 o14 o15) :: [(b8, (.cells #[.int .i64 X0, .int .i64 Y0, .int .i64 X1, .int .i64 Y1, .int .i64 X2, .int .i64 Y2, .int .i64 X3, .int .i64 Y3] 88 : Obj)), (b0 + 1 + 1, b5o 0 0 0 0 0)]) wr))) (fun i _ => 4 - (intOf i).toNat)
    case atStart => exact .inl ⟨rfl, h6⟩
    case round =>
      clear h6
      obtain ⟨rfl, HS⟩ | ⟨rfl, HS⟩ | ⟨rfl, HS⟩ | ⟨rfl, HS⟩ := hrel
      · have hS := HS.out
        clear HS
        have HP : Hid (∀ V9, St w [(b8, (.cells #[.int .i64 X0, .int .i64 Y0, .int .i64 X1, .int .i64 Y1, .int .i64 X2, .int .i64 Y2, .int .i64 X3, .int .i64 Y3] 88 : Obj)), (b0 + 1 + 1, b5o 0 0 0 0 0)] V9 → St w [(b8, (.cells #[.int .i64 X0, .int .i64 Y0, .int .i64 X1, .int .i64 Y1, .int .i64 X2, .int .i64 Y2, .int .i64 X3, .int .i64 Y3] 88 : Obj)), (b0 + 1 + 1, b5o 0 0 0 0 0)] V9 ∧ V9.cell? ⟨b8, 0, none⟩ = some (.int .i64 X0) ∧ V9.cell? ⟨b8, 1, none⟩ = some (.int .i64 Y0) ∧ V9.cell? ⟨b8, 2, none⟩ = some (.int .i64 X1) ∧ V9.cell? ⟨b8, 3, none⟩ = some (.int .i64 Y1) ∧ V9.cell? ⟨b8, 4, none⟩ = some (.int .i64 X2) ∧ V9.cell? ⟨b8, 5, none⟩ = some (.int .i64 Y2) ∧ V9.cell? ⟨b8, 6, none⟩ = some (.int .i64 X3) ∧ V9.cell? ⟨b8, 7, none⟩ = some (.int .i64 Y3)) := fun V hV => ⟨hV, hV.cell (b := b8) (cs := #[.int .i64 X0, .int .i64 Y0, .int .i64 X1, .int .i64 Y1, .int .i64 X2, .int .i64 Y2, .int .i64 X3, .int .i64 Y3]) (t := 88) (by simp) 0, hV.cell (b := b8) (cs := #[.int .i64 X0, .int .i64 Y0, .int .i64 X1, .int .i64 Y1, .int .i64 X2, .int .i64 Y2, .int .i64 X3, .int .i64 Y3]) (t := 88) (by simp) 1, hV.cell (b := b8) (cs := #[.int .i64 X0, .int .i64 Y0, .int .i64 X1, .int .i64 Y1, .int .i64 X2, .int .i64 Y2, .int .i64 X3, .int .i64 Y3]) (t := 88) (by simp) 2, hV.cell (b := b8) (cs := #[.int .i64 X0, .int .i64 Y0, .int .i64 X1, .int .i64 Y1, .int .i64 X2, .int .i64 Y2, .int .i64 X3, .int .i64 Y3]) (t := 88) (by simp) 3, hV.cell (b := b8) (cs := #[.int .i64 X0, .int .i64 Y0, .int .i64 X1, .int .i64 Y1, .int .i64 X2, .int .i64 Y2, .int .i64 X3, .int .i64 Y3]) (t := 88) (by simp) 4, hV.cell (b := b8) (cs := #[.int .i64 X0, .int .i64 Y0, .int .i64 X1, .int .i64 Y1, .int .i64 X2, .int .i64 Y2, .int .i64 X3, .int .i64 Y3]) (t := 88) (by simp) 5, hV.cell (b := b8) (cs := #[.int .i64 X0, .int .i64 Y0, .int .i64 X1, .int .i64 Y1, .int .i64 X2, .int .i64 Y2, .int .i64 X3, .int .i64 Y3]) (t := 88) (by simp) 6, hV.cell (b := b8) (cs := #[.int .i64 X0, .int .i64 Y0, .int .i64 X1, .int .i64 Y1, .int .i64 X2, .int .i64 Y2, .int .i64 X3, .int .i64 Y3]) (t := 88) (by simp) 7⟩
        go_upto_region 13 with fail
        refine wp_region_held_drew (S := fun V9 => St w [(b8, (.cells #[.int .i64 X0, .int .i64 Y0, .int .i64 X1, .int .i64 Y1, .int .i64 X2, .int .i64 Y2, .int .i64 X3, .int .i64 Y3] 88 : Obj)), (b0 + 1 + 1, b5o 0 0 0 0 0)] V9 ∧ V9.cell? ⟨b8, 0, none⟩ = some (.int .i64 X0) ∧ V9.cell? ⟨b8, 1, none⟩ = some (.int .i64 Y0) ∧ V9.cell? ⟨b8, 2, none⟩ = some (.int .i64 X1) ∧ V9.cell? ⟨b8, 3, none⟩ = some (.int .i64 Y1) ∧ V9.cell? ⟨b8, 4, none⟩ = some (.int .i64 X2) ∧ V9.cell? ⟨b8, 5, none⟩ = some (.int .i64 Y2) ∧ V9.cell? ⟨b8, 6, none⟩ = some (.int .i64 X3) ∧ V9.cell? ⟨b8, 7, none⟩ = some (.int .i64 Y3)) (by kernel_rfl) ?_ (fun hHeld => ?_)
        · exact HP.out _ (hS.drew.tl)
        have hS0 := hS.drew
        refine wpAnyH_take (i := 1) (oi := { dst := some 79, op := Op.move (Operand.tmp 10), type := 3, pos := "ref.go:143", after := #[], guard := none }) (v := ?_) rfl (by kernel_rfl) (by kernel_rfl) (by kernel_rfl) (fun _ _ _ h => h) (Or.inl ⟨by kernel_rfl, ?_⟩) (by assumption) ?_
        rotate_left 1
        focus (intro w hSw; (try dsimp only at hSw); go_simp; (try with_reducible rfl))
        try simp only [Act.put, List.setIfInBounds_toArray, List.set_cons_zero, List.set_cons_succ]
        refine wpAnyH_take (i := 2) (oi := { dst := some 80, op := Op.indexAddr 88 (Operand.tmp 8) (Operand.tmp 79), type := 0, pos := "ref.go:143", after := #[{ on := 1, ground := Ground.data }], guard := none }) (v := ?_) rfl (by kernel_rfl) (by kernel_rfl) (by kernel_rfl) (fun _ _ _ h => h) (Or.inl ⟨by kernel_rfl, ?_⟩) (by assumption) ?_
        rotate_left 1
        focus (intro w hSw; (try dsimp only at hSw); go_simp; (try with_reducible rfl))
        try simp only [Act.put, List.setIfInBounds_toArray, List.set_cons_zero, List.set_cons_succ]
        refine wpAnyH_take (i := 3) (oi := { dst := some 81, op := Op.fieldAddr 49 (Operand.tmp 80) 0, type := 0, pos := "ref.go:143", after := #[{ on := 2, ground := Ground.data }], guard := none }) (v := ?_) rfl (by kernel_rfl) (by kernel_rfl) (by kernel_rfl) (fun _ _ _ h => h) (Or.inl ⟨by kernel_rfl, ?_⟩) (by assumption) ?_
        rotate_left 1
        focus (intro w hSw; (try dsimp only at hSw); go_simp; (try with_reducible rfl))
        try simp only [Act.put, List.setIfInBounds_toArray, List.set_cons_zero, List.set_cons_succ]
        refine wpAnyH_take (i := 4) (oi := { dst := some 82, op := Op.load 3 (Operand.tmp 81), type := 3, pos := "ref.go:143", after := #[{ on := 3, ground := Ground.data }], guard := none }) (v := ?_) rfl (by kernel_rfl) (by kernel_rfl) (by kernel_rfl) (fun _ _ _ h => h) (Or.inl ⟨by kernel_rfl, ?_⟩) (by assumption) ?_
        rotate_left 1
        focus (intro w hSw; (try dsimp only at hSw); go_simp; (try with_reducible rfl))
        try simp only [Act.put, List.setIfInBounds_toArray, List.set_cons_zero, List.set_cons_succ]
        refine wpAnyH_take (i := 5) (oi := { dst := some 83, op := Op.move (Operand.tmp 10), type := 3, pos := "ref.go:143", after := #[], guard := none }) (v := ?_) rfl (by kernel_rfl) (by kernel_rfl) (by kernel_rfl) (fun _ _ _ h => h) (Or.inl ⟨by kernel_rfl, ?_⟩) (by assumption) ?_
        rotate_left 1
        focus (intro w hSw; (try dsimp only at hSw); go_simp; (try with_reducible rfl))
        try simp only [Act.put, List.setIfInBounds_toArray, List.set_cons_zero, List.set_cons_succ]
        refine wpAnyH_take (i := 6) (oi := { dst := some 84, op := Op.indexAddr 88 (Operand.tmp 8) (Operand.tmp 83), type := 0, pos := "ref.go:143", after := #[{ on := 5, ground := Ground.data }], guard := none }) (v := ?_) rfl (by kernel_rfl) (by kernel_rfl) (by kernel_rfl) (fun _ _ _ h => h) (Or.inl ⟨by kernel_rfl, ?_⟩) (by assumption) ?_
        rotate_left 1
        focus (intro w hSw; (try dsimp only at hSw); go_simp; (try with_reducible rfl))
        try simp only [Act.put, List.setIfInBounds_toArray, List.set_cons_zero, List.set_cons_succ]
        refine wpAnyH_take (i := 7) (oi := { dst := some 85, op := Op.fieldAddr 49 (Operand.tmp 84) 1, type := 0, pos := "ref.go:143", after := #[{ on := 6, ground := Ground.data }], guard := none }) (v := ?_) rfl (by kernel_rfl) (by kernel_rfl) (by kernel_rfl) (fun _ _ _ h => h) (Or.inl ⟨by kernel_rfl, ?_⟩) (by assumption) ?_
        rotate_left 1
        focus (intro w hSw; (try dsimp only at hSw); go_simp; (try with_reducible rfl))
        try simp only [Act.put, List.setIfInBounds_toArray, List.set_cons_zero, List.set_cons_succ]
        refine wpAnyH_take (i := 8) (oi := { dst := some 86, op := Op.load 3 (Operand.tmp 85), type := 3, pos := "ref.go:143", after := #[{ on := 7, ground := Ground.data }], guard := none }) (v := ?_) rfl (by kernel_rfl) (by kernel_rfl) (by kernel_rfl) (fun _ _ _ h => h) (Or.inl ⟨by kernel_rfl, ?_⟩) (by assumption) ?_
        rotate_left 1
        focus (intro w hSw; (try dsimp only at hSw); go_simp; (try with_reducible rfl))
        try simp only [Act.put, List.setIfInBounds_toArray, List.set_cons_zero, List.set_cons_succ]
        refine wpAnyH_take (i := 9) (oi := { dst := some 87, op := Op.move (Operand.tmp 10), type := 3, pos := "ref.go:143", after := #[], guard := none }) (v := ?_) rfl (by kernel_rfl) (by kernel_rfl) (by kernel_rfl) (fun _ _ _ h => h) (Or.inl ⟨by kernel_rfl, ?_⟩) (by assumption) ?_
        rotate_left 1
        focus (intro w hSw; (try dsimp only at hSw); go_simp; (try with_reducible rfl))
        try simp only [Act.put, List.setIfInBounds_toArray, List.set_cons_zero, List.set_cons_succ]
        refine wpAnyH_take (i := 10) (oi := { dst := some 88, op := Op.indexAddr 88 (Operand.tmp 8) (Operand.tmp 87), type := 0, pos := "ref.go:143", after := #[{ on := 9, ground := Ground.data }], guard := none }) (v := ?_) rfl (by kernel_rfl) (by kernel_rfl) (by kernel_rfl) (fun _ _ _ h => h) (Or.inl ⟨by kernel_rfl, ?_⟩) (by assumption) ?_
        rotate_left 1
        focus (intro w hSw; (try dsimp only at hSw); go_simp; (try with_reducible rfl))
        try simp only [Act.put, List.setIfInBounds_toArray, List.set_cons_zero, List.set_cons_succ]
        refine wpAnyH_take (i := 11) (oi := { dst := some 89, op := Op.fieldAddr 49 (Operand.tmp 88) 0, type := 0, pos := "ref.go:143", after := #[{ on := 10, ground := Ground.data }], guard := none }) (v := ?_) rfl (by kernel_rfl) (by kernel_rfl) (by kernel_rfl) (fun _ _ _ h => h) (Or.inl ⟨by kernel_rfl, ?_⟩) (by assumption) ?_
        rotate_left 1
        focus (intro w hSw; (try dsimp only at hSw); go_simp; (try with_reducible rfl))
        try simp only [Act.put, List.setIfInBounds_toArray, List.set_cons_zero, List.set_cons_succ]
        refine wpAnyH_take (i := 12) (oi := { dst := some 90, op := Op.load 3 (Operand.tmp 89), type := 3, pos := "ref.go:143", after := #[{ on := 11, ground := Ground.data }], guard := none }) (v := ?_) rfl (by kernel_rfl) (by kernel_rfl) (by kernel_rfl) (fun _ _ _ h => h) (Or.inl ⟨by kernel_rfl, ?_⟩) (by assumption) ?_
        rotate_left 1
        focus (intro w hSw; (try dsimp only at hSw); go_simp; (try with_reducible rfl))
        try simp only [Act.put, List.setIfInBounds_toArray, List.set_cons_zero, List.set_cons_succ]
        refine wpAnyH_take (i := 13) (oi := { dst := some 91, op := Op.binOp BinOp.add 3 (Operand.tmp 90) (Operand.const (Value.int IntKind.i64 1)) 3, type := 3, pos := "ref.go:143", after := #[{ on := 12, ground := Ground.data }], guard := none }) (v := ?_) rfl (by kernel_rfl) (by kernel_rfl) (by kernel_rfl) (fun _ _ _ h => h) (Or.inl ⟨by kernel_rfl, ?_⟩) (by assumption) ?_
        rotate_left 1
        focus (intro w hSw; (try dsimp only at hSw); go_simp; (try with_reducible rfl))
        try simp only [Act.put, List.setIfInBounds_toArray, List.set_cons_zero, List.set_cons_succ]
        refine wpAnyH_take (i := 14) (oi := { dst := some 92, op := Op.move (Operand.tmp 10), type := 3, pos := "ref.go:143", after := #[], guard := none }) (v := ?_) rfl (by kernel_rfl) (by kernel_rfl) (by kernel_rfl) (fun _ _ _ h => h) (Or.inl ⟨by kernel_rfl, ?_⟩) (by assumption) ?_
        rotate_left 1
        focus (intro w hSw; (try dsimp only at hSw); go_simp; (try with_reducible rfl))
        try simp only [Act.put, List.setIfInBounds_toArray, List.set_cons_zero, List.set_cons_succ]
        refine wpAnyH_take (i := 15) (oi := { dst := some 93, op := Op.indexAddr 88 (Operand.tmp 8) (Operand.tmp 92), type := 0, pos := "ref.go:143", after := #[{ on := 14, ground := Ground.data }], guard := none }) (v := ?_) rfl (by kernel_rfl) (by kernel_rfl) (by kernel_rfl) (fun _ _ _ h => h) (Or.inl ⟨by kernel_rfl, ?_⟩) (by assumption) ?_
        rotate_left 1
        focus (intro w hSw; (try dsimp only at hSw); go_simp; (try with_reducible rfl))
        try simp only [Act.put, List.setIfInBounds_toArray, List.set_cons_zero, List.set_cons_succ]
        refine wpAnyH_take (i := 16) (oi := { dst := some 94, op := Op.fieldAddr 49 (Operand.tmp 93) 1, type := 0, pos := "ref.go:143", after := #[{ on := 15, ground := Ground.data }], guard := none }) (v := ?_) rfl (by kernel_rfl) (by kernel_rfl) (by kernel_rfl) (fun _ _ _ h => h) (Or.inl ⟨by kernel_rfl, ?_⟩) (by assumption) ?_
        rotate_left 1
        focus (intro w hSw; (try dsimp only at hSw); go_simp; (try with_reducible rfl))
        try simp only [Act.put, List.setIfInBounds_toArray, List.set_cons_zero, List.set_cons_succ]
        refine wpAnyH_take (i := 17) (oi := { dst := some 95, op := Op.load 3 (Operand.tmp 94), type := 3, pos := "ref.go:143", after := #[{ on := 16, ground := Ground.data }], guard := none }) (v := ?_) rfl (by kernel_rfl) (by kernel_rfl) (by kernel_rfl) (fun _ _ _ h => h) (Or.inl ⟨by kernel_rfl, ?_⟩) (by assumption) ?_
        rotate_left 1
        focus (intro w hSw; (try dsimp only at hSw); go_simp; (try with_reducible rfl))
        try simp only [Act.put, List.setIfInBounds_toArray, List.set_cons_zero, List.set_cons_succ]
        refine wpAnyH_take (i := 18) (oi := { dst := some 96, op := Op.binOp BinOp.add 3 (Operand.tmp 95) (Operand.const (Value.int IntKind.i64 1)) 3, type := 3, pos := "ref.go:143", after := #[{ on := 17, ground := Ground.data }], guard := none }) (v := ?_) rfl (by kernel_rfl) (by kernel_rfl) (by kernel_rfl) (fun _ _ _ h => h) (Or.inl ⟨by kernel_rfl, ?_⟩) (by assumption) ?_
        rotate_left 1
        focus (intro w hSw; (try dsimp only at hSw); go_simp; (try with_reducible rfl))
        try simp only [Act.put, List.setIfInBounds_toArray, List.set_cons_zero, List.set_cons_succ]
        refine wpAnyH_take (i := 19) (oi := { dst := some 97, op := Op.build 51 #[(0, Operand.tmp 82), (1, Operand.tmp 86), (2, Operand.tmp 91), (3, Operand.tmp 96)], type := 51, pos := "ref.go:143", after := #[{ on := 4, ground := Ground.data }, { on := 8, ground := Ground.data }, { on := 13, ground := Ground.data }, { on := 18, ground := Ground.data }], guard := none }) (v := ?_) rfl (by kernel_rfl) (by kernel_rfl) (by kernel_rfl) (fun _ _ _ h => h) (Or.inl ⟨by kernel_rfl, ?_⟩) (by assumption) ?_
        rotate_left 1
        focus (intro w hSw; (try dsimp only at hSw); go_simp; (try with_reducible rfl))
        try simp only [Act.put, List.setIfInBounds_toArray, List.set_cons_zero, List.set_cons_succ]
        refine wpAnyH_ready (rs := [0]) (by kernel_rfl) (by simp) (AllReadyH.cons (o := { dst := some 78, op := Op.load 51 (Operand.tmp 9), type := 51, pos := "ref.go:143", after := #[], guard := none }) rfl (fun K hK => ?_) AllReadyH.nil)
        obtain ⟨_, _, _, _⟩ := St.rect hS0 (b := b9) (x0 := X0) (x1 := Y0) (x2 := (X0 + 1)) (x3 := (Y0 + 1)) (by simp)
        go_simp
        refine hK.out _ _ ?_ (fun hHeld => ?_)
        · exact HP.out _ (hS0.tl)
        clear hK K
        try simp only [Act.put, List.setIfInBounds_toArray, List.set_cons_zero, List.set_cons_succ]
        refine wpAnyH_ready (rs := [20]) (by kernel_rfl) (by simp) (AllReadyH.cons (o := { dst := some 98, op := Op.call { callee := Callee.value (Operand.func 65), args := #[Operand.tmp 78, Operand.tmp 97], argTypes := #[51, 51] }, type := 51, pos := "ref.go:143", after := #[{ on := 0, ground := Ground.data }, { on := 19, ground := Ground.data }], guard := none }) rfl (fun K hK => ?_) AllReadyH.nil)
        (go_simp; (go_at_call 65; (refine (St.call hS0 (HU1.out _)).mono ?_); rintro e V2r13 ⟨rfl, hS2r13⟩))
        refine hK.out _ _ ?_ (fun hHeld => ?_)
        · exact HP.out _ (hS2r13.tl)
        clear hK K
        try simp only [Act.put, List.setIfInBounds_toArray, List.set_cons_zero, List.set_cons_succ]
        refine wpAnyH_ready (rs := [21]) (by kernel_rfl) (by simp) (AllReadyH.cons (o := { dst := none, op := Op.store 51 (Operand.tmp 9) (Operand.tmp 98), type := 0, pos := "ref.go:143", after := #[{ on := 20, ground := Ground.data }, { on := 20, ground := Ground.chain }, { on := 0, ground := Ground.phase }, { on := 1, ground := Ground.phase }, { on := 2, ground := Ground.phase }, { on := 3, ground := Ground.phase }, { on := 4, ground := Ground.phase }, { on := 5, ground := Ground.phase }, { on := 6, ground := Ground.phase }, { on := 7, ground := Ground.phase }, { on := 8, ground := Ground.phase }, { on := 9, ground := Ground.phase }, { on := 10, ground := Ground.phase }, { on := 11, ground := Ground.phase }, { on := 12, ground := Ground.phase }, { on := 13, ground := Ground.phase }, { on := 14, ground := Ground.phase }, { on := 15, ground := Ground.phase }, { on := 16, ground := Ground.phase }, { on := 17, ground := Ground.phase }, { on := 18, ground := Ground.phase }, { on := 19, ground := Ground.phase }, { on := 20, ground := Ground.phase }], guard := none }) rfl (fun K hK => ?_) AllReadyH.nil)
        have hS3r13 := hS2r13.rowset (ds := #[.int .i64 o4, .int .i64 o5, .int .i64 o6, .int .i64 o7]) hle9 hne9
        refine wp_store_of 51 _ _ rfl (store_row 51 (cs := #[.int .i64 X0, .int .i64 Y0, .int .i64 ((X0 + 1)), .int .i64 ((Y0 + 1))]) (ds := #[.int .i64 o4, .int .i64 o5, .int .i64 o6, .int .i64 o7]) (by kernel_rfl) rfl (by simp [Value.oneCell']) hS2r13.hd) ?_
        refine hK.out _ _ ?_ (fun hHeld => ?_)
        · exact HP.out _ (hS3r13.tl)
        clear hK K
        try simp only [Act.put]
        refine wpAnyH_done (by kernel_rfl) ?_ _
        have h9 := hS3r13
        generalize World.setRow _ _ _ = w9 at *
        go_wp2_with fail
        exact ⟨.inr (.inl ⟨rfl, h9⟩), by decide⟩
      · have hS := HS.out
        clear HS
        have HP : Hid (∀ V9, St w [(b8, (.cells #[.int .i64 X0, .int .i64 Y0, .int .i64 X1, .int .i64 Y1, .int .i64 X2, .int .i64 Y2, .int .i64 X3, .int .i64 Y3] 88 : Obj)), (b0 + 1 + 1, b5o 0 0 0 0 0)] V9 → St w [(b8, (.cells #[.int .i64 X0, .int .i64 Y0, .int .i64 X1, .int .i64 Y1, .int .i64 X2, .int .i64 Y2, .int .i64 X3, .int .i64 Y3] 88 : Obj)), (b0 + 1 + 1, b5o 0 0 0 0 0)] V9 ∧ V9.cell? ⟨b8, 0, none⟩ = some (.int .i64 X0) ∧ V9.cell? ⟨b8, 1, none⟩ = some (.int .i64 Y0) ∧ V9.cell? ⟨b8, 2, none⟩ = some (.int .i64 X1) ∧ V9.cell? ⟨b8, 3, none⟩ = some (.int .i64 Y1) ∧ V9.cell? ⟨b8, 4, none⟩ = some (.int .i64 X2) ∧ V9.cell? ⟨b8, 5, none⟩ = some (.int .i64 Y2) ∧ V9.cell? ⟨b8, 6, none⟩ = some (.int .i64 X3) ∧ V9.cell? ⟨b8, 7, none⟩ = some (.int .i64 Y3)) := fun V hV => ⟨hV, hV.cell (b := b8) (cs := #[.int .i64 X0, .int .i64 Y0, .int .i64 X1, .int .i64 Y1, .int .i64 X2, .int .i64 Y2, .int .i64 X3, .int .i64 Y3]) (t := 88) (by simp) 0, hV.cell (b := b8) (cs := #[.int .i64 X0, .int .i64 Y0, .int .i64 X1, .int .i64 Y1, .int .i64 X2, .int .i64 Y2, .int .i64 X3, .int .i64 Y3]) (t := 88) (by simp) 1, hV.cell (b := b8) (cs := #[.int .i64 X0, .int .i64 Y0, .int .i64 X1, .int .i64 Y1, .int .i64 X2, .int .i64 Y2, .int .i64 X3, .int .i64 Y3]) (t := 88) (by simp) 2, hV.cell (b := b8) (cs := #[.int .i64 X0, .int .i64 Y0, .int .i64 X1, .int .i64 Y1, .int .i64 X2, .int .i64 Y2, .int .i64 X3, .int .i64 Y3]) (t := 88) (by simp) 3, hV.cell (b := b8) (cs := #[.int .i64 X0, .int .i64 Y0, .int .i64 X1, .int .i64 Y1, .int .i64 X2, .int .i64 Y2, .int .i64 X3, .int .i64 Y3]) (t := 88) (by simp) 4, hV.cell (b := b8) (cs := #[.int .i64 X0, .int .i64 Y0, .int .i64 X1, .int .i64 Y1, .int .i64 X2, .int .i64 Y2, .int .i64 X3, .int .i64 Y3]) (t := 88) (by simp) 5, hV.cell (b := b8) (cs := #[.int .i64 X0, .int .i64 Y0, .int .i64 X1, .int .i64 Y1, .int .i64 X2, .int .i64 Y2, .int .i64 X3, .int .i64 Y3]) (t := 88) (by simp) 6, hV.cell (b := b8) (cs := #[.int .i64 X0, .int .i64 Y0, .int .i64 X1, .int .i64 Y1, .int .i64 X2, .int .i64 Y2, .int .i64 X3, .int .i64 Y3]) (t := 88) (by simp) 7⟩
        go_upto_region 13 with fail
        refine wp_region_held_drew (S := fun V9 => St w [(b8, (.cells #[.int .i64 X0, .int .i64 Y0, .int .i64 X1, .int .i64 Y1, .int .i64 X2, .int .i64 Y2, .int .i64 X3, .int .i64 Y3] 88 : Obj)), (b0 + 1 + 1, b5o 0 0 0 0 0)] V9 ∧ V9.cell? ⟨b8, 0, none⟩ = some (.int .i64 X0) ∧ V9.cell? ⟨b8, 1, none⟩ = some (.int .i64 Y0) ∧ V9.cell? ⟨b8, 2, none⟩ = some (.int .i64 X1) ∧ V9.cell? ⟨b8, 3, none⟩ = some (.int .i64 Y1) ∧ V9.cell? ⟨b8, 4, none⟩ = some (.int .i64 X2) ∧ V9.cell? ⟨b8, 5, none⟩ = some (.int .i64 Y2) ∧ V9.cell? ⟨b8, 6, none⟩ = some (.int .i64 X3) ∧ V9.cell? ⟨b8, 7, none⟩ = some (.int .i64 Y3)) (by kernel_rfl) ?_ (fun hHeld => ?_)
        · exact HP.out _ (hS.drew.tl)
        have hS0 := hS.drew
        refine wpAnyH_take (i := 1) (oi := { dst := some 79, op := Op.move (Operand.tmp 10), type := 3, pos := "ref.go:143", after := #[], guard := none }) (v := ?_) rfl (by kernel_rfl) (by kernel_rfl) (by kernel_rfl) (fun _ _ _ h => h) (Or.inl ⟨by kernel_rfl, ?_⟩) (by assumption) ?_
        rotate_left 1
        focus (intro w hSw; (try dsimp only at hSw); go_simp; (try with_reducible rfl))
        try simp only [Act.put, List.setIfInBounds_toArray, List.set_cons_zero, List.set_cons_succ]
        refine wpAnyH_take (i := 2) (oi := { dst := some 80, op := Op.indexAddr 88 (Operand.tmp 8) (Operand.tmp 79), type := 0, pos := "ref.go:143", after := #[{ on := 1, ground := Ground.data }], guard := none }) (v := ?_) rfl (by kernel_rfl) (by kernel_rfl) (by kernel_rfl) (fun _ _ _ h => h) (Or.inl ⟨by kernel_rfl, ?_⟩) (by assumption) ?_
        rotate_left 1
        focus (intro w hSw; (try dsimp only at hSw); go_simp; (try with_reducible rfl))
        try simp only [Act.put, List.setIfInBounds_toArray, List.set_cons_zero, List.set_cons_succ]
        refine wpAnyH_take (i := 3) (oi := { dst := some 81, op := Op.fieldAddr 49 (Operand.tmp 80) 0, type := 0, pos := "ref.go:143", after := #[{ on := 2, ground := Ground.data }], guard := none }) (v := ?_) rfl (by kernel_rfl) (by kernel_rfl) (by kernel_rfl) (fun _ _ _ h => h) (Or.inl ⟨by kernel_rfl, ?_⟩) (by assumption) ?_
        rotate_left 1
        focus (intro w hSw; (try dsimp only at hSw); go_simp; (try with_reducible rfl))
        try simp only [Act.put, List.setIfInBounds_toArray, List.set_cons_zero, List.set_cons_succ]
        refine wpAnyH_take (i := 4) (oi := { dst := some 82, op := Op.load 3 (Operand.tmp 81), type := 3, pos := "ref.go:143", after := #[{ on := 3, ground := Ground.data }], guard := none }) (v := ?_) rfl (by kernel_rfl) (by kernel_rfl) (by kernel_rfl) (fun _ _ _ h => h) (Or.inl ⟨by kernel_rfl, ?_⟩) (by assumption) ?_
        rotate_left 1
        focus (intro w hSw; (try dsimp only at hSw); go_simp; (try with_reducible rfl))
        try simp only [Act.put, List.setIfInBounds_toArray, List.set_cons_zero, List.set_cons_succ]
        refine wpAnyH_take (i := 5) (oi := { dst := some 83, op := Op.move (Operand.tmp 10), type := 3, pos := "ref.go:143", after := #[], guard := none }) (v := ?_) rfl (by kernel_rfl) (by kernel_rfl) (by kernel_rfl) (fun _ _ _ h => h) (Or.inl ⟨by kernel_rfl, ?_⟩) (by assumption) ?_
        rotate_left 1
        focus (intro w hSw; (try dsimp only at hSw); go_simp; (try with_reducible rfl))
        try simp only [Act.put, List.setIfInBounds_toArray, List.set_cons_zero, List.set_cons_succ]
        refine wpAnyH_take (i := 6) (oi := { dst := some 84, op := Op.indexAddr 88 (Operand.tmp 8) (Operand.tmp 83), type := 0, pos := "ref.go:143", after := #[{ on := 5, ground := Ground.data }], guard := none }) (v := ?_) rfl (by kernel_rfl) (by kernel_rfl) (by kernel_rfl) (fun _ _ _ h => h) (Or.inl ⟨by kernel_rfl, ?_⟩) (by assumption) ?_
        rotate_left 1
        focus (intro w hSw; (try dsimp only at hSw); go_simp; (try with_reducible rfl))
        try simp only [Act.put, List.setIfInBounds_toArray, List.set_cons_zero, List.set_cons_succ]
        refine wpAnyH_take (i := 7) (oi := { dst := some 85, op := Op.fieldAddr 49 (Operand.tmp 84) 1, type := 0, pos := "ref.go:143", after := #[{ on := 6, ground := Ground.data }], guard := none }) (v := ?_) rfl (by kernel_rfl) (by kernel_rfl) (by kernel_rfl) (fun _ _ _ h => h) (Or.inl ⟨by kernel_rfl, ?_⟩) (by assumption) ?_
        rotate_left 1
        focus (intro w hSw; (try dsimp only at hSw); go_simp; (try with_reducible rfl))
        try simp only [Act.put, List.setIfInBounds_toArray, List.set_cons_zero, List.set_cons_succ]
        refine wpAnyH_take (i := 8) (oi := { dst := some 86, op := Op.load 3 (Operand.tmp 85), type := 3, pos := "ref.go:143", after := #[{ on := 7, ground := Ground.data }], guard := none }) (v := ?_) rfl (by kernel_rfl) (by kernel_rfl) (by kernel_rfl) (fun _ _ _ h => h) (Or.inl ⟨by kernel_rfl, ?_⟩) (by assumption) ?_
        rotate_left 1
        focus (intro w hSw; (try dsimp only at hSw); go_simp; (try with_reducible rfl))
        try simp only [Act.put, List.setIfInBounds_toArray, List.set_cons_zero, List.set_cons_succ]
        refine wpAnyH_take (i := 9) (oi := { dst := some 87, op := Op.move (Operand.tmp 10), type := 3, pos := "ref.go:143", after := #[], guard := none }) (v := ?_) rfl (by kernel_rfl) (by kernel_rfl) (by kernel_rfl) (fun _ _ _ h => h) (Or.inl ⟨by kernel_rfl, ?_⟩) (by assumption) ?_
        rotate_left 1
        focus (intro w hSw; (try dsimp only at hSw); go_simp; (try with_reducible rfl))
        try simp only [Act.put, List.setIfInBounds_toArray, List.set_cons_zero, List.set_cons_succ]
        refine wpAnyH_take (i := 10) (oi := { dst := some 88, op := Op.indexAddr 88 (Operand.tmp 8) (Operand.tmp 87), type := 0, pos := "ref.go:143", after := #[{ on := 9, ground := Ground.data }], guard := none }) (v := ?_) rfl (by kernel_rfl) (by kernel_rfl) (by kernel_rfl) (fun _ _ _ h => h) (Or.inl ⟨by kernel_rfl, ?_⟩) (by assumption) ?_
        rotate_left 1
        focus (intro w hSw; (try dsimp only at hSw); go_simp; (try with_reducible rfl))
        try simp only [Act.put, List.setIfInBounds_toArray, List.set_cons_zero, List.set_cons_succ]
        refine wpAnyH_take (i := 11) (oi := { dst := some 89, op := Op.fieldAddr 49 (Operand.tmp 88) 0, type := 0, pos := "ref.go:143", after := #[{ on := 10, ground := Ground.data }], guard := none }) (v := ?_) rfl (by kernel_rfl) (by kernel_rfl) (by kernel_rfl) (fun _ _ _ h => h) (Or.inl ⟨by kernel_rfl, ?_⟩) (by assumption) ?_
        rotate_left 1
        focus (intro w hSw; (try dsimp only at hSw); go_simp; (try with_reducible rfl))
        try simp only [Act.put, List.setIfInBounds_toArray, List.set_cons_zero, List.set_cons_succ]
        refine wpAnyH_take (i := 12) (oi := { dst := some 90, op := Op.load 3 (Operand.tmp 89), type := 3, pos := "ref.go:143", after := #[{ on := 11, ground := Ground.data }], guard := none }) (v := ?_) rfl (by kernel_rfl) (by kernel_rfl) (by kernel_rfl) (fun _ _ _ h => h) (Or.inl ⟨by kernel_rfl, ?_⟩) (by assumption) ?_
        rotate_left 1
        focus (intro w hSw; (try dsimp only at hSw); go_simp; (try with_reducible rfl))
        try simp only [Act.put, List.setIfInBounds_toArray, List.set_cons_zero, List.set_cons_succ]
        refine wpAnyH_take (i := 13) (oi := { dst := some 91, op := Op.binOp BinOp.add 3 (Operand.tmp 90) (Operand.const (Value.int IntKind.i64 1)) 3, type := 3, pos := "ref.go:143", after := #[{ on := 12, ground := Ground.data }], guard := none }) (v := ?_) rfl (by kernel_rfl) (by kernel_rfl) (by kernel_rfl) (fun _ _ _ h => h) (Or.inl ⟨by kernel_rfl, ?_⟩) (by assumption) ?_
        rotate_left 1
        focus (intro w hSw; (try dsimp only at hSw); go_simp; (try with_reducible rfl))
        try simp only [Act.put, List.setIfInBounds_toArray, List.set_cons_zero, List.set_cons_succ]
        refine wpAnyH_take (i := 14) (oi := { dst := some 92, op := Op.move (Operand.tmp 10), type := 3, pos := "ref.go:143", after := #[], guard := none }) (v := ?_) rfl (by kernel_rfl) (by kernel_rfl) (by kernel_rfl) (fun _ _ _ h => h) (Or.inl ⟨by kernel_rfl, ?_⟩) (by assumption) ?_
        rotate_left 1
        focus (intro w hSw; (try dsimp only at hSw); go_simp; (try with_reducible rfl))
        try simp only [Act.put, List.setIfInBounds_toArray, List.set_cons_zero, List.set_cons_succ]
        refine wpAnyH_take (i := 15) (oi := { dst := some 93, op := Op.indexAddr 88 (Operand.tmp 8) (Operand.tmp 92), type := 0, pos := "ref.go:143", after := #[{ on := 14, ground := Ground.data }], guard := none }) (v := ?_) rfl (by kernel_rfl) (by kernel_rfl) (by kernel_rfl) (fun _ _ _ h => h) (Or.inl ⟨by kernel_rfl, ?_⟩) (by assumption) ?_
        rotate_left 1
        focus (intro w hSw; (try dsimp only at hSw); go_simp; (try with_reducible rfl))
        try simp only [Act.put, List.setIfInBounds_toArray, List.set_cons_zero, List.set_cons_succ]
        refine wpAnyH_take (i := 16) (oi := { dst := some 94, op := Op.fieldAddr 49 (Operand.tmp 93) 1, type := 0, pos := "ref.go:143", after := #[{ on := 15, ground := Ground.data }], guard := none }) (v := ?_) rfl (by kernel_rfl) (by kernel_rfl) (by kernel_rfl) (fun _ _ _ h => h) (Or.inl ⟨by kernel_rfl, ?_⟩) (by assumption) ?_
        rotate_left 1
        focus (intro w hSw; (try dsimp only at hSw); go_simp; (try with_reducible rfl))
        try simp only [Act.put, List.setIfInBounds_toArray, List.set_cons_zero, List.set_cons_succ]
        refine wpAnyH_take (i := 17) (oi := { dst := some 95, op := Op.load 3 (Operand.tmp 94), type := 3, pos := "ref.go:143", after := #[{ on := 16, ground := Ground.data }], guard := none }) (v := ?_) rfl (by kernel_rfl) (by kernel_rfl) (by kernel_rfl) (fun _ _ _ h => h) (Or.inl ⟨by kernel_rfl, ?_⟩) (by assumption) ?_
        rotate_left 1
        focus (intro w hSw; (try dsimp only at hSw); go_simp; (try with_reducible rfl))
        try simp only [Act.put, List.setIfInBounds_toArray, List.set_cons_zero, List.set_cons_succ]
        refine wpAnyH_take (i := 18) (oi := { dst := some 96, op := Op.binOp BinOp.add 3 (Operand.tmp 95) (Operand.const (Value.int IntKind.i64 1)) 3, type := 3, pos := "ref.go:143", after := #[{ on := 17, ground := Ground.data }], guard := none }) (v := ?_) rfl (by kernel_rfl) (by kernel_rfl) (by kernel_rfl) (fun _ _ _ h => h) (Or.inl ⟨by kernel_rfl, ?_⟩) (by assumption) ?_
        rotate_left 1
        focus (intro w hSw; (try dsimp only at hSw); go_simp; (try with_reducible rfl))
        try simp only [Act.put, List.setIfInBounds_toArray, List.set_cons_zero, List.set_cons_succ]
        refine wpAnyH_take (i := 19) (oi := { dst := some 97, op := Op.build 51 #[(0, Operand.tmp 82), (1, Operand.tmp 86), (2, Operand.tmp 91), (3, Operand.tmp 96)], type := 51, pos := "ref.go:143", after := #[{ on := 4, ground := Ground.data }, { on := 8, ground := Ground.data }, { on := 13, ground := Ground.data }, { on := 18, ground := Ground.data }], guard := none }) (v := ?_) rfl (by kernel_rfl) (by kernel_rfl) (by kernel_rfl) (fun _ _ _ h => h) (Or.inl ⟨by kernel_rfl, ?_⟩) (by assumption) ?_
        rotate_left 1
        focus (intro w hSw; (try dsimp only at hSw); go_simp; (try with_reducible rfl))
        try simp only [Act.put, List.setIfInBounds_toArray, List.set_cons_zero, List.set_cons_succ]
        refine wpAnyH_ready (rs := [0]) (by kernel_rfl) (by simp) (AllReadyH.cons (o := { dst := some 78, op := Op.load 51 (Operand.tmp 9), type := 51, pos := "ref.go:143", after := #[], guard := none }) rfl (fun K hK => ?_) AllReadyH.nil)
        obtain ⟨_, _, _, _⟩ := St.rect hS0 (b := b9) (x0 := o4) (x1 := o5) (x2 := o6) (x3 := o7) (by simp)
        go_simp
        refine hK.out _ _ ?_ (fun hHeld => ?_)
        · exact HP.out _ (hS0.tl)
        clear hK K
        try simp only [Act.put, List.setIfInBounds_toArray, List.set_cons_zero, List.set_cons_succ]
        refine wpAnyH_ready (rs := [20]) (by kernel_rfl) (by simp) (AllReadyH.cons (o := { dst := some 98, op := Op.call { callee := Callee.value (Operand.func 65), args := #[Operand.tmp 78, Operand.tmp 97], argTypes := #[51, 51] }, type := 51, pos := "ref.go:143", after := #[{ on := 0, ground := Ground.data }, { on := 19, ground := Ground.data }], guard := none }) rfl (fun K hK => ?_) AllReadyH.nil)
        (go_simp; (go_at_call 65; (refine (St.call hS0 (HU2.out _)).mono ?_); rintro e V2r13 ⟨rfl, hS2r13⟩))
        refine hK.out _ _ ?_ (fun hHeld => ?_)
        · exact HP.out _ (hS2r13.tl)
        clear hK K
        try simp only [Act.put, List.setIfInBounds_toArray, List.set_cons_zero, List.set_cons_succ]
        refine wpAnyH_ready (rs := [21]) (by kernel_rfl) (by simp) (AllReadyH.cons (o := { dst := none, op := Op.store 51 (Operand.tmp 9) (Operand.tmp 98), type := 0, pos := "ref.go:143", after := #[{ on := 20, ground := Ground.data }, { on := 20, ground := Ground.chain }, { on := 0, ground := Ground.phase }, { on := 1, ground := Ground.phase }, { on := 2, ground := Ground.phase }, { on := 3, ground := Ground.phase }, { on := 4, ground := Ground.phase }, { on := 5, ground := Ground.phase }, { on := 6, ground := Ground.phase }, { on := 7, ground := Ground.phase }, { on := 8, ground := Ground.phase }, { on := 9, ground := Ground.phase }, { on := 10, ground := Ground.phase }, { on := 11, ground := Ground.phase }, { on := 12, ground := Ground.phase }, { on := 13, ground := Ground.phase }, { on := 14, ground := Ground.phase }, { on := 15, ground := Ground.phase }, { on := 16, ground := Ground.phase }, { on := 17, ground := Ground.phase }, { on := 18, ground := Ground.phase }, { on := 19, ground := Ground.phase }, { on := 20, ground := Ground.phase }], guard := none }) rfl (fun K hK => ?_) AllReadyH.nil)
        have hS3r13 := hS2r13.rowset (ds := #[.int .i64 o8, .int .i64 o9, .int .i64 o10, .int .i64 o11]) hle9 hne9
        refine wp_store_of 51 _ _ rfl (store_row 51 (cs := #[.int .i64 o4, .int .i64 o5, .int .i64 o6, .int .i64 o7]) (ds := #[.int .i64 o8, .int .i64 o9, .int .i64 o10, .int .i64 o11]) (by kernel_rfl) rfl (by simp [Value.oneCell']) hS2r13.hd) ?_
        refine hK.out _ _ ?_ (fun hHeld => ?_)
        · exact HP.out _ (hS3r13.tl)
        clear hK K
        try simp only [Act.put]
        refine wpAnyH_done (by kernel_rfl) ?_ _
        have h9 := hS3r13
        generalize World.setRow _ _ _ = w9 at *
        go_wp2_with fail
        exact ⟨.inr (.inr (.inl ⟨rfl, h9⟩)), by decide⟩
      · have hS := HS.out
        clear HS
        have HP : Hid (∀ V9, St w [(b8, (.cells #[.int .i64 X0, .int .i64 Y0, .int .i64 X1, .int .i64 Y1, .int .i64 X2, .int .i64 Y2, .int .i64 X3, .int .i64 Y3] 88 : Obj)), (b0 + 1 + 1, b5o 0 0 0 0 0)] V9 → St w [(b8, (.cells #[.int .i64 X0, .int .i64 Y0, .int .i64 X1, .int .i64 Y1, .int .i64 X2, .int .i64 Y2, .int .i64 X3, .int .i64 Y3] 88 : Obj)), (b0 + 1 + 1, b5o 0 0 0 0 0)] V9 ∧ V9.cell? ⟨b8, 0, none⟩ = some (.int .i64 X0) ∧ V9.cell? ⟨b8, 1, none⟩ = some (.int .i64 Y0) ∧ V9.cell? ⟨b8, 2, none⟩ = some (.int .i64 X1) ∧ V9.cell? ⟨b8, 3, none⟩ = some (.int .i64 Y1) ∧ V9.cell? ⟨b8, 4, none⟩ = some (.int .i64 X2) ∧ V9.cell? ⟨b8, 5, none⟩ = some (.int .i64 Y2) ∧ V9.cell? ⟨b8, 6, none⟩ = some (.int .i64 X3) ∧ V9.cell? ⟨b8, 7, none⟩ = some (.int .i64 Y3)) := fun V hV => ⟨hV, hV.cell (b := b8) (cs := #[.int .i64 X0, .int .i64 Y0, .int .i64 X1, .int .i64 Y1, .int .i64 X2, .int .i64 Y2, .int .i64 X3, .int .i64 Y3]) (t := 88) (by simp) 0, hV.cell (b := b8) (cs := #[.int .i64 X0, .int .i64 Y0, .int .i64 X1, .int .i64 Y1, .int .i64 X2, .int .i64 Y2, .int .i64 X3, .int .i64 Y3]) (t := 88) (by simp) 1, hV.cell (b := b8) (cs := #[.int .i64 X0, .int .i64 Y0, .int .i64 X1, .int .i64 Y1, .int .i64 X2, .int .i64 Y2, .int .i64 X3, .int .i64 Y3]) (t := 88) (by simp) 2, hV.cell (b := b8) (cs := #[.int .i64 X0, .int .i64 Y0, .int .i64 X1, .int .i64 Y1, .int .i64 X2, .int .i64 Y2, .int .i64 X3, .int .i64 Y3]) (t := 88) (by simp) 3, hV.cell (b := b8) (cs := #[.int .i64 X0, .int .i64 Y0, .int .i64 X1, .int .i64 Y1, .int .i64 X2, .int .i64 Y2, .int .i64 X3, .int .i64 Y3]) (t := 88) (by simp) 4, hV.cell (b := b8) (cs := #[.int .i64 X0, .int .i64 Y0, .int .i64 X1, .int .i64 Y1, .int .i64 X2, .int .i64 Y2, .int .i64 X3, .int .i64 Y3]) (t := 88) (by simp) 5, hV.cell (b := b8) (cs := #[.int .i64 X0, .int .i64 Y0, .int .i64 X1, .int .i64 Y1, .int .i64 X2, .int .i64 Y2, .int .i64 X3, .int .i64 Y3]) (t := 88) (by simp) 6, hV.cell (b := b8) (cs := #[.int .i64 X0, .int .i64 Y0, .int .i64 X1, .int .i64 Y1, .int .i64 X2, .int .i64 Y2, .int .i64 X3, .int .i64 Y3]) (t := 88) (by simp) 7⟩
        go_upto_region 13 with fail
        refine wp_region_held_drew (S := fun V9 => St w [(b8, (.cells #[.int .i64 X0, .int .i64 Y0, .int .i64 X1, .int .i64 Y1, .int .i64 X2, .int .i64 Y2, .int .i64 X3, .int .i64 Y3] 88 : Obj)), (b0 + 1 + 1, b5o 0 0 0 0 0)] V9 ∧ V9.cell? ⟨b8, 0, none⟩ = some (.int .i64 X0) ∧ V9.cell? ⟨b8, 1, none⟩ = some (.int .i64 Y0) ∧ V9.cell? ⟨b8, 2, none⟩ = some (.int .i64 X1) ∧ V9.cell? ⟨b8, 3, none⟩ = some (.int .i64 Y1) ∧ V9.cell? ⟨b8, 4, none⟩ = some (.int .i64 X2) ∧ V9.cell? ⟨b8, 5, none⟩ = some (.int .i64 Y2) ∧ V9.cell? ⟨b8, 6, none⟩ = some (.int .i64 X3) ∧ V9.cell? ⟨b8, 7, none⟩ = some (.int .i64 Y3)) (by kernel_rfl) ?_ (fun hHeld => ?_)
        · exact HP.out _ (hS.drew.tl)
        have hS0 := hS.drew
        refine wpAnyH_take (i := 1) (oi := { dst := some 79, op := Op.move (Operand.tmp 10), type := 3, pos := "ref.go:143", after := #[], guard := none }) (v := ?_) rfl (by kernel_rfl) (by kernel_rfl) (by kernel_rfl) (fun _ _ _ h => h) (Or.inl ⟨by kernel_rfl, ?_⟩) (by assumption) ?_
        rotate_left 1
        focus (intro w hSw; (try dsimp only at hSw); go_simp; (try with_reducible rfl))
        try simp only [Act.put, List.setIfInBounds_toArray, List.set_cons_zero, List.set_cons_succ]
        refine wpAnyH_take (i := 2) (oi := { dst := some 80, op := Op.indexAddr 88 (Operand.tmp 8) (Operand.tmp 79), type := 0, pos := "ref.go:143", after := #[{ on := 1, ground := Ground.data }], guard := none }) (v := ?_) rfl (by kernel_rfl) (by kernel_rfl) (by kernel_rfl) (fun _ _ _ h => h) (Or.inl ⟨by kernel_rfl, ?_⟩) (by assumption) ?_
        rotate_left 1
        focus (intro w hSw; (try dsimp only at hSw); go_simp; (try with_reducible rfl))
        try simp only [Act.put, List.setIfInBounds_toArray, List.set_cons_zero, List.set_cons_succ]
        refine wpAnyH_take (i := 3) (oi := { dst := some 81, op := Op.fieldAddr 49 (Operand.tmp 80) 0, type := 0, pos := "ref.go:143", after := #[{ on := 2, ground := Ground.data }], guard := none }) (v := ?_) rfl (by kernel_rfl) (by kernel_rfl) (by kernel_rfl) (fun _ _ _ h => h) (Or.inl ⟨by kernel_rfl, ?_⟩) (by assumption) ?_
        rotate_left 1
        focus (intro w hSw; (try dsimp only at hSw); go_simp; (try with_reducible rfl))
        try simp only [Act.put, List.setIfInBounds_toArray, List.set_cons_zero, List.set_cons_succ]
        refine wpAnyH_take (i := 4) (oi := { dst := some 82, op := Op.load 3 (Operand.tmp 81), type := 3, pos := "ref.go:143", after := #[{ on := 3, ground := Ground.data }], guard := none }) (v := ?_) rfl (by kernel_rfl) (by kernel_rfl) (by kernel_rfl) (fun _ _ _ h => h) (Or.inl ⟨by kernel_rfl, ?_⟩) (by assumption) ?_
        rotate_left 1
        focus (intro w hSw; (try dsimp only at hSw); go_simp; (try with_reducible rfl))
        try simp only [Act.put, List.setIfInBounds_toArray, List.set_cons_zero, List.set_cons_succ]
        refine wpAnyH_take (i := 5) (oi := { dst := some 83, op := Op.move (Operand.tmp 10), type := 3, pos := "ref.go:143", after := #[], guard := none }) (v := ?_) rfl (by kernel_rfl) (by kernel_rfl) (by kernel_rfl) (fun _ _ _ h => h) (Or.inl ⟨by kernel_rfl, ?_⟩) (by assumption) ?_
        rotate_left 1
        focus (intro w hSw; (try dsimp only at hSw); go_simp; (try with_reducible rfl))
        try simp only [Act.put, List.setIfInBounds_toArray, List.set_cons_zero, List.set_cons_succ]
        refine wpAnyH_take (i := 6) (oi := { dst := some 84, op := Op.indexAddr 88 (Operand.tmp 8) (Operand.tmp 83), type := 0, pos := "ref.go:143", after := #[{ on := 5, ground := Ground.data }], guard := none }) (v := ?_) rfl (by kernel_rfl) (by kernel_rfl) (by kernel_rfl) (fun _ _ _ h => h) (Or.inl ⟨by kernel_rfl, ?_⟩) (by assumption) ?_
        rotate_left 1
        focus (intro w hSw; (try dsimp only at hSw); go_simp; (try with_reducible rfl))
        try simp only [Act.put, List.setIfInBounds_toArray, List.set_cons_zero, List.set_cons_succ]
        refine wpAnyH_take (i := 7) (oi := { dst := some 85, op := Op.fieldAddr 49 (Operand.tmp 84) 1, type := 0, pos := "ref.go:143", after := #[{ on := 6, ground := Ground.data }], guard := none }) (v := ?_) rfl (by kernel_rfl) (by kernel_rfl) (by kernel_rfl) (fun _ _ _ h => h) (Or.inl ⟨by kernel_rfl, ?_⟩) (by assumption) ?_
        rotate_left 1
        focus (intro w hSw; (try dsimp only at hSw); go_simp; (try with_reducible rfl))
        try simp only [Act.put, List.setIfInBounds_toArray, List.set_cons_zero, List.set_cons_succ]
        refine wpAnyH_take (i := 8) (oi := { dst := some 86, op := Op.load 3 (Operand.tmp 85), type := 3, pos := "ref.go:143", after := #[{ on := 7, ground := Ground.data }], guard := none }) (v := ?_) rfl (by kernel_rfl) (by kernel_rfl) (by kernel_rfl) (fun _ _ _ h => h) (Or.inl ⟨by kernel_rfl, ?_⟩) (by assumption) ?_
        rotate_left 1
        focus (intro w hSw; (try dsimp only at hSw); go_simp; (try with_reducible rfl))
        try simp only [Act.put, List.setIfInBounds_toArray, List.set_cons_zero, List.set_cons_succ]
        refine wpAnyH_take (i := 9) (oi := { dst := some 87, op := Op.move (Operand.tmp 10), type := 3, pos := "ref.go:143", after := #[], guard := none }) (v := ?_) rfl (by kernel_rfl) (by kernel_rfl) (by kernel_rfl) (fun _ _ _ h => h) (Or.inl ⟨by kernel_rfl, ?_⟩) (by assumption) ?_
        rotate_left 1
        focus (intro w hSw; (try dsimp only at hSw); go_simp; (try with_reducible rfl))
        try simp only [Act.put, List.setIfInBounds_toArray, List.set_cons_zero, List.set_cons_succ]
        refine wpAnyH_take (i := 10) (oi := { dst := some 88, op := Op.indexAddr 88 (Operand.tmp 8) (Operand.tmp 87), type := 0, pos := "ref.go:143", after := #[{ on := 9, ground := Ground.data }], guard := none }) (v := ?_) rfl (by kernel_rfl) (by kernel_rfl) (by kernel_rfl) (fun _ _ _ h => h) (Or.inl ⟨by kernel_rfl, ?_⟩) (by assumption) ?_
        rotate_left 1
        focus (intro w hSw; (try dsimp only at hSw); go_simp; (try with_reducible rfl))
        try simp only [Act.put, List.setIfInBounds_toArray, List.set_cons_zero, List.set_cons_succ]
        refine wpAnyH_take (i := 11) (oi := { dst := some 89, op := Op.fieldAddr 49 (Operand.tmp 88) 0, type := 0, pos := "ref.go:143", after := #[{ on := 10, ground := Ground.data }], guard := none }) (v := ?_) rfl (by kernel_rfl) (by kernel_rfl) (by kernel_rfl) (fun _ _ _ h => h) (Or.inl ⟨by kernel_rfl, ?_⟩) (by assumption) ?_
        rotate_left 1
        focus (intro w hSw; (try dsimp only at hSw); go_simp; (try with_reducible rfl))
        try simp only [Act.put, List.setIfInBounds_toArray, List.set_cons_zero, List.set_cons_succ]
        refine wpAnyH_take (i := 12) (oi := { dst := some 90, op := Op.load 3 (Operand.tmp 89), type := 3, pos := "ref.go:143", after := #[{ on := 11, ground := Ground.data }], guard := none }) (v := ?_) rfl (by kernel_rfl) (by kernel_rfl) (by kernel_rfl) (fun _ _ _ h => h) (Or.inl ⟨by kernel_rfl, ?_⟩) (by assumption) ?_
        rotate_left 1
        focus (intro w hSw; (try dsimp only at hSw); go_simp; (try with_reducible rfl))
        try simp only [Act.put, List.setIfInBounds_toArray, List.set_cons_zero, List.set_cons_succ]
        refine wpAnyH_take (i := 13) (oi := { dst := some 91, op := Op.binOp BinOp.add 3 (Operand.tmp 90) (Operand.const (Value.int IntKind.i64 1)) 3, type := 3, pos := "ref.go:143", after := #[{ on := 12, ground := Ground.data }], guard := none }) (v := ?_) rfl (by kernel_rfl) (by kernel_rfl) (by kernel_rfl) (fun _ _ _ h => h) (Or.inl ⟨by kernel_rfl, ?_⟩) (by assumption) ?_
        rotate_left 1
        focus (intro w hSw; (try dsimp only at hSw); go_simp; (try with_reducible rfl))
        try simp only [Act.put, List.setIfInBounds_toArray, List.set_cons_zero, List.set_cons_succ]
        refine wpAnyH_take (i := 14) (oi := { dst := some 92, op := Op.move (Operand.tmp 10), type := 3, pos := "ref.go:143", after := #[], guard := none }) (v := ?_) rfl (by kernel_rfl) (by kernel_rfl) (by kernel_rfl) (fun _ _ _ h => h) (Or.inl ⟨by kernel_rfl, ?_⟩) (by assumption) ?_
        rotate_left 1
        focus (intro w hSw; (try dsimp only at hSw); go_simp; (try with_reducible rfl))
        try simp only [Act.put, List.setIfInBounds_toArray, List.set_cons_zero, List.set_cons_succ]
        refine wpAnyH_take (i := 15) (oi := { dst := some 93, op := Op.indexAddr 88 (Operand.tmp 8) (Operand.tmp 92), type := 0, pos := "ref.go:143", after := #[{ on := 14, ground := Ground.data }], guard := none }) (v := ?_) rfl (by kernel_rfl) (by kernel_rfl) (by kernel_rfl) (fun _ _ _ h => h) (Or.inl ⟨by kernel_rfl, ?_⟩) (by assumption) ?_
        rotate_left 1
        focus (intro w hSw; (try dsimp only at hSw); go_simp; (try with_reducible rfl))
        try simp only [Act.put, List.setIfInBounds_toArray, List.set_cons_zero, List.set_cons_succ]
        refine wpAnyH_take (i := 16) (oi := { dst := some 94, op := Op.fieldAddr 49 (Operand.tmp 93) 1, type := 0, pos := "ref.go:143", after := #[{ on := 15, ground := Ground.data }], guard := none }) (v := ?_) rfl (by kernel_rfl) (by kernel_rfl) (by kernel_rfl) (fun _ _ _ h => h) (Or.inl ⟨by kernel_rfl, ?_⟩) (by assumption) ?_
        rotate_left 1
        focus (intro w hSw; (try dsimp only at hSw); go_simp; (try with_reducible rfl))
        try simp only [Act.put, List.setIfInBounds_toArray, List.set_cons_zero, List.set_cons_succ]
        refine wpAnyH_take (i := 17) (oi := { dst := some 95, op := Op.load 3 (Operand.tmp 94), type := 3, pos := "ref.go:143", after := #[{ on := 16, ground := Ground.data }], guard := none }) (v := ?_) rfl (by kernel_rfl) (by kernel_rfl) (by kernel_rfl) (fun _ _ _ h => h) (Or.inl ⟨by kernel_rfl, ?_⟩) (by assumption) ?_
        rotate_left 1
        focus (intro w hSw; (try dsimp only at hSw); go_simp; (try with_reducible rfl))
        try simp only [Act.put, List.setIfInBounds_toArray, List.set_cons_zero, List.set_cons_succ]
        refine wpAnyH_take (i := 18) (oi := { dst := some 96, op := Op.binOp BinOp.add 3 (Operand.tmp 95) (Operand.const (Value.int IntKind.i64 1)) 3, type := 3, pos := "ref.go:143", after := #[{ on := 17, ground := Ground.data }], guard := none }) (v := ?_) rfl (by kernel_rfl) (by kernel_rfl) (by kernel_rfl) (fun _ _ _ h => h) (Or.inl ⟨by kernel_rfl, ?_⟩) (by assumption) ?_
        rotate_left 1
        focus (intro w hSw; (try dsimp only at hSw); go_simp; (try with_reducible rfl))
        try simp only [Act.put, List.setIfInBounds_toArray, List.set_cons_zero, List.set_cons_succ]
        refine wpAnyH_take (i := 19) (oi := { dst := some 97, op := Op.build 51 #[(0, Operand.tmp 82), (1, Operand.tmp 86), (2, Operand.tmp 91), (3, Operand.tmp 96)], type := 51, pos := "ref.go:143", after := #[{ on := 4, ground := Ground.data }, { on := 8, ground := Ground.data }, { on := 13, ground := Ground.data }, { on := 18, ground := Ground.data }], guard := none }) (v := ?_) rfl (by kernel_rfl) (by kernel_rfl) (by kernel_rfl) (fun _ _ _ h => h) (Or.inl ⟨by kernel_rfl, ?_⟩) (by assumption) ?_
        rotate_left 1
        focus (intro w hSw; (try dsimp only at hSw); go_simp; (try with_reducible rfl))
        try simp only [Act.put, List.setIfInBounds_toArray, List.set_cons_zero, List.set_cons_succ]
        refine wpAnyH_ready (rs := [0]) (by kernel_rfl) (by simp) (AllReadyH.cons (o := { dst := some 78, op := Op.load 51 (Operand.tmp 9), type := 51, pos := "ref.go:143", after := #[], guard := none }) rfl (fun K hK => ?_) AllReadyH.nil)
        obtain ⟨_, _, _, _⟩ := St.rect hS0 (b := b9) (x0 := o8) (x1 := o9) (x2 := o10) (x3 := o11) (by simp)
        go_simp
        refine hK.out _ _ ?_ (fun hHeld => ?_)
        · exact HP.out _ (hS0.tl)
        clear hK K
        try simp only [Act.put, List.setIfInBounds_toArray, List.set_cons_zero, List.set_cons_succ]
        refine wpAnyH_ready (rs := [20]) (by kernel_rfl) (by simp) (AllReadyH.cons (o := { dst := some 98, op := Op.call { callee := Callee.value (Operand.func 65), args := #[Operand.tmp 78, Operand.tmp 97], argTypes := #[51, 51] }, type := 51, pos := "ref.go:143", after := #[{ on := 0, ground := Ground.data }, { on := 19, ground := Ground.data }], guard := none }) rfl (fun K hK => ?_) AllReadyH.nil)
        (go_simp; (go_at_call 65; (refine (St.call hS0 (HU3.out _)).mono ?_); rintro e V2r13 ⟨rfl, hS2r13⟩))
        refine hK.out _ _ ?_ (fun hHeld => ?_)
        · exact HP.out _ (hS2r13.tl)
        clear hK K
        try simp only [Act.put, List.setIfInBounds_toArray, List.set_cons_zero, List.set_cons_succ]
        refine wpAnyH_ready (rs := [21]) (by kernel_rfl) (by simp) (AllReadyH.cons (o := { dst := none, op := Op.store 51 (Operand.tmp 9) (Operand.tmp 98), type := 0, pos := "ref.go:143", after := #[{ on := 20, ground := Ground.data }, { on := 20, ground := Ground.chain }, { on := 0, ground := Ground.phase }, { on := 1, ground := Ground.phase }, { on := 2, ground := Ground.phase }, { on := 3, ground := Ground.phase }, { on := 4, ground := Ground.phase }, { on := 5, ground := Ground.phase }, { on := 6, ground := Ground.phase }, { on := 7, ground := Ground.phase }, { on := 8, ground := Ground.phase }, { on := 9, ground := Ground.phase }, { on := 10, ground := Ground.phase }, { on := 11, ground := Ground.phase }, { on := 12, ground := Ground.phase }, { on := 13, ground := Ground.phase }, { on := 14, ground := Ground.phase }, { on := 15, ground := Ground.phase }, { on := 16, ground := Ground.phase }, { on := 17, ground := Ground.phase }, { on := 18, ground := Ground.phase }, { on := 19, ground := Ground.phase }, { on := 20, ground := Ground.phase }], guard := none }) rfl (fun K hK => ?_) AllReadyH.nil)
        have hS3r13 := hS2r13.rowset (ds := #[.int .i64 o12, .int .i64 o13, .int .i64 o14, .int .i64 o15]) hle9 hne9
        refine wp_store_of 51 _ _ rfl (store_row 51 (cs := #[.int .i64 o8, .int .i64 o9, .int .i64 o10, .int .i64 o11]) (ds := #[.int .i64 o12, .int .i64 o13, .int .i64 o14, .int .i64 o15]) (by kernel_rfl) rfl (by simp [Value.oneCell']) hS2r13.hd) ?_
        refine hK.out _ _ ?_ (fun hHeld => ?_)
        · exact HP.out _ (hS3r13.tl)
        clear hK K
        try simp only [Act.put]
        refine wpAnyH_done (by kernel_rfl) ?_ _
        have h9 := hS3r13
        generalize World.setRow _ _ _ = w9 at *
        go_wp2_with fail
        exact ⟨.inr (.inr (.inr ⟨rfl, h9⟩)), by decide⟩
      · have hS := HS.out
        clear HS
        obtain ⟨_, _, _, _⟩ := St.rect hS (b := b9) (x0 := o12) (x1 := o13) (x2 := o14) (x3 := o15) (by simp)
        obtain ⟨_, _, _, _, _⟩ := St.b5 hS (b := b0 + 1 + 1) (x0 := 0) (x1 := 0) (x2 := 0) (x3 := 0) (x4 := 0) (t := 66) (by simp)
        have : ∀ j, _ = false := hS.frozen (b := b0 + 1 + 1) (cs := #[.int .i64 0, .int .i64 0, .int .i64 0, .int .i64 0, .int .i64 0]) (t := 66) (by simp)
        go_wp2
        subst z2 z3
        subst hb0; exact bodyPost_ret (v := .agg #[.int .i64 o12, .int .i64 o13, .int .i64 (d2 + 1), .int .i64 (d3 + 1), .int .i64 0]) (by simp [results, Try.results34, go_sem, *]) rfl ⟨rfl, below_set5 hS.below (by omega) _ _ _ _ _⟩
end Go.Proofs.Ytgipfcpkphmbpaa.F
