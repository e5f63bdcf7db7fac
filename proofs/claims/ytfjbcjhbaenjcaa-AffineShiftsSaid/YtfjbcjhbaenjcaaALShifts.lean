/-
  AffineShifts: for all small placements, shifting after a placement shifts the sampled pixels by the same amount. No conditions.
-/
import Derived.Test.YtfjbcjhbaenjcaaAOpen
namespace Go.Proofs.Ytfjbcjhbaenjcaa.F.ALShifts
open Go.ChangeShapes Go.WideShapes Go.ChangeAt Go.RowKit
set_option maxRecDepth 100000


set_option maxHeartbeats 8000000 in
set_option maxRecDepth 100000 in
theorem walk (q0 q1 q2 q3 q4 q5 q6 n0 n1 n2 n3 : Int) (w : World) : Calls Try.prog 11 #[.agg #[.int .i64 q0, .int .i64 q1, .int .i64 q2, .int .i64 q3, .int .i64 q4, .int .i64 q5, .int .i64 q6], .agg #[.int .i64 n0, .int .i64 n1, .int .i64 n2, .int .i64 n3]] w fun en w' => en = .returned (.bool true) ∧ Below w.heap.size w w' := by
  obtain ⟨s0, s1, s2, s3, s4, s5, s6, hsm⟩ : ∃ s0 s1 s2 s3 s4 s5 s6, sm7 q0 q1 q2 q3 q4 q5 q6 = ⟨s0, s1, s2, s3, s4, s5, s6⟩ := ⟨_, _, _, _, _, _, _, rfl⟩
  have hsl := sm7_sl q0 q1 q2 q3 q4 q5 q6
  rw [hsm] at hsl
  have HSM : Hid (∀ W, Calls Try.prog 14 #[.agg #[.int .i64 q0, .int .i64 q1, .int .i64 q2, .int .i64 q3, .int .i64 q4, .int .i64 q5, .int .i64 q6]] W fun en w' => en = .returned (av s0 s1 s2 s3 s4 s5 s6) ∧ Below W.heap.size W w') := fun W => by
    have := sm7_any q0 q1 q2 q3 q4 q5 q6 W; rw [hsm] at this; exact this
  clear hsm
  obtain ⟨x, hx⟩ : ∃ z, n0.tmod 100 = z := ⟨_, rfl⟩
  have bx : -100 < x ∧ x < 100 := by have := (tmod_bd n0 100).1 (by omega); rw [hx] at this; exact this
  obtain ⟨y, hy⟩ : ∃ z, n1.tmod 100 = z := ⟨_, rfl⟩
  have by' : -100 < y ∧ y < 100 := by have := (tmod_bd n1 100).1 (by omega); rw [hy] at this; exact this
  obtain ⟨u, hu⟩ : ∃ z, n2.tmod 200 = z := ⟨_, rfl⟩
  have bu : -200 < u ∧ u < 200 := by have := (tmod_bd n2 200).1 (by omega); rw [hu] at this; exact this
  obtain ⟨v, hv⟩ : ∃ z, n3.tmod 200 = z := ⟨_, rfl⟩
  have bv : -200 < v ∧ v < 200 := by have := (tmod_bd n3 200).1 (by omega); rw [hv] at this; exact this
  have hok : Ok ⟨s0, s1, s2, s3, s4, s5, s6⟩ := ⟨sl_bd hsl.1, hsl.2⟩
  have hos : Ok (shA x y) := ⟨by unfold Bd; simp only; omega, by simp [det]⟩
  have hoc : Ok (cmp ⟨s0, s1, s2, s3, s4, s5, s6⟩ (shA x y)) := by
    have hm : ∀ z : Int, -100 < z ∧ z < 100 → -400 ≤ z * s6 ∧ z * s6 ≤ 400 := fun z hz => by
      have := mul_le_of (x := z) (y := s6) (a := 100) (b := 4) (by omega) (by have := hsl.1.2.2.2.2.2.2; simp only at this; omega)
      omega
    have m1 := hm x bx
    have m2 := hm y by'
    have hl := hsl.1
    unfold Sl at hl
    simp only at hl
    refine ⟨?_, ?_⟩
    · unfold Bd cmp
      simp only [Int.one_mul, Int.zero_mul, Int.mul_one, Int.add_zero, Int.zero_add]
      generalize x * s6 = z1 at *
      generalize y * s6 = z2 at *
      omega
    · have : det (cmp ⟨s0, s1, s2, s3, s4, s5, s6⟩ (shA x y)) = det ⟨s0, s1, s2, s3, s4, s5, s6⟩ := by simp only [det, cmp]; grind
      rw [this]; exact hsl.2
  have h1 : thn ⟨s0, s1, s2, s3, s4, s5, s6⟩ (shA x y) = ⟨low (cmp ⟨s0, s1, s2, s3, s4, s5, s6⟩ (shA x y)), 0⟩ := by
    rw [thn_ok hok hos]
    unfold chk; rw [if_pos ((okA_iff _).2 (low_ok hoc))]
  have hlo := low_ok hoc
  have hc1 : inC u v = true := (has_iff _ _ _ _ _ _).2 (by omega)
  have hc2 : inC (u + x) (v + y) = true := (has_iff _ _ _ _ _ _).2 (by omega)
  have h2 : srcT ⟨s0, s1, s2, s3, s4, s5, s6⟩ u v = ⟨sx ⟨s0, s1, s2, s3, s4, s5, s6⟩ u v, sy ⟨s0, s1, s2, s3, s4, s5, s6⟩ u v, 0⟩ := by unfold srcT; rw [(okA_iff _).2 hok, hc1]; rfl
  have h3 : srcT (low (cmp ⟨s0, s1, s2, s3, s4, s5, s6⟩ (shA x y))) (u + x) (v + y) = ⟨sx ⟨s0, s1, s2, s3, s4, s5, s6⟩ u v, sy ⟨s0, s1, s2, s3, s4, s5, s6⟩ u v, 0⟩ := by
    unfold srcT; rw [(okA_iff _).2 hlo, hc2, (src_low hoc _ _).1, (src_low hoc _ _).2, (src_shift _ _ _ _ _).1, (src_shift _ _ _ _ _).2]; rfl
  obtain ⟨t0, t1, t2, t3, t4, t5, t6, ht⟩ : ∃ t0 t1 t2 t3 t4 t5 t6, low (cmp ⟨s0, s1, s2, s3, s4, s5, s6⟩ (shA x y)) = ⟨t0, t1, t2, t3, t4, t5, t6⟩ := ⟨_, _, _, _, _, _, _, rfl⟩
  rw [ht] at h1 h3
  generalize sx ⟨s0, s1, s2, s3, s4, s5, s6⟩ u v = X at h2 h3
  generalize sy ⟨s0, s1, s2, s3, s4, s5, s6⟩ u v = Y at h2 h3
  have HT : Hid (∀ W, Calls Try.prog 25 #[av s0 s1 s2 s3 s4 s5 s6, av 1 0 x 0 1 y 1] W fun en w' => en = .returned (.tuple #[av t0 t1 t2 t3 t4 t5 t6, .int .i64 0]) ∧ Below W.heap.size W w') := fun W => by
    have := then_any s0 s1 s2 s3 s4 s5 s6 1 0 x 0 1 y 1 W; rw [h1] at this; exact this
  have HA : Hid (∀ W, Calls Try.prog 30 #[av s0 s1 s2 s3 s4 s5 s6, tv u v] W fun en w' => en = .returned (.tuple #[tv X Y, .int .i64 0]) ∧ Below W.heap.size W w') := fun W => by
    have := sourceT_any s0 s1 s2 s3 s4 s5 s6 u v W; rw [h2] at this; exact this
  have HB : Hid (∀ W, Calls Try.prog 30 #[av t0 t1 t2 t3 t4 t5 t6, tv (u + x) (v + y)] W fun en w' => en = .returned (.tuple #[tv X Y, .int .i64 0]) ∧ Below W.heap.size W w') := fun W => by
    have := sourceT_any t0 t1 t2 t3 t4 t5 t6 (u + x) (v + y) W; rw [h3] at this; exact this
  have e1 : wrap64 (u + x) = u + x := w64 ⟨by omega, by omega⟩
  have e2 : wrap64 (v + y) = v + y := w64 ⟨by omega, by omega⟩
  clear hsl hok hos hoc h1 h2 h3 hlo hc1 hc2 ht bx by' bu bv
  go_enter Try.func11, Try.ntmps11
  go_upto_region 1 with fail
  have h0 := (((St.start w).alloc ((.cells #[.int .i64 q0, .int .i64 q1, .int .i64 q2, .int .i64 q3, .int .i64 q4, .int .i64 q5, .int .i64 q6] 26 : Obj))).alloc ((.cells #[.int .i64 n0, .int .i64 n1, .int .i64 n2, .int .i64 n3] 55 : Obj)))
  try simp only [World.size_alloc] at h0
  generalize hb0 : w.heap.size = b0 at h0 ⊢
  generalize (w.alloc ((.cells #[.int .i64 q0, .int .i64 q1, .int .i64 q2, .int .i64 q3, .int .i64 q4, .int .i64 q5, .int .i64 q6] 26 : Obj))).alloc ((.cells #[.int .i64 n0, .int .i64 n1, .int .i64 n2, .int .i64 n3] 55 : Obj)) = w0 at h0 ⊢
  go_upto_region 2 with (first | (go_at_call 13; (with_reducible refine (St.call h0 (sane_any _)).mono ?_); rintro en w1 ⟨rfl, h1⟩))
  have zh10 := St.cell h1 (b := b0) (cs := #[.int .i64 q0, .int .i64 q1, .int .i64 q2, .int .i64 q3, .int .i64 q4, .int .i64 q5, .int .i64 q6]) (t := 26) (by simp) 0; have zh11 := St.cell h1 (b := b0) (cs := #[.int .i64 q0, .int .i64 q1, .int .i64 q2, .int .i64 q3, .int .i64 q4, .int .i64 q5, .int .i64 q6]) (t := 26) (by simp) 1; have zh12 := St.cell h1 (b := b0) (cs := #[.int .i64 q0, .int .i64 q1, .int .i64 q2, .int .i64 q3, .int .i64 q4, .int .i64 q5, .int .i64 q6]) (t := 26) (by simp) 2; have zh13 := St.cell h1 (b := b0) (cs := #[.int .i64 q0, .int .i64 q1, .int .i64 q2, .int .i64 q3, .int .i64 q4, .int .i64 q5, .int .i64 q6]) (t := 26) (by simp) 3; have zh14 := St.cell h1 (b := b0) (cs := #[.int .i64 q0, .int .i64 q1, .int .i64 q2, .int .i64 q3, .int .i64 q4, .int .i64 q5, .int .i64 q6]) (t := 26) (by simp) 4; have zh15 := St.cell h1 (b := b0) (cs := #[.int .i64 q0, .int .i64 q1, .int .i64 q2, .int .i64 q3, .int .i64 q4, .int .i64 q5, .int .i64 q6]) (t := 26) (by simp) 5; have zh16 := St.cell h1 (b := b0) (cs := #[.int .i64 q0, .int .i64 q1, .int .i64 q2, .int .i64 q3, .int .i64 q4, .int .i64 q5, .int .i64 q6]) (t := 26) (by simp) 6; simp only [List.getElem?_toArray, List.getElem?_cons_zero, List.getElem?_cons_succ] at zh10 zh11 zh12 zh13 zh14 zh15 zh16
  go_upto_region 3 with (first | (go_at_call 14; (with_reducible refine (St.call h1 (HSM.out _)).mono ?_); rintro en w2 ⟨rfl, h2⟩))
  have h3 := h2.alloc (ao s0 s1 s2 s3 s4 s5 s6)
  generalize w2.heap.size = c1 at h3 ⊢
  generalize w2.alloc (ao s0 s1 s2 s3 s4 s5 s6) = w3 at h3 ⊢
  have zh30 := St.cell h3 (b := b0 + 1) (cs := #[.int .i64 n0, .int .i64 n1, .int .i64 n2, .int .i64 n3]) (t := 55) (by simp) 0; have zh31 := St.cell h3 (b := b0 + 1) (cs := #[.int .i64 n0, .int .i64 n1, .int .i64 n2, .int .i64 n3]) (t := 55) (by simp) 1; have zh32 := St.cell h3 (b := b0 + 1) (cs := #[.int .i64 n0, .int .i64 n1, .int .i64 n2, .int .i64 n3]) (t := 55) (by simp) 2; have zh33 := St.cell h3 (b := b0 + 1) (cs := #[.int .i64 n0, .int .i64 n1, .int .i64 n2, .int .i64 n3]) (t := 55) (by simp) 3; simp only [List.getElem?_toArray, List.getElem?_cons_zero, List.getElem?_cons_succ] at zh30 zh31 zh32 zh33
  go_upto_region 5 with fail
  have HP : Hid (∀ V9, St w [(c1, ao s0 s1 s2 s3 s4 s5 s6), (b0 + 1, (.cells #[.int .i64 n0, .int .i64 n1, .int .i64 n2, .int .i64 n3] 55 : Obj)), (b0, (.cells #[.int .i64 q0, .int .i64 q1, .int .i64 q2, .int .i64 q3, .int .i64 q4, .int .i64 q5, .int .i64 q6] 26 : Obj))] V9 → St w [(c1, ao s0 s1 s2 s3 s4 s5 s6), (b0 + 1, (.cells #[.int .i64 n0, .int .i64 n1, .int .i64 n2, .int .i64 n3] 55 : Obj)), (b0, (.cells #[.int .i64 q0, .int .i64 q1, .int .i64 q2, .int .i64 q3, .int .i64 q4, .int .i64 q5, .int .i64 q6] 26 : Obj))] V9 ∧ AB V9 c1 s0 s1 s2 s3 s4 s5 s6) := fun V hV => ⟨hV, St.aff hV (by simp)⟩
  go_cut [9, 10] (fun v9 v10 wx => ∃ b9, v9 = .pointer (some ⟨b9, 0, none⟩) ∧ v10 = .int .i64 0 ∧ Hid (St w ((b9, ao t0 t1 t2 t3 t4 t5 t6) :: [(c1, ao s0 s1 s2 s3 s4 s5 s6), (b0 + 1, (.cells #[.int .i64 n0, .int .i64 n1, .int .i64 n2, .int .i64 n3] 55 : Obj)), (b0, (.cells #[.int .i64 q0, .int .i64 q1, .int .i64 q2, .int .i64 q3, .int .i64 q4, .int .i64 q5, .int .i64 q6] 26 : Obj))]) wx))
  case first =>
    refine wp_region_held_drew (S := fun V9 => St w [(c1, ao s0 s1 s2 s3 s4 s5 s6), (b0 + 1, (.cells #[.int .i64 n0, .int .i64 n1, .int .i64 n2, .int .i64 n3] 55 : Obj)), (b0, (.cells #[.int .i64 q0, .int .i64 q1, .int .i64 q2, .int .i64 q3, .int .i64 q4, .int .i64 q5, .int .i64 q6] 26 : Obj))] V9 ∧ AB V9 c1 s0 s1 s2 s3 s4 s5 s6) (by kernel_rfl) ?_ (fun hHeld => ?_)
    · exact HP.out _ (h3.drew)
    have h30 := h3.drew
    refine wpAnyH_take (i := 0) (oi := { dst := some 26, op := Op.load 23 (Operand.tmp 6), type := 23, pos := "law.go:186", after := #[], guard := none }) (v := ?_) rfl (by kernel_rfl) (by kernel_rfl) (by kernel_rfl) (fun _ _ _ h => h) (Or.inl ⟨by kernel_rfl, ?_⟩) (by assumption) ?_
    rotate_left 1
    focus (intro w hSw; (try dsimp only at hSw); go_simp; (try with_reducible rfl))
    try simp only [Act.put, List.setIfInBounds_toArray, List.set_cons_zero, List.set_cons_succ]
    refine wpAnyH_take (i := 1) (oi := { dst := some 27, op := Op.move (Operand.tmp 7), type := 3, pos := "law.go:186", after := #[], guard := none }) (v := ?_) rfl (by kernel_rfl) (by kernel_rfl) (by kernel_rfl) (fun _ _ _ h => h) (Or.inl ⟨by kernel_rfl, ?_⟩) (by assumption) ?_
    rotate_left 1
    focus (intro w hSw; (try dsimp only at hSw); go_simp; (try with_reducible rfl))
    try simp only [Act.put, List.setIfInBounds_toArray, List.set_cons_zero, List.set_cons_succ]
    refine wpAnyH_take (i := 2) (oi := { dst := some 28, op := Op.move (Operand.tmp 8), type := 3, pos := "law.go:186", after := #[], guard := none }) (v := ?_) rfl (by kernel_rfl) (by kernel_rfl) (by kernel_rfl) (fun _ _ _ h => h) (Or.inl ⟨by kernel_rfl, ?_⟩) (by assumption) ?_
    rotate_left 1
    focus (intro w hSw; (try dsimp only at hSw); go_simp; (try with_reducible rfl))
    try simp only [Act.put, List.setIfInBounds_toArray, List.set_cons_zero, List.set_cons_succ]
    refine wpAnyH_ready (rs := [3, 8]) (by kernel_rfl) (by simp) (AllReadyH.cons (o := { dst := some 29, op := Op.call { callee := Callee.value (Operand.func 22), args := #[Operand.tmp 27, Operand.tmp 28], argTypes := #[3, 3] }, type := 23, pos := "law.go:186", after := #[{ on := 1, ground := Ground.data }, { on := 2, ground := Ground.data }], guard := none }) rfl (fun K hK => ?_) (AllReadyH.cons (o := { dst := some 9, op := Op.alloc 23, type := 0, pos := "law.go:186", after := #[], guard := none }) rfl (fun K hK => ?_) AllReadyH.nil))
    · (go_simp; (go_at_call 22; (refine (St.call h30 (shift_any x y _)).mono ?_); rintro e V1r5 ⟨rfl, h31r5⟩))
      refine hK.out _ _ ?_ (fun hHeld => ?_)
      · exact HP.out _ (h31r5)
      clear hK K
      try simp only [Act.put, List.setIfInBounds_toArray, List.set_cons_zero, List.set_cons_succ]
      refine wpAnyH_ready (rs := [4, 8]) (by kernel_rfl) (by simp) (AllReadyH.cons (o := { dst := some 30, op := Op.call { callee := Callee.value (Operand.func 25), args := #[Operand.tmp 26, Operand.tmp 29], argTypes := #[23, 23] }, type := 40, pos := "law.go:186", after := #[{ on := 0, ground := Ground.data }, { on := 3, ground := Ground.data }, { on := 3, ground := Ground.chain }], guard := none }) rfl (fun K hK => ?_) (AllReadyH.cons (o := { dst := some 9, op := Op.alloc 23, type := 0, pos := "law.go:186", after := #[], guard := none }) rfl (fun K hK => ?_) AllReadyH.nil))
      · (go_simp; (go_at_call 25; (refine (St.call h31r5 (HT.out _)).mono ?_); rintro e V2r5 ⟨rfl, h32r5⟩))
        refine hK.out _ _ ?_ (fun hHeld => ?_)
        · exact HP.out _ (h32r5)
        clear hK K
        try simp only [Act.put, List.setIfInBounds_toArray, List.set_cons_zero, List.set_cons_succ]
        refine wpAnyH_take (i := 5) (oi := { dst := some 25, op := Op.move (Operand.tmp 30), type := 40, pos := "law.go:186", after := #[{ on := 4, ground := Ground.data }], guard := none }) (v := ?_) rfl (by kernel_rfl) (by kernel_rfl) (by kernel_rfl) (fun _ _ _ h => h) (Or.inl ⟨by kernel_rfl, ?_⟩) (by assumption) ?_
        rotate_left 1
        focus (intro w hSw; (try dsimp only at hSw); go_simp; (try with_reducible rfl))
        try simp only [Act.put, List.setIfInBounds_toArray, List.set_cons_zero, List.set_cons_succ]
        refine wpAnyH_take (i := 6) (oi := { dst := some 31, op := Op.extract (Operand.tmp 25) 0, type := 23, pos := "law.go:186", after := #[{ on := 5, ground := Ground.data }], guard := none }) (v := ?_) rfl (by kernel_rfl) (by kernel_rfl) (by kernel_rfl) (fun _ _ _ h => h) (Or.inl ⟨by kernel_rfl, ?_⟩) (by assumption) ?_
        rotate_left 1
        focus (intro w hSw; (try dsimp only at hSw); go_simp; (try with_reducible rfl))
        try simp only [Act.put, List.setIfInBounds_toArray, List.set_cons_zero, List.set_cons_succ]
        refine wpAnyH_take (i := 7) (oi := { dst := some 32, op := Op.extract (Operand.tmp 25) 1, type := 39, pos := "law.go:186", after := #[{ on := 5, ground := Ground.data }, { on := 9, ground := Ground.gcOnly Departure.lateStores }], guard := none }) (v := ?_) rfl (by kernel_rfl) (by kernel_rfl) (by kernel_rfl) (fun _ _ _ h => h) (Or.inl ⟨by kernel_rfl, ?_⟩) (by assumption) ?_
        rotate_left 1
        focus (intro w hSw; (try dsimp only at hSw); go_simp; (try with_reducible rfl))
        try simp only [Act.put, List.setIfInBounds_toArray, List.set_cons_zero, List.set_cons_succ]
        refine wpAnyH_ready (rs := [8]) (by kernel_rfl) (by simp) (AllReadyH.cons (o := { dst := some 9, op := Op.alloc 23, type := 0, pos := "law.go:186", after := #[], guard := none }) rfl (fun K hK => ?_) AllReadyH.nil)
        have hne8r5 := h32r5.ne
        have hle8r5 := h32r5.below.size
        have hlt8r5 := fun (b : Nat) (o : Obj) (hm : (b, o) ∈ _) => h32r5.lt hm
        have h33r5 := h32r5.alloc (.cells #[.int .i64 0, .int .i64 0, .int .i64 0, .int .i64 0, .int .i64 0, .int .i64 0, .int .i64 0] 23)
        refine wp_alloc_of 23 rfl _ (zero_aff _) ?_
        refine hK.out _ _ ?_ (fun hHeld => ?_)
        · exact HP.out _ (h33r5.tl)
        clear hK K
        try simp only [Act.put, List.setIfInBounds_toArray, List.set_cons_zero, List.set_cons_succ]
        refine wpAnyH_ready (rs := [9]) (by kernel_rfl) (by simp) (AllReadyH.cons (o := { dst := none, op := Op.store 23 (Operand.tmp 9) (Operand.tmp 31), type := 0, pos := "law.go:186", after := #[{ on := 8, ground := Ground.data }, { on := 6, ground := Ground.data }, { on := 4, ground := Ground.chain }, { on := 0, ground := Ground.phase }, { on := 1, ground := Ground.phase }, { on := 2, ground := Ground.phase }, { on := 3, ground := Ground.phase }, { on := 4, ground := Ground.phase }, { on := 5, ground := Ground.phase }, { on := 6, ground := Ground.phase }, { on := 7, ground := Ground.textOnly Departure.lateStores }, { on := 8, ground := Ground.phase }], guard := none }) rfl (fun K hK => ?_) AllReadyH.nil)
        have h34r5 := h33r5.rowset (ds := #[.int .i64 t0, .int .i64 t1, .int .i64 t2, .int .i64 t3, .int .i64 t4, .int .i64 t5, .int .i64 t6]) hle8r5 hne8r5
        refine wp_store_of 23 _ _ rfl (store_row 23 (cs := #[.int .i64 0, .int .i64 0, .int .i64 0, .int .i64 0, .int .i64 0, .int .i64 0, .int .i64 0]) (ds := #[.int .i64 t0, .int .i64 t1, .int .i64 t2, .int .i64 t3, .int .i64 t4, .int .i64 t5, .int .i64 t6]) (by kernel_rfl) rfl (by simp [Value.oneCell']) h33r5.hd) ?_
        refine hK.out _ _ ?_ (fun hHeld => ?_)
        · exact HP.out _ (h34r5.tl)
        clear hK K
        try simp only [Act.put]
        refine wpAnyH_take (i := 10) (oi := { dst := some 10, op := Op.assign (Operand.tmp 32), type := 39, pos := "law.go:186", after := #[{ on := 7, ground := Ground.data }, { on := 9, ground := Ground.chain }, { on := 0, ground := Ground.phase }, { on := 1, ground := Ground.phase }, { on := 2, ground := Ground.phase }, { on := 3, ground := Ground.phase }, { on := 4, ground := Ground.phase }, { on := 5, ground := Ground.phase }, { on := 6, ground := Ground.phase }, { on := 7, ground := Ground.phase }, { on := 8, ground := Ground.phase }, { on := 9, ground := Ground.phase }], guard := none }) (v := ?_) rfl (by kernel_rfl) (by kernel_rfl) (by kernel_rfl) (fun _ _ _ h => h) (Or.inl ⟨by kernel_rfl, ?_⟩) (by assumption) ?_
        rotate_left 1
        focus (intro w hSw; (try dsimp only at hSw); go_simp; (try with_reducible rfl))
        try simp only [Act.put, List.setIfInBounds_toArray, List.set_cons_zero, List.set_cons_succ]
        refine wpAnyH_done (by kernel_rfl) ?_ _
        have h9 := h34r5
        go_wp2_with fail
        go_meet
        case rel => exact ⟨_, rfl, rfl, h9⟩
      · have hne8r5 := h31r5.ne
        have hle8r5 := h31r5.below.size
        have hlt8r5 := fun (b : Nat) (o : Obj) (hm : (b, o) ∈ _) => h31r5.lt hm
        have h35r5 := h31r5.alloc (.cells #[.int .i64 0, .int .i64 0, .int .i64 0, .int .i64 0, .int .i64 0, .int .i64 0, .int .i64 0] 23)
        refine wp_alloc_of 23 rfl _ (zero_aff _) ?_
        refine hK.out _ _ ?_ (fun hHeld => ?_)
        · exact HP.out _ (h35r5.tl)
        clear hK K
        try simp only [Act.put, List.setIfInBounds_toArray, List.set_cons_zero, List.set_cons_succ]
        refine wpAnyH_ready (rs := [4]) (by kernel_rfl) (by simp) (AllReadyH.cons (o := { dst := some 30, op := Op.call { callee := Callee.value (Operand.func 25), args := #[Operand.tmp 26, Operand.tmp 29], argTypes := #[23, 23] }, type := 40, pos := "law.go:186", after := #[{ on := 0, ground := Ground.data }, { on := 3, ground := Ground.data }, { on := 3, ground := Ground.chain }], guard := none }) rfl (fun K hK => ?_) AllReadyH.nil)
        (go_simp; (go_at_call 25; (refine (St.call h35r5 (HT.out _)).mono ?_); rintro e V6r5 ⟨rfl, h36r5⟩))
        refine hK.out _ _ ?_ (fun hHeld => ?_)
        · exact HP.out _ (h36r5.tl)
        clear hK K
        try simp only [Act.put, List.setIfInBounds_toArray, List.set_cons_zero, List.set_cons_succ]
        refine wpAnyH_take (i := 5) (oi := { dst := some 25, op := Op.move (Operand.tmp 30), type := 40, pos := "law.go:186", after := #[{ on := 4, ground := Ground.data }], guard := none }) (v := ?_) rfl (by kernel_rfl) (by kernel_rfl) (by kernel_rfl) (fun _ _ _ h => h) (Or.inl ⟨by kernel_rfl, ?_⟩) (by assumption) ?_
        rotate_left 1
        focus (intro w hSw; (try dsimp only at hSw); go_simp; (try with_reducible rfl))
        try simp only [Act.put, List.setIfInBounds_toArray, List.set_cons_zero, List.set_cons_succ]
        refine wpAnyH_take (i := 6) (oi := { dst := some 31, op := Op.extract (Operand.tmp 25) 0, type := 23, pos := "law.go:186", after := #[{ on := 5, ground := Ground.data }], guard := none }) (v := ?_) rfl (by kernel_rfl) (by kernel_rfl) (by kernel_rfl) (fun _ _ _ h => h) (Or.inl ⟨by kernel_rfl, ?_⟩) (by assumption) ?_
        rotate_left 1
        focus (intro w hSw; (try dsimp only at hSw); go_simp; (try with_reducible rfl))
        try simp only [Act.put, List.setIfInBounds_toArray, List.set_cons_zero, List.set_cons_succ]
        refine wpAnyH_take (i := 7) (oi := { dst := some 32, op := Op.extract (Operand.tmp 25) 1, type := 39, pos := "law.go:186", after := #[{ on := 5, ground := Ground.data }, { on := 9, ground := Ground.gcOnly Departure.lateStores }], guard := none }) (v := ?_) rfl (by kernel_rfl) (by kernel_rfl) (by kernel_rfl) (fun _ _ _ h => h) (Or.inl ⟨by kernel_rfl, ?_⟩) (by assumption) ?_
        rotate_left 1
        focus (intro w hSw; (try dsimp only at hSw); go_simp; (try with_reducible rfl))
        try simp only [Act.put, List.setIfInBounds_toArray, List.set_cons_zero, List.set_cons_succ]
        refine wpAnyH_ready (rs := [9]) (by kernel_rfl) (by simp) (AllReadyH.cons (o := { dst := none, op := Op.store 23 (Operand.tmp 9) (Operand.tmp 31), type := 0, pos := "law.go:186", after := #[{ on := 8, ground := Ground.data }, { on := 6, ground := Ground.data }, { on := 4, ground := Ground.chain }, { on := 0, ground := Ground.phase }, { on := 1, ground := Ground.phase }, { on := 2, ground := Ground.phase }, { on := 3, ground := Ground.phase }, { on := 4, ground := Ground.phase }, { on := 5, ground := Ground.phase }, { on := 6, ground := Ground.phase }, { on := 7, ground := Ground.textOnly Departure.lateStores }, { on := 8, ground := Ground.phase }], guard := none }) rfl (fun K hK => ?_) AllReadyH.nil)
        have h37r5 := h36r5.rowset (ds := #[.int .i64 t0, .int .i64 t1, .int .i64 t2, .int .i64 t3, .int .i64 t4, .int .i64 t5, .int .i64 t6]) hle8r5 hne8r5
        refine wp_store_of 23 _ _ rfl (store_row 23 (cs := #[.int .i64 0, .int .i64 0, .int .i64 0, .int .i64 0, .int .i64 0, .int .i64 0, .int .i64 0]) (ds := #[.int .i64 t0, .int .i64 t1, .int .i64 t2, .int .i64 t3, .int .i64 t4, .int .i64 t5, .int .i64 t6]) (by kernel_rfl) rfl (by simp [Value.oneCell']) h36r5.hd) ?_
        refine hK.out _ _ ?_ (fun hHeld => ?_)
        · exact HP.out _ (h37r5.tl)
        clear hK K
        try simp only [Act.put]
        refine wpAnyH_take (i := 10) (oi := { dst := some 10, op := Op.assign (Operand.tmp 32), type := 39, pos := "law.go:186", after := #[{ on := 7, ground := Ground.data }, { on := 9, ground := Ground.chain }, { on := 0, ground := Ground.phase }, { on := 1, ground := Ground.phase }, { on := 2, ground := Ground.phase }, { on := 3, ground := Ground.phase }, { on := 4, ground := Ground.phase }, { on := 5, ground := Ground.phase }, { on := 6, ground := Ground.phase }, { on := 7, ground := Ground.phase }, { on := 8, ground := Ground.phase }, { on := 9, ground := Ground.phase }], guard := none }) (v := ?_) rfl (by kernel_rfl) (by kernel_rfl) (by kernel_rfl) (fun _ _ _ h => h) (Or.inl ⟨by kernel_rfl, ?_⟩) (by assumption) ?_
        rotate_left 1
        focus (intro w hSw; (try dsimp only at hSw); go_simp; (try with_reducible rfl))
        try simp only [Act.put, List.setIfInBounds_toArray, List.set_cons_zero, List.set_cons_succ]
        refine wpAnyH_done (by kernel_rfl) ?_ _
        have h9 := h37r5
        go_wp2_with fail
        go_meet
        case rel => exact ⟨_, rfl, rfl, h9⟩
    · have hne8r5 := h30.ne
      have hle8r5 := h30.below.size
      have hlt8r5 := fun (b : Nat) (o : Obj) (hm : (b, o) ∈ _) => h30.lt hm
      have h38r5 := h30.alloc (.cells #[.int .i64 0, .int .i64 0, .int .i64 0, .int .i64 0, .int .i64 0, .int .i64 0, .int .i64 0] 23)
      refine wp_alloc_of 23 rfl _ (zero_aff _) ?_
      refine hK.out _ _ ?_ (fun hHeld => ?_)
      · exact HP.out _ (h38r5.tl)
      clear hK K
      try simp only [Act.put, List.setIfInBounds_toArray, List.set_cons_zero, List.set_cons_succ]
      refine wpAnyH_ready (rs := [3]) (by kernel_rfl) (by simp) (AllReadyH.cons (o := { dst := some 29, op := Op.call { callee := Callee.value (Operand.func 22), args := #[Operand.tmp 27, Operand.tmp 28], argTypes := #[3, 3] }, type := 23, pos := "law.go:186", after := #[{ on := 1, ground := Ground.data }, { on := 2, ground := Ground.data }], guard := none }) rfl (fun K hK => ?_) AllReadyH.nil)
      (go_simp; (go_at_call 22; (refine (St.call h38r5 (shift_any x y _)).mono ?_); rintro e V9r5 ⟨rfl, h39r5⟩))
      refine hK.out _ _ ?_ (fun hHeld => ?_)
      · exact HP.out _ (h39r5.tl)
      clear hK K
      try simp only [Act.put, List.setIfInBounds_toArray, List.set_cons_zero, List.set_cons_succ]
      refine wpAnyH_ready (rs := [4]) (by kernel_rfl) (by simp) (AllReadyH.cons (o := { dst := some 30, op := Op.call { callee := Callee.value (Operand.func 25), args := #[Operand.tmp 26, Operand.tmp 29], argTypes := #[23, 23] }, type := 40, pos := "law.go:186", after := #[{ on := 0, ground := Ground.data }, { on := 3, ground := Ground.data }, { on := 3, ground := Ground.chain }], guard := none }) rfl (fun K hK => ?_) AllReadyH.nil)
      (go_simp; (go_at_call 25; (refine (St.call h39r5 (HT.out _)).mono ?_); rintro e V10r5 ⟨rfl, h310r5⟩))
      refine hK.out _ _ ?_ (fun hHeld => ?_)
      · exact HP.out _ (h310r5.tl)
      clear hK K
      try simp only [Act.put, List.setIfInBounds_toArray, List.set_cons_zero, List.set_cons_succ]
      refine wpAnyH_take (i := 5) (oi := { dst := some 25, op := Op.move (Operand.tmp 30), type := 40, pos := "law.go:186", after := #[{ on := 4, ground := Ground.data }], guard := none }) (v := ?_) rfl (by kernel_rfl) (by kernel_rfl) (by kernel_rfl) (fun _ _ _ h => h) (Or.inl ⟨by kernel_rfl, ?_⟩) (by assumption) ?_
      rotate_left 1
      focus (intro w hSw; (try dsimp only at hSw); go_simp; (try with_reducible rfl))
      try simp only [Act.put, List.setIfInBounds_toArray, List.set_cons_zero, List.set_cons_succ]
      refine wpAnyH_take (i := 6) (oi := { dst := some 31, op := Op.extract (Operand.tmp 25) 0, type := 23, pos := "law.go:186", after := #[{ on := 5, ground := Ground.data }], guard := none }) (v := ?_) rfl (by kernel_rfl) (by kernel_rfl) (by kernel_rfl) (fun _ _ _ h => h) (Or.inl ⟨by kernel_rfl, ?_⟩) (by assumption) ?_
      rotate_left 1
      focus (intro w hSw; (try dsimp only at hSw); go_simp; (try with_reducible rfl))
      try simp only [Act.put, List.setIfInBounds_toArray, List.set_cons_zero, List.set_cons_succ]
      refine wpAnyH_take (i := 7) (oi := { dst := some 32, op := Op.extract (Operand.tmp 25) 1, type := 39, pos := "law.go:186", after := #[{ on := 5, ground := Ground.data }, { on := 9, ground := Ground.gcOnly Departure.lateStores }], guard := none }) (v := ?_) rfl (by kernel_rfl) (by kernel_rfl) (by kernel_rfl) (fun _ _ _ h => h) (Or.inl ⟨by kernel_rfl, ?_⟩) (by assumption) ?_
      rotate_left 1
      focus (intro w hSw; (try dsimp only at hSw); go_simp; (try with_reducible rfl))
      try simp only [Act.put, List.setIfInBounds_toArray, List.set_cons_zero, List.set_cons_succ]
      refine wpAnyH_ready (rs := [9]) (by kernel_rfl) (by simp) (AllReadyH.cons (o := { dst := none, op := Op.store 23 (Operand.tmp 9) (Operand.tmp 31), type := 0, pos := "law.go:186", after := #[{ on := 8, ground := Ground.data }, { on := 6, ground := Ground.data }, { on := 4, ground := Ground.chain }, { on := 0, ground := Ground.phase }, { on := 1, ground := Ground.phase }, { on := 2, ground := Ground.phase }, { on := 3, ground := Ground.phase }, { on := 4, ground := Ground.phase }, { on := 5, ground := Ground.phase }, { on := 6, ground := Ground.phase }, { on := 7, ground := Ground.textOnly Departure.lateStores }, { on := 8, ground := Ground.phase }], guard := none }) rfl (fun K hK => ?_) AllReadyH.nil)
      have h311r5 := h310r5.rowset (ds := #[.int .i64 t0, .int .i64 t1, .int .i64 t2, .int .i64 t3, .int .i64 t4, .int .i64 t5, .int .i64 t6]) hle8r5 hne8r5
      refine wp_store_of 23 _ _ rfl (store_row 23 (cs := #[.int .i64 0, .int .i64 0, .int .i64 0, .int .i64 0, .int .i64 0, .int .i64 0, .int .i64 0]) (ds := #[.int .i64 t0, .int .i64 t1, .int .i64 t2, .int .i64 t3, .int .i64 t4, .int .i64 t5, .int .i64 t6]) (by kernel_rfl) rfl (by simp [Value.oneCell']) h310r5.hd) ?_
      refine hK.out _ _ ?_ (fun hHeld => ?_)
      · exact HP.out _ (h311r5.tl)
      clear hK K
      try simp only [Act.put]
      refine wpAnyH_take (i := 10) (oi := { dst := some 10, op := Op.assign (Operand.tmp 32), type := 39, pos := "law.go:186", after := #[{ on := 7, ground := Ground.data }, { on := 9, ground := Ground.chain }, { on := 0, ground := Ground.phase }, { on := 1, ground := Ground.phase }, { on := 2, ground := Ground.phase }, { on := 3, ground := Ground.phase }, { on := 4, ground := Ground.phase }, { on := 5, ground := Ground.phase }, { on := 6, ground := Ground.phase }, { on := 7, ground := Ground.phase }, { on := 8, ground := Ground.phase }, { on := 9, ground := Ground.phase }], guard := none }) (v := ?_) rfl (by kernel_rfl) (by kernel_rfl) (by kernel_rfl) (fun _ _ _ h => h) (Or.inl ⟨by kernel_rfl, ?_⟩) (by assumption) ?_
      rotate_left 1
      focus (intro w hSw; (try dsimp only at hSw); go_simp; (try with_reducible rfl))
      try simp only [Act.put, List.setIfInBounds_toArray, List.set_cons_zero, List.set_cons_succ]
      refine wpAnyH_done (by kernel_rfl) ?_ _
      have h9 := h311r5
      go_wp2_with fail
      go_meet
      case rel => exact ⟨_, rfl, rfl, h9⟩
  case rest =>
    obtain ⟨b9, rfl, rfl, HQ⟩ := hcut
    clear h0 HP
    have h20 := HQ.out
    clear HQ
    have zh200 := St.cell h20 (b := b0 + 1) (cs := #[.int .i64 n0, .int .i64 n1, .int .i64 n2, .int .i64 n3]) (t := 55) (by simp) 0; have zh201 := St.cell h20 (b := b0 + 1) (cs := #[.int .i64 n0, .int .i64 n1, .int .i64 n2, .int .i64 n3]) (t := 55) (by simp) 1; have zh202 := St.cell h20 (b := b0 + 1) (cs := #[.int .i64 n0, .int .i64 n1, .int .i64 n2, .int .i64 n3]) (t := 55) (by simp) 2; have zh203 := St.cell h20 (b := b0 + 1) (cs := #[.int .i64 n0, .int .i64 n1, .int .i64 n2, .int .i64 n3]) (t := 55) (by simp) 3; simp only [List.getElem?_toArray, List.getElem?_cons_zero, List.getElem?_cons_succ] at zh200 zh201 zh202 zh203
    go_upto_region 7 with fail
    have h21 := h20.alloc (pob u v)
    generalize wc.heap.size = c6 at h21 ⊢
    generalize wc.alloc (pob u v) = w21 at h21 ⊢
    obtain ⟨_, _, _, _, _, _, _⟩ := St.aff h21 (b := c1) (a := s0) (b' := s1) (c := s2) (d := s3) (e := s4) (f := s5) (n := s6) (by simp)
    obtain ⟨_, _⟩ := St.pt h21 (b := c6) (x := u) (y := v) (by simp)
    go_upto_region 8 with (first | (go_at_call 30; (with_reducible refine (St.call h21 (HA.out _)).mono ?_); rintro en w22 ⟨rfl, h22⟩))
    have h23 := h22.alloc (pob X Y)
    generalize w22.heap.size = c7 at h23 ⊢
    generalize w22.alloc (pob X Y) = w23 at h23 ⊢
    obtain ⟨_, _, _, _, _, _, _⟩ := St.aff h23 (b := b9) (a := t0) (b' := t1) (c := t2) (d := t3) (e := t4) (f := t5) (n := t6) (by simp)
    obtain ⟨_, _⟩ := St.pt h23 (b := c6) (x := u) (y := v) (by simp)
    go_upto_region 9 with (first | (go_at_call 30; (with_reducible refine (St.call h23 (HB.out _)).mono ?_); rintro en w24 ⟨rfl, h24⟩))
    have h25 := h24.alloc (pob X Y)
    generalize w24.heap.size = c8 at h25 ⊢
    generalize w24.alloc (pob X Y) = w25 at h25 ⊢
    obtain ⟨_, _⟩ := St.pt h25 (b := c7) (x := X) (y := Y) (by simp)
    obtain ⟨_, _⟩ := St.pt h25 (b := c8) (x := X) (y := Y) (by simp)
    go_wp2
    go_ret
    subst hb0
    exact ⟨rfl, h25.below⟩

set_option maxRecDepth 100000 in
theorem lifted (os : Os) (started : os.Started) (H : Type) (enc : TypeId × Value → H) :
    ReturnsInHanded {} Try.checked os 11 .any (Rows.affineShiftsSpec.pre6 enc Try.prog Try.f11 Rows.affineShiftsRow.domain false) (Rows.affineShiftsSpec.post enc Try.prog Try.f11 false true false false) := by
  refine returnsInHanded_of_change_sized (C := Try.checked) own started (by kernel_rfl) Try.func11
    (ChangeSpec.witness6 (enc := enc) (C := Try.checked) false ⟨#[], #[.agg #[.int .i64 0, .int .i64 0, .int .i64 0, .int .i64 0, .int .i64 0, .int .i64 0, .int .i64 0], .agg #[.int .i64 0, .int .i64 0, .int .i64 0, .int .i64 0]], []⟩ 8 (by kernel_rfl) (by kernel_rfl) (by kernel_rfl) (by kernel_rfl)) ?_
  intro W base args ds gs before hval0 hW _ _ _
  have hval : ∀ (j : Nat) t v, Try.f11.params[j]? = some t → args[j]? = some v → Value.okWide Try.prog W .any base t v := hval0
  have hW' := hW
  obtain ⟨p, q, hA0, hV, rfl, hfz, hnd⟩ := hW
  have hA : DataW.TrodAll enc Try.prog W 0 (fun _ => true) true Try.f11.params.toList args.toList ds p := hA0
  rw [Try.params11] at hA hval
  obtain ⟨v0, v1, d0, d1, p0, p1, rfl, rfl, rfl, h0, h1⟩ := trodAll_two hA
  obtain ⟨rfl, rfl⟩ := trodVars_none hV
  obtain ⟨q0, q1, q2, q3, q4, q5, q6, rfl⟩ := op__7_int (hval 0 26 v0 rfl rfl)
  obtain ⟨n0, n1, n2, n3, rfl⟩ := op__4_int (hval 1 55 v1 rfl rfl)
  refine (walk q0 q1 q2 q3 q4 q5 q6 n0 n1 n2 n3 W).mono fun en W' ⟨he, hb⟩ => ?_
  subst he
  exact ⟨_, rfl, law_post hW' rfl (by kernel_rfl) rfl (by intro t ht; rw [Try.params11] at ht; simp at ht; rcases ht with rfl | rfl <;> exact ⟨by kernel_rfl, of_decide_eq_true (by kernel_rfl)⟩) hb⟩

theorem holds : Rows.AffineShiftsSaid :=
  OpenClaim.holds_of_wide 11 Try.f11 rfl rfl rfl rfl rfl rfl rfl ⟨rfl, rfl, rfl, rfl, rfl⟩ rfl rfl rfl rfl rfl (by kernel_rfl) Try.func11 (by kernel_rfl)
    (of_decide_eq_true (by kernel_rfl)) (by unfold Func.isWrapper; first | (rw [if_pos (by decide +kernel)]; kernel_rfl) | (rw [if_neg (by decide +kernel)]; exact ⟨rfl, rfl⟩))
    (fun os started H enc _ => lifted os started H enc)
end Go.Proofs.Ytfjbcjhbaenjcaa.F.ALShifts
