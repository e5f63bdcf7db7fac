/-
  AffineInverts: for all small placements whose inverse is valid, composing a placement with its inverse, in either order, gives the identity, and the inverse of the inverse is the reduced placement. No conditions.
-/
import Derived.Test.YtfjbcjhbaenjcaaAOpen
namespace Go.Proofs.Ytfjbcjhbaenjcaa.F.ALInverts
open Go.ChangeShapes Go.WideShapes Go.ChangeAt Go.RowKit
set_option maxRecDepth 100000


set_option maxHeartbeats 8000000 in
set_option maxRecDepth 100000 in
theorem walk (q0 q1 q2 q3 q4 q5 q6 : Int) (w : World) : Calls Try.prog 6 #[.agg #[.int .i64 q0, .int .i64 q1, .int .i64 q2, .int .i64 q3, .int .i64 q4, .int .i64 q5, .int .i64 q6]] w fun en w' => en = .returned (.bool true) ∧ Below w.heap.size w w' := by
  obtain ⟨s0, s1, s2, s3, s4, s5, s6, hsm⟩ : ∃ s0 s1 s2 s3 s4 s5 s6, sm7 q0 q1 q2 q3 q4 q5 q6 = ⟨s0, s1, s2, s3, s4, s5, s6⟩ := ⟨_, _, _, _, _, _, _, rfl⟩
  have hsl := sm7_sl q0 q1 q2 q3 q4 q5 q6
  rw [hsm] at hsl
  have HSM : Hid (∀ W, Calls Try.prog 14 #[.agg #[.int .i64 q0, .int .i64 q1, .int .i64 q2, .int .i64 q3, .int .i64 q4, .int .i64 q5, .int .i64 q6]] W fun en w' => en = .returned (av s0 s1 s2 s3 s4 s5 s6) ∧ Below W.heap.size W w') := fun W => by
    have := sm7_any q0 q1 q2 q3 q4 q5 q6 W; rw [hsm] at this; exact this
  clear hsm
  have hok : Ok ⟨s0, s1, s2, s3, s4, s5, s6⟩ := ⟨sl_bd hsl.1, hsl.2⟩
  have her := ivt_err hok
  have hall := inverts hok
  obtain ⟨i0, i1, i2, i3, i4, i5, i6, i7, hiv⟩ : ∃ i0 i1 i2 i3 i4 i5 i6 i7, ivt ⟨s0, s1, s2, s3, s4, s5, s6⟩ = ⟨⟨i0, i1, i2, i3, i4, i5, i6⟩, i7⟩ := ⟨_, _, _, _, _, _, _, _, rfl⟩
  rw [hiv] at her hall
  have HI : Hid (∀ W, Calls Try.prog 26 #[av s0 s1 s2 s3 s4 s5 s6] W fun en w' => en = .returned (.tuple #[av i0 i1 i2 i3 i4 i5 i6, .int .i64 i7]) ∧ Below W.heap.size W w') := fun W => by
    have := inverse_any s0 s1 s2 s3 s4 s5 s6 W; rw [hiv] at this; exact this
  obtain ⟨m0, m1, m2, m3, m4, m5, m6, hlw⟩ : ∃ m0 m1 m2 m3 m4 m5 m6, low ⟨s0, s1, s2, s3, s4, s5, s6⟩ = ⟨m0, m1, m2, m3, m4, m5, m6⟩ := ⟨_, _, _, _, _, _, _, rfl⟩
  rw [hlw] at hall
  have HR : Hid (∀ W, Calls Try.prog 20 #[av s0 s1 s2 s3 s4 s5 s6] W fun en w' => en = .returned (av m0 m1 m2 m3 m4 m5 m6) ∧ Below W.heap.size W w') := fun W => by
    have := reduce_any s0 s1 s2 s3 s4 s5 s6 W; rw [show red ⟨s0, s1, s2, s3, s4, s5, s6⟩ = ⟨m0, m1, m2, m3, m4, m5, m6⟩ from by unfold red; rw [if_pos ((okA_iff _).2 hok), hlw]] at this; exact this
  rcases her with hz | hz
  · try simp only at hz
    subst hz
    obtain ⟨e1, e2, e3⟩ := hall rfl
    have HT1 : Hid (∀ W, Calls Try.prog 25 #[av s0 s1 s2 s3 s4 s5 s6, av i0 i1 i2 i3 i4 i5 i6] W fun en w' => en = .returned (.tuple #[av 1 0 0 0 1 0 1, .int .i64 0]) ∧ Below W.heap.size W w') := fun W => by
      have := then_any s0 s1 s2 s3 s4 s5 s6 i0 i1 i2 i3 i4 i5 i6 W; rw [e1] at this; exact this
    have HT2 : Hid (∀ W, Calls Try.prog 25 #[av i0 i1 i2 i3 i4 i5 i6, av s0 s1 s2 s3 s4 s5 s6] W fun en w' => en = .returned (.tuple #[av 1 0 0 0 1 0 1, .int .i64 0]) ∧ Below W.heap.size W w') := fun W => by
      have := then_any i0 i1 i2 i3 i4 i5 i6 s0 s1 s2 s3 s4 s5 s6 W; rw [e2] at this; exact this
    have HI2 : Hid (∀ W, Calls Try.prog 26 #[av i0 i1 i2 i3 i4 i5 i6] W fun en w' => en = .returned (.tuple #[av m0 m1 m2 m3 m4 m5 m6, .int .i64 0]) ∧ Below W.heap.size W w') := fun W => by
      have := inverse_any i0 i1 i2 i3 i4 i5 i6 W; rw [e3] at this; exact this
    clear e1 e2 e3 hall hiv hlw hok hsl
    go_enter Try.func6, Try.ntmps6
    go_upto_region 1 with fail
    have h0 := ((St.start w).alloc ((.cells #[.int .i64 q0, .int .i64 q1, .int .i64 q2, .int .i64 q3, .int .i64 q4, .int .i64 q5, .int .i64 q6] 26 : Obj)))
    try simp only [World.size_alloc] at h0
    generalize hb0 : w.heap.size = b0 at h0 ⊢
    generalize w.alloc ((.cells #[.int .i64 q0, .int .i64 q1, .int .i64 q2, .int .i64 q3, .int .i64 q4, .int .i64 q5, .int .i64 q6] 26 : Obj)) = w0 at h0 ⊢
    go_upto_region 2 with (first | (go_at_call 13; (with_reducible refine (St.call h0 (sane_any _)).mono ?_); rintro en w1 ⟨rfl, h1⟩))
    have zh10 := St.cell h1 (b := b0) (cs := #[.int .i64 q0, .int .i64 q1, .int .i64 q2, .int .i64 q3, .int .i64 q4, .int .i64 q5, .int .i64 q6]) (t := 26) (by simp) 0; have zh11 := St.cell h1 (b := b0) (cs := #[.int .i64 q0, .int .i64 q1, .int .i64 q2, .int .i64 q3, .int .i64 q4, .int .i64 q5, .int .i64 q6]) (t := 26) (by simp) 1; have zh12 := St.cell h1 (b := b0) (cs := #[.int .i64 q0, .int .i64 q1, .int .i64 q2, .int .i64 q3, .int .i64 q4, .int .i64 q5, .int .i64 q6]) (t := 26) (by simp) 2; have zh13 := St.cell h1 (b := b0) (cs := #[.int .i64 q0, .int .i64 q1, .int .i64 q2, .int .i64 q3, .int .i64 q4, .int .i64 q5, .int .i64 q6]) (t := 26) (by simp) 3; have zh14 := St.cell h1 (b := b0) (cs := #[.int .i64 q0, .int .i64 q1, .int .i64 q2, .int .i64 q3, .int .i64 q4, .int .i64 q5, .int .i64 q6]) (t := 26) (by simp) 4; have zh15 := St.cell h1 (b := b0) (cs := #[.int .i64 q0, .int .i64 q1, .int .i64 q2, .int .i64 q3, .int .i64 q4, .int .i64 q5, .int .i64 q6]) (t := 26) (by simp) 5; have zh16 := St.cell h1 (b := b0) (cs := #[.int .i64 q0, .int .i64 q1, .int .i64 q2, .int .i64 q3, .int .i64 q4, .int .i64 q5, .int .i64 q6]) (t := 26) (by simp) 6; simp only [List.getElem?_toArray, List.getElem?_cons_zero, List.getElem?_cons_succ] at zh10 zh11 zh12 zh13 zh14 zh15 zh16
    go_upto_region 3 with (first | (go_at_call 14; (with_reducible refine (St.call h1 (HSM.out _)).mono ?_); rintro en w2 ⟨rfl, h2⟩))
    have h3 := h2.alloc (ao s0 s1 s2 s3 s4 s5 s6)
    generalize w2.heap.size = c1 at h3 ⊢
    generalize w2.alloc (ao s0 s1 s2 s3 s4 s5 s6) = w3 at h3 ⊢
    obtain ⟨_, _, _, _, _, _, _⟩ := St.aff h3 (b := c1) (a := s0) (b' := s1) (c := s2) (d := s3) (e := s4) (f := s5) (n := s6) (by simp)
    go_upto_region 4 with (first | (go_at_call 26; (with_reducible refine (St.call h3 (HI.out _)).mono ?_); rintro en w4 ⟨rfl, h4⟩))
    have h5 := h4.alloc (ao i0 i1 i2 i3 i4 i5 i6)
    generalize w4.heap.size = c2 at h5 ⊢
    generalize w4.alloc (ao i0 i1 i2 i3 i4 i5 i6) = w5 at h5 ⊢
    obtain ⟨_, _, _, _, _, _, _⟩ := St.aff h5 (b := c1) (a := s0) (b' := s1) (c := s2) (d := s3) (e := s4) (f := s5) (n := s6) (by simp)
    obtain ⟨_, _, _, _, _, _, _⟩ := St.aff h5 (b := c2) (a := i0) (b' := i1) (c := i2) (d := i3) (e := i4) (f := i5) (n := i6) (by simp)
    go_upto_region 7 with (first | (go_at_call 25; (with_reducible refine (St.call h5 (HT1.out _)).mono ?_); rintro en w6 ⟨rfl, h6⟩))
    have h7 := h6.alloc (ao 1 0 0 0 1 0 1)
    generalize w6.heap.size = c3 at h7 ⊢
    generalize w6.alloc (ao 1 0 0 0 1 0 1) = w7 at h7 ⊢
    obtain ⟨_, _, _, _, _, _, _⟩ := St.aff h7 (b := c1) (a := s0) (b' := s1) (c := s2) (d := s3) (e := s4) (f := s5) (n := s6) (by simp)
    obtain ⟨_, _, _, _, _, _, _⟩ := St.aff h7 (b := c2) (a := i0) (b' := i1) (c := i2) (d := i3) (e := i4) (f := i5) (n := i6) (by simp)
    go_upto_region 8 with (first | (go_at_call 25; (with_reducible refine (St.call h7 (HT2.out _)).mono ?_); rintro en w8 ⟨rfl, h8⟩))
    have h9 := h8.alloc (ao 1 0 0 0 1 0 1)
    generalize w8.heap.size = c4 at h9 ⊢
    generalize w8.alloc (ao 1 0 0 0 1 0 1) = w9 at h9 ⊢
    obtain ⟨_, _, _, _, _, _, _⟩ := St.aff h9 (b := c2) (a := i0) (b' := i1) (c := i2) (d := i3) (e := i4) (f := i5) (n := i6) (by simp)
    go_upto_region 9 with (first | (go_at_call 26; (with_reducible refine (St.call h9 (HI2.out _)).mono ?_); rintro en w10 ⟨rfl, h10⟩))
    have h11 := h10.alloc (ao m0 m1 m2 m3 m4 m5 m6)
    generalize w10.heap.size = c5 at h11 ⊢
    generalize w10.alloc (ao m0 m1 m2 m3 m4 m5 m6) = w11 at h11 ⊢
    have HP : Hid (∀ V9, St w [(c5, ao m0 m1 m2 m3 m4 m5 m6), (c4, ao 1 0 0 0 1 0 1), (c3, ao 1 0 0 0 1 0 1), (c2, ao i0 i1 i2 i3 i4 i5 i6), (c1, ao s0 s1 s2 s3 s4 s5 s6), (b0, (.cells #[.int .i64 q0, .int .i64 q1, .int .i64 q2, .int .i64 q3, .int .i64 q4, .int .i64 q5, .int .i64 q6] 26 : Obj))] V9 → St w [(c5, ao m0 m1 m2 m3 m4 m5 m6), (c4, ao 1 0 0 0 1 0 1), (c3, ao 1 0 0 0 1 0 1), (c2, ao i0 i1 i2 i3 i4 i5 i6), (c1, ao s0 s1 s2 s3 s4 s5 s6), (b0, (.cells #[.int .i64 q0, .int .i64 q1, .int .i64 q2, .int .i64 q3, .int .i64 q4, .int .i64 q5, .int .i64 q6] 26 : Obj))] V9 ∧ AB V9 c1 s0 s1 s2 s3 s4 s5 s6 ∧ AB V9 c3 1 0 0 0 1 0 1 ∧ AB V9 c4 1 0 0 0 1 0 1 ∧ AB V9 c5 m0 m1 m2 m3 m4 m5 m6) := fun V hV => ⟨hV, St.aff hV (by simp), St.aff hV (by simp), St.aff hV (by simp), St.aff hV (by simp)⟩
    refine wp_region_held_drew (S := fun V9 => St w [(c5, ao m0 m1 m2 m3 m4 m5 m6), (c4, ao 1 0 0 0 1 0 1), (c3, ao 1 0 0 0 1 0 1), (c2, ao i0 i1 i2 i3 i4 i5 i6), (c1, ao s0 s1 s2 s3 s4 s5 s6), (b0, (.cells #[.int .i64 q0, .int .i64 q1, .int .i64 q2, .int .i64 q3, .int .i64 q4, .int .i64 q5, .int .i64 q6] 26 : Obj))] V9 ∧ AB V9 c1 s0 s1 s2 s3 s4 s5 s6 ∧ AB V9 c3 1 0 0 0 1 0 1 ∧ AB V9 c4 1 0 0 0 1 0 1 ∧ AB V9 c5 m0 m1 m2 m3 m4 m5 m6) (by kernel_rfl) ?_ (fun hHeld => ?_)
    · exact HP.out _ (h11.drew)
    have h110 := h11.drew
    refine wpAnyH_take (i := 0) (oi := { dst := some 45, op := Op.move (Operand.tmp 3), type := 4, pos := "law.go:105", after := #[], guard := none }) (v := ?_) rfl (by kernel_rfl) (by kernel_rfl) (by kernel_rfl) (fun _ _ _ h => h) (Or.inl ⟨by kernel_rfl, ?_⟩) (by assumption) ?_
    rotate_left 1
    focus (intro w hSw; (try dsimp only at hSw); go_simp; (try with_reducible rfl))
    try simp only [Act.put, List.setIfInBounds_toArray, List.set_cons_zero, List.set_cons_succ]
    refine wpAnyH_take (i := 1) (oi := { dst := some 46, op := Op.move (Operand.tmp 45), type := 4, pos := "law.go:105", after := #[{ on := 0, ground := Ground.data }], guard := none }) (v := ?_) rfl (by kernel_rfl) (by kernel_rfl) (by kernel_rfl) (fun _ _ _ h => h) (Or.inl ⟨by kernel_rfl, ?_⟩) (by assumption) ?_
    rotate_left 1
    focus (intro w hSw; (try dsimp only at hSw); go_simp; (try with_reducible rfl))
    try simp only [Act.put, List.setIfInBounds_toArray, List.set_cons_zero, List.set_cons_succ]
    refine wpAnyH_take (i := 2) (oi := { dst := some 47, op := Op.move (Operand.tmp 8), type := 39, pos := "law.go:105", after := #[{ on := 1, ground := Ground.guard }], guard := some (1, true) }) (v := ?_) rfl (by kernel_rfl) (by kernel_rfl) (by kernel_rfl) (fun _ _ _ h => h) (Or.inl ⟨by kernel_rfl, ?_⟩) (by assumption) ?_
    rotate_left 1
    focus (intro w hSw; (try dsimp only at hSw); go_simp; (try with_reducible rfl))
    try simp only [Act.put, List.setIfInBounds_toArray, List.set_cons_zero, List.set_cons_succ]
    refine wpAnyH_take (i := 3) (oi := { dst := some 48, op := Op.binOp BinOp.eql 39 (Operand.tmp 47) (Operand.const (Value.int IntKind.i64 0)) 39, type := 4, pos := "law.go:105", after := #[{ on := 2, ground := Ground.data }, { on := 1, ground := Ground.guard }], guard := some (1, true) }) (v := ?_) rfl (by kernel_rfl) (by kernel_rfl) (by kernel_rfl) (fun _ _ _ h => h) (Or.inl ⟨by kernel_rfl, ?_⟩) (by assumption) ?_
    rotate_left 1
    focus (intro w hSw; (try dsimp only at hSw); go_simp; (try with_reducible rfl))
    try simp only [Act.put, List.setIfInBounds_toArray, List.set_cons_zero, List.set_cons_succ]
    refine wpAnyH_take (i := 4) (oi := { dst := some 49, op := Op.pick (Operand.tmp 46) (Operand.tmp 48) (Operand.const (Value.bool false)), type := 4, pos := "law.go:105", after := #[{ on := 1, ground := Ground.data }, { on := 3, ground := Ground.data }], guard := none }) (v := ?_) rfl (by kernel_rfl) (by kernel_rfl) (by kernel_rfl) (fun _ _ _ h => h) (Or.inl ⟨by kernel_rfl, ?_⟩) (by assumption) ?_
    rotate_left 1
    focus (intro w hSw; (try dsimp only at hSw); go_simp; (try with_reducible rfl))
    try simp only [Act.put, List.setIfInBounds_toArray, List.set_cons_zero, List.set_cons_succ]
    refine wpAnyH_take (i := 5) (oi := { dst := some 50, op := Op.move (Operand.tmp 49), type := 4, pos := "law.go:105", after := #[{ on := 4, ground := Ground.data }, { on := 1, ground := Ground.chain }], guard := none }) (v := ?_) rfl (by kernel_rfl) (by kernel_rfl) (by kernel_rfl) (fun _ _ _ h => h) (Or.inl ⟨by kernel_rfl, ?_⟩) (by assumption) ?_
    rotate_left 1
    focus (intro w hSw; (try dsimp only at hSw); go_simp; (try with_reducible rfl))
    try simp only [Act.put, List.setIfInBounds_toArray, List.set_cons_zero, List.set_cons_succ]
    refine wpAnyH_take (i := 6) (oi := { dst := some 51, op := Op.move (Operand.tmp 10), type := 39, pos := "law.go:105", after := #[{ on := 5, ground := Ground.guard }], guard := some (5, true) }) (v := ?_) rfl (by kernel_rfl) (by kernel_rfl) (by kernel_rfl) (fun _ _ _ h => h) (Or.inl ⟨by kernel_rfl, ?_⟩) (by assumption) ?_
    rotate_left 1
    focus (intro w hSw; (try dsimp only at hSw); go_simp; (try with_reducible rfl))
    try simp only [Act.put, List.setIfInBounds_toArray, List.set_cons_zero, List.set_cons_succ]
    refine wpAnyH_take (i := 7) (oi := { dst := some 52, op := Op.binOp BinOp.eql 39 (Operand.tmp 51) (Operand.const (Value.int IntKind.i64 0)) 39, type := 4, pos := "law.go:105", after := #[{ on := 6, ground := Ground.data }, { on := 5, ground := Ground.guard }], guard := some (5, true) }) (v := ?_) rfl (by kernel_rfl) (by kernel_rfl) (by kernel_rfl) (fun _ _ _ h => h) (Or.inl ⟨by kernel_rfl, ?_⟩) (by assumption) ?_
    rotate_left 1
    focus (intro w hSw; (try dsimp only at hSw); go_simp; (try with_reducible rfl))
    try simp only [Act.put, List.setIfInBounds_toArray, List.set_cons_zero, List.set_cons_succ]
    refine wpAnyH_take (i := 8) (oi := { dst := some 53, op := Op.pick (Operand.tmp 50) (Operand.tmp 52) (Operand.const (Value.bool false)), type := 4, pos := "law.go:105", after := #[{ on := 5, ground := Ground.data }, { on := 7, ground := Ground.data }], guard := none }) (v := ?_) rfl (by kernel_rfl) (by kernel_rfl) (by kernel_rfl) (fun _ _ _ h => h) (Or.inl ⟨by kernel_rfl, ?_⟩) (by assumption) ?_
    rotate_left 1
    focus (intro w hSw; (try dsimp only at hSw); go_simp; (try with_reducible rfl))
    try simp only [Act.put, List.setIfInBounds_toArray, List.set_cons_zero, List.set_cons_succ]
    refine wpAnyH_take (i := 9) (oi := { dst := some 54, op := Op.move (Operand.tmp 53), type := 4, pos := "law.go:105", after := #[{ on := 8, ground := Ground.data }, { on := 5, ground := Ground.chain }], guard := none }) (v := ?_) rfl (by kernel_rfl) (by kernel_rfl) (by kernel_rfl) (fun _ _ _ h => h) (Or.inl ⟨by kernel_rfl, ?_⟩) (by assumption) ?_
    rotate_left 1
    focus (intro w hSw; (try dsimp only at hSw); go_simp; (try with_reducible rfl))
    try simp only [Act.put, List.setIfInBounds_toArray, List.set_cons_zero, List.set_cons_succ]
    refine wpAnyH_take (i := 10) (oi := { dst := some 55, op := Op.move (Operand.tmp 12), type := 39, pos := "law.go:105", after := #[{ on := 9, ground := Ground.guard }], guard := some (9, true) }) (v := ?_) rfl (by kernel_rfl) (by kernel_rfl) (by kernel_rfl) (fun _ _ _ h => h) (Or.inl ⟨by kernel_rfl, ?_⟩) (by assumption) ?_
    rotate_left 1
    focus (intro w hSw; (try dsimp only at hSw); go_simp; (try with_reducible rfl))
    try simp only [Act.put, List.setIfInBounds_toArray, List.set_cons_zero, List.set_cons_succ]
    refine wpAnyH_take (i := 11) (oi := { dst := some 56, op := Op.binOp BinOp.eql 39 (Operand.tmp 55) (Operand.const (Value.int IntKind.i64 0)) 39, type := 4, pos := "law.go:105", after := #[{ on := 10, ground := Ground.data }, { on := 9, ground := Ground.guard }], guard := some (9, true) }) (v := ?_) rfl (by kernel_rfl) (by kernel_rfl) (by kernel_rfl) (fun _ _ _ h => h) (Or.inl ⟨by kernel_rfl, ?_⟩) (by assumption) ?_
    rotate_left 1
    focus (intro w hSw; (try dsimp only at hSw); go_simp; (try with_reducible rfl))
    try simp only [Act.put, List.setIfInBounds_toArray, List.set_cons_zero, List.set_cons_succ]
    refine wpAnyH_take (i := 12) (oi := { dst := some 57, op := Op.pick (Operand.tmp 54) (Operand.tmp 56) (Operand.const (Value.bool false)), type := 4, pos := "law.go:105", after := #[{ on := 9, ground := Ground.data }, { on := 11, ground := Ground.data }], guard := none }) (v := ?_) rfl (by kernel_rfl) (by kernel_rfl) (by kernel_rfl) (fun _ _ _ h => h) (Or.inl ⟨by kernel_rfl, ?_⟩) (by assumption) ?_
    rotate_left 1
    focus (intro w hSw; (try dsimp only at hSw); go_simp; (try with_reducible rfl))
    try simp only [Act.put, List.setIfInBounds_toArray, List.set_cons_zero, List.set_cons_succ]
    refine wpAnyH_take (i := 13) (oi := { dst := some 58, op := Op.move (Operand.tmp 57), type := 4, pos := "law.go:105", after := #[{ on := 12, ground := Ground.data }, { on := 9, ground := Ground.chain }], guard := none }) (v := ?_) rfl (by kernel_rfl) (by kernel_rfl) (by kernel_rfl) (fun _ _ _ h => h) (Or.inl ⟨by kernel_rfl, ?_⟩) (by assumption) ?_
    rotate_left 1
    focus (intro w hSw; (try dsimp only at hSw); go_simp; (try with_reducible rfl))
    try simp only [Act.put, List.setIfInBounds_toArray, List.set_cons_zero, List.set_cons_succ]
    refine wpAnyH_take (i := 14) (oi := { dst := some 59, op := Op.load 23 (Operand.tmp 7), type := 23, pos := "law.go:105", after := #[{ on := 13, ground := Ground.guard }], guard := some (13, true) }) (v := ?_) rfl (by kernel_rfl) (by kernel_rfl) (by kernel_rfl) (fun _ _ _ h => h) (Or.inl ⟨by kernel_rfl, ?_⟩) (by assumption) ?_
    rotate_left 1
    focus (intro w hSw; (try dsimp only at hSw); go_simp; (try with_reducible rfl))
    try simp only [Act.put, List.setIfInBounds_toArray, List.set_cons_zero, List.set_cons_succ]
    refine wpAnyH_ready (rs := [15]) (by kernel_rfl) (by simp) (AllReadyH.cons (o := { dst := some 60, op := Op.call { callee := Callee.value (Operand.func 24), args := #[], argTypes := #[] }, type := 23, pos := "law.go:105", after := #[{ on := 13, ground := Ground.chain }, { on := 13, ground := Ground.guard }], guard := some (13, true) }) rfl (fun K hK => ?_) AllReadyH.nil)
    (go_simp; (go_at_call 24; (refine (St.call h110 (ident_any _)).mono ?_); rintro e V1r9 ⟨rfl, h111r9⟩))
    refine hK.out _ _ ?_ (fun hHeld => ?_)
    · exact HP.out _ (h111r9)
    clear hK K
    try simp only [Act.put, List.setIfInBounds_toArray, List.set_cons_zero, List.set_cons_succ]
    refine wpAnyH_take (i := 16) (oi := { dst := some 61, op := Op.binOp BinOp.eql 23 (Operand.tmp 59) (Operand.tmp 60) 23, type := 4, pos := "law.go:105", after := #[{ on := 14, ground := Ground.data }, { on := 15, ground := Ground.data }, { on := 13, ground := Ground.guard }], guard := some (13, true) }) (v := ?_) rfl (by kernel_rfl) (by kernel_rfl) (by kernel_rfl) (fun _ _ _ h => h) (Or.inl ⟨by kernel_rfl, ?_⟩) (by assumption) ?_
    rotate_left 1
    focus (intro w hSw; (try dsimp only at hSw); go_simp; (try with_reducible rfl))
    try simp only [Act.put, List.setIfInBounds_toArray, List.set_cons_zero, List.set_cons_succ]
    refine wpAnyH_take (i := 17) (oi := { dst := some 62, op := Op.pick (Operand.tmp 58) (Operand.tmp 61) (Operand.const (Value.bool false)), type := 4, pos := "law.go:105", after := #[{ on := 13, ground := Ground.data }, { on := 16, ground := Ground.data }], guard := none }) (v := ?_) rfl (by kernel_rfl) (by kernel_rfl) (by kernel_rfl) (fun _ _ _ h => h) (Or.inl ⟨by kernel_rfl, ?_⟩) (by assumption) ?_
    rotate_left 1
    focus (intro w hSw; (try dsimp only at hSw); go_simp; (try with_reducible rfl))
    try simp only [Act.put, List.setIfInBounds_toArray, List.set_cons_zero, List.set_cons_succ]
    refine wpAnyH_take (i := 18) (oi := { dst := some 63, op := Op.move (Operand.tmp 62), type := 4, pos := "law.go:105", after := #[{ on := 17, ground := Ground.data }, { on := 15, ground := Ground.chain }], guard := none }) (v := ?_) rfl (by kernel_rfl) (by kernel_rfl) (by kernel_rfl) (fun _ _ _ h => h) (Or.inl ⟨by kernel_rfl, ?_⟩) (by assumption) ?_
    rotate_left 1
    focus (intro w hSw; (try dsimp only at hSw); go_simp; (try with_reducible rfl))
    try simp only [Act.put, List.setIfInBounds_toArray, List.set_cons_zero, List.set_cons_succ]
    refine wpAnyH_take (i := 19) (oi := { dst := some 64, op := Op.load 23 (Operand.tmp 9), type := 23, pos := "law.go:105", after := #[{ on := 18, ground := Ground.guard }], guard := some (18, true) }) (v := ?_) rfl (by kernel_rfl) (by kernel_rfl) (by kernel_rfl) (fun _ _ _ h => h) (Or.inl ⟨by kernel_rfl, ?_⟩) (by assumption) ?_
    rotate_left 1
    focus (intro w hSw; (try dsimp only at hSw); go_simp; (try with_reducible rfl))
    try simp only [Act.put, List.setIfInBounds_toArray, List.set_cons_zero, List.set_cons_succ]
    refine wpAnyH_ready (rs := [20]) (by kernel_rfl) (by simp) (AllReadyH.cons (o := { dst := some 65, op := Op.call { callee := Callee.value (Operand.func 24), args := #[], argTypes := #[] }, type := 23, pos := "law.go:105", after := #[{ on := 18, ground := Ground.chain }, { on := 18, ground := Ground.guard }], guard := some (18, true) }) rfl (fun K hK => ?_) AllReadyH.nil)
    (go_simp; (go_at_call 24; (refine (St.call h111r9 (ident_any _)).mono ?_); rintro e V2r9 ⟨rfl, h112r9⟩))
    refine hK.out _ _ ?_ (fun hHeld => ?_)
    · exact HP.out _ (h112r9)
    clear hK K
    try simp only [Act.put, List.setIfInBounds_toArray, List.set_cons_zero, List.set_cons_succ]
    refine wpAnyH_take (i := 21) (oi := { dst := some 66, op := Op.binOp BinOp.eql 23 (Operand.tmp 64) (Operand.tmp 65) 23, type := 4, pos := "law.go:105", after := #[{ on := 19, ground := Ground.data }, { on := 20, ground := Ground.data }, { on := 18, ground := Ground.guard }], guard := some (18, true) }) (v := ?_) rfl (by kernel_rfl) (by kernel_rfl) (by kernel_rfl) (fun _ _ _ h => h) (Or.inl ⟨by kernel_rfl, ?_⟩) (by assumption) ?_
    rotate_left 1
    focus (intro w hSw; (try dsimp only at hSw); go_simp; (try with_reducible rfl))
    try simp only [Act.put, List.setIfInBounds_toArray, List.set_cons_zero, List.set_cons_succ]
    refine wpAnyH_take (i := 22) (oi := { dst := some 67, op := Op.pick (Operand.tmp 63) (Operand.tmp 66) (Operand.const (Value.bool false)), type := 4, pos := "law.go:105", after := #[{ on := 18, ground := Ground.data }, { on := 21, ground := Ground.data }], guard := none }) (v := ?_) rfl (by kernel_rfl) (by kernel_rfl) (by kernel_rfl) (fun _ _ _ h => h) (Or.inl ⟨by kernel_rfl, ?_⟩) (by assumption) ?_
    rotate_left 1
    focus (intro w hSw; (try dsimp only at hSw); go_simp; (try with_reducible rfl))
    try simp only [Act.put, List.setIfInBounds_toArray, List.set_cons_zero, List.set_cons_succ]
    refine wpAnyH_take (i := 23) (oi := { dst := some 68, op := Op.move (Operand.tmp 67), type := 4, pos := "law.go:105", after := #[{ on := 22, ground := Ground.data }, { on := 20, ground := Ground.chain }], guard := none }) (v := ?_) rfl (by kernel_rfl) (by kernel_rfl) (by kernel_rfl) (fun _ _ _ h => h) (Or.inl ⟨by kernel_rfl, ?_⟩) (by assumption) ?_
    rotate_left 1
    focus (intro w hSw; (try dsimp only at hSw); go_simp; (try with_reducible rfl))
    try simp only [Act.put, List.setIfInBounds_toArray, List.set_cons_zero, List.set_cons_succ]
    refine wpAnyH_take (i := 24) (oi := { dst := some 69, op := Op.load 23 (Operand.tmp 11), type := 23, pos := "law.go:105", after := #[{ on := 23, ground := Ground.guard }], guard := some (23, true) }) (v := ?_) rfl (by kernel_rfl) (by kernel_rfl) (by kernel_rfl) (fun _ _ _ h => h) (Or.inl ⟨by kernel_rfl, ?_⟩) (by assumption) ?_
    rotate_left 1
    focus (intro w hSw; (try dsimp only at hSw); go_simp; (try with_reducible rfl))
    try simp only [Act.put, List.setIfInBounds_toArray, List.set_cons_zero, List.set_cons_succ]
    refine wpAnyH_take (i := 25) (oi := { dst := some 70, op := Op.load 23 (Operand.tmp 4), type := 23, pos := "law.go:105", after := #[{ on := 23, ground := Ground.guard }], guard := some (23, true) }) (v := ?_) rfl (by kernel_rfl) (by kernel_rfl) (by kernel_rfl) (fun _ _ _ h => h) (Or.inl ⟨by kernel_rfl, ?_⟩) (by assumption) ?_
    rotate_left 1
    focus (intro w hSw; (try dsimp only at hSw); go_simp; (try with_reducible rfl))
    try simp only [Act.put, List.setIfInBounds_toArray, List.set_cons_zero, List.set_cons_succ]
    refine wpAnyH_ready (rs := [26]) (by kernel_rfl) (by simp) (AllReadyH.cons (o := { dst := some 71, op := Op.call { callee := Callee.value (Operand.func 20), args := #[Operand.tmp 70], argTypes := #[23] }, type := 23, pos := "law.go:105", after := #[{ on := 25, ground := Ground.data }, { on := 23, ground := Ground.chain }, { on := 23, ground := Ground.guard }], guard := some (23, true) }) rfl (fun K hK => ?_) AllReadyH.nil)
    (go_simp; (go_at_call 20; (refine (St.call h112r9 (HR.out _)).mono ?_); rintro e V3r9 ⟨rfl, h113r9⟩))
    refine hK.out _ _ ?_ (fun hHeld => ?_)
    · exact HP.out _ (h113r9)
    clear hK K
    try simp only [Act.put, List.setIfInBounds_toArray, List.set_cons_zero, List.set_cons_succ]
    refine wpAnyH_take (i := 27) (oi := { dst := some 72, op := Op.binOp BinOp.eql 23 (Operand.tmp 69) (Operand.tmp 71) 23, type := 4, pos := "law.go:105", after := #[{ on := 24, ground := Ground.data }, { on := 26, ground := Ground.data }, { on := 23, ground := Ground.guard }], guard := some (23, true) }) (v := ?_) rfl (by kernel_rfl) (by kernel_rfl) (by kernel_rfl) (fun _ _ _ h => h) (Or.inl ⟨by kernel_rfl, ?_⟩) (by assumption) ?_
    rotate_left 1
    focus (intro w hSw; (try dsimp only at hSw); go_simp; (try with_reducible rfl))
    try simp only [Act.put, List.setIfInBounds_toArray, List.set_cons_zero, List.set_cons_succ]
    refine wpAnyH_take (i := 28) (oi := { dst := some 73, op := Op.pick (Operand.tmp 68) (Operand.tmp 72) (Operand.const (Value.bool false)), type := 4, pos := "law.go:105", after := #[{ on := 23, ground := Ground.data }, { on := 27, ground := Ground.data }], guard := none }) (v := ?_) rfl (by kernel_rfl) (by kernel_rfl) (by kernel_rfl) (fun _ _ _ h => h) (Or.inl ⟨by kernel_rfl, ?_⟩) (by assumption) ?_
    rotate_left 1
    focus (intro w hSw; (try dsimp only at hSw); go_simp; (try with_reducible rfl))
    try simp only [Act.put, List.setIfInBounds_toArray, List.set_cons_zero, List.set_cons_succ]
    refine wpAnyH_take (i := 29) (oi := { dst := some 2, op := Op.assign (Operand.tmp 73), type := 4, pos := "law.go:105", after := #[{ on := 28, ground := Ground.data }, { on := 26, ground := Ground.chain }, { on := 0, ground := Ground.phase }, { on := 1, ground := Ground.phase }, { on := 2, ground := Ground.phase }, { on := 3, ground := Ground.phase }, { on := 4, ground := Ground.phase }, { on := 5, ground := Ground.phase }, { on := 6, ground := Ground.phase }, { on := 7, ground := Ground.phase }, { on := 8, ground := Ground.phase }, { on := 9, ground := Ground.phase }, { on := 10, ground := Ground.phase }, { on := 11, ground := Ground.phase }, { on := 12, ground := Ground.phase }, { on := 13, ground := Ground.phase }, { on := 14, ground := Ground.phase }, { on := 15, ground := Ground.phase }, { on := 16, ground := Ground.phase }, { on := 17, ground := Ground.phase }, { on := 18, ground := Ground.phase }, { on := 19, ground := Ground.phase }, { on := 20, ground := Ground.phase }, { on := 21, ground := Ground.phase }, { on := 22, ground := Ground.phase }, { on := 23, ground := Ground.phase }, { on := 24, ground := Ground.phase }, { on := 25, ground := Ground.phase }, { on := 26, ground := Ground.phase }, { on := 27, ground := Ground.phase }, { on := 28, ground := Ground.phase }], guard := none }) (v := ?_) rfl (by kernel_rfl) (by kernel_rfl) (by kernel_rfl) (fun _ _ _ h => h) (Or.inl ⟨by kernel_rfl, ?_⟩) (by assumption) ?_
    rotate_left 1
    focus (intro w hSw; (try dsimp only at hSw); go_simp; (try with_reducible rfl))
    try simp only [Act.put, List.setIfInBounds_toArray, List.set_cons_zero, List.set_cons_succ]
    refine wpAnyH_done (by kernel_rfl) ?_ _
    have h9 := h113r9
    go_wp2
    go_ret
    subst hb0
    exact ⟨rfl, h9.below⟩
  · try simp only at hz
    subst hz
    clear hall hiv hlw hok hsl
    go_enter Try.func6, Try.ntmps6
    go_upto_region 1 with fail
    have h0 := ((St.start w).alloc ((.cells #[.int .i64 q0, .int .i64 q1, .int .i64 q2, .int .i64 q3, .int .i64 q4, .int .i64 q5, .int .i64 q6] 26 : Obj)))
    try simp only [World.size_alloc] at h0
    generalize hb0 : w.heap.size = b0 at h0 ⊢
    generalize w.alloc ((.cells #[.int .i64 q0, .int .i64 q1, .int .i64 q2, .int .i64 q3, .int .i64 q4, .int .i64 q5, .int .i64 q6] 26 : Obj)) = w0 at h0 ⊢
    go_upto_region 2 with (first | (go_at_call 13; (with_reducible refine (St.call h0 (sane_any _)).mono ?_); rintro en w1 ⟨rfl, h1⟩))
    have zh10 := St.cell h1 (b := b0) (cs := #[.int .i64 q0, .int .i64 q1, .int .i64 q2, .int .i64 q3, .int .i64 q4, .int .i64 q5, .int .i64 q6]) (t := 26) (by simp) 0; have zh11 := St.cell h1 (b := b0) (cs := #[.int .i64 q0, .int .i64 q1, .int .i64 q2, .int .i64 q3, .int .i64 q4, .int .i64 q5, .int .i64 q6]) (t := 26) (by simp) 1; have zh12 := St.cell h1 (b := b0) (cs := #[.int .i64 q0, .int .i64 q1, .int .i64 q2, .int .i64 q3, .int .i64 q4, .int .i64 q5, .int .i64 q6]) (t := 26) (by simp) 2; have zh13 := St.cell h1 (b := b0) (cs := #[.int .i64 q0, .int .i64 q1, .int .i64 q2, .int .i64 q3, .int .i64 q4, .int .i64 q5, .int .i64 q6]) (t := 26) (by simp) 3; have zh14 := St.cell h1 (b := b0) (cs := #[.int .i64 q0, .int .i64 q1, .int .i64 q2, .int .i64 q3, .int .i64 q4, .int .i64 q5, .int .i64 q6]) (t := 26) (by simp) 4; have zh15 := St.cell h1 (b := b0) (cs := #[.int .i64 q0, .int .i64 q1, .int .i64 q2, .int .i64 q3, .int .i64 q4, .int .i64 q5, .int .i64 q6]) (t := 26) (by simp) 5; have zh16 := St.cell h1 (b := b0) (cs := #[.int .i64 q0, .int .i64 q1, .int .i64 q2, .int .i64 q3, .int .i64 q4, .int .i64 q5, .int .i64 q6]) (t := 26) (by simp) 6; simp only [List.getElem?_toArray, List.getElem?_cons_zero, List.getElem?_cons_succ] at zh10 zh11 zh12 zh13 zh14 zh15 zh16
    go_upto_region 3 with (first | (go_at_call 14; (with_reducible refine (St.call h1 (HSM.out _)).mono ?_); rintro en w2 ⟨rfl, h2⟩))
    have h3 := h2.alloc (ao s0 s1 s2 s3 s4 s5 s6)
    generalize w2.heap.size = c1 at h3 ⊢
    generalize w2.alloc (ao s0 s1 s2 s3 s4 s5 s6) = w3 at h3 ⊢
    obtain ⟨_, _, _, _, _, _, _⟩ := St.aff h3 (b := c1) (a := s0) (b' := s1) (c := s2) (d := s3) (e := s4) (f := s5) (n := s6) (by simp)
    go_upto_region 4 with (first | (go_at_call 26; (with_reducible refine (St.call h3 (HI.out _)).mono ?_); rintro en w4 ⟨rfl, h4⟩))
    have h5 := h4.alloc (ao i0 i1 i2 i3 i4 i5 i6)
    generalize w4.heap.size = c2 at h5 ⊢
    generalize w4.alloc (ao i0 i1 i2 i3 i4 i5 i6) = w5 at h5 ⊢
    go_wp2
    go_ret
    subst hb0
    exact ⟨rfl, h5.below⟩

set_option maxRecDepth 100000 in
theorem lifted (os : Os) (started : os.Started) (H : Type) (enc : TypeId × Value → H) :
    ReturnsInHanded {} Try.checked os 6 .any (Rows.affineInvertsSpec.pre6 enc Try.prog Try.f6 Rows.affineInvertsRow.domain false) (Rows.affineInvertsSpec.post enc Try.prog Try.f6 false true false false) := by
  refine returnsInHanded_of_change_sized (C := Try.checked) own started (by kernel_rfl) Try.func6
    (ChangeSpec.witness6 (enc := enc) (C := Try.checked) false ⟨#[], #[.agg #[.int .i64 0, .int .i64 0, .int .i64 0, .int .i64 0, .int .i64 0, .int .i64 0, .int .i64 0]], []⟩ 8 (by kernel_rfl) (by kernel_rfl) (by kernel_rfl) (by kernel_rfl)) ?_
  intro W base args ds gs before hval0 hW _ _ _
  have hval : ∀ (j : Nat) t v, Try.f6.params[j]? = some t → args[j]? = some v → Value.okWide Try.prog W .any base t v := hval0
  have hW' := hW
  obtain ⟨p, q, hA0, hV, rfl, hfz, hnd⟩ := hW
  have hA : DataW.TrodAll enc Try.prog W 0 (fun _ => true) true Try.f6.params.toList args.toList ds p := hA0
  rw [Try.params6] at hA hval
  obtain ⟨v0, d0, rfl, rfl, h0⟩ := trodAll_one hA
  obtain ⟨rfl, rfl⟩ := trodVars_none hV
  obtain ⟨q0, q1, q2, q3, q4, q5, q6, rfl⟩ := op__7_int (hval 0 26 v0 rfl rfl)
  refine (walk q0 q1 q2 q3 q4 q5 q6 W).mono fun en W' ⟨he, hb⟩ => ?_
  subst he
  exact ⟨_, rfl, law_post hW' rfl (by kernel_rfl) rfl (by intro t ht; rw [Try.params6] at ht; simp at ht; subst ht; exact ⟨by kernel_rfl, of_decide_eq_true (by kernel_rfl)⟩) hb⟩

theorem holds : Rows.AffineInvertsSaid :=
  OpenClaim.holds_of_wide 6 Try.f6 rfl rfl rfl rfl rfl rfl rfl ⟨rfl, rfl, rfl, rfl, rfl⟩ rfl rfl rfl rfl rfl (by kernel_rfl) Try.func6 (by kernel_rfl)
    (of_decide_eq_true (by kernel_rfl)) (by unfold Func.isWrapper; first | (rw [if_pos (by decide +kernel)]; kernel_rfl) | (rw [if_neg (by decide +kernel)]; exact ⟨rfl, rfl⟩))
    (fun os started H enc _ => lifted os started H enc)
end Go.Proofs.Ytfjbcjhbaenjcaa.F.ALInverts
