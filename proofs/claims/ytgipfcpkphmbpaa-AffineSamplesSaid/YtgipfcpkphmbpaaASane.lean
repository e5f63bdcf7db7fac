/-
  The laws' sanity.
-/
import Derived.Test.YtgipfcpkphmbpaaAThen
import Derived.Test.YtgipfcpkphmbpaaAInv
import Derived.Test.YtgipfcpkphmbpaaABnd
namespace Go.Proofs.Ytgipfcpkphmbpaa.F
open Go.RowKit
set_option maxRecDepth 100000

theorem sane_then (W : World) : Calls Try.prog 25 #[av 1 0 1 0 1 2 1, av 1 0 3 0 1 4 1] W fun en w' => en = .returned (.tuple #[av 1 0 4 0 1 6 1, .int .i64 0]) ∧ Below W.heap.size W w' := by
  have h := then_any 1 0 1 0 1 2 1 1 0 3 0 1 4 1 W
  have e0 : (thn ⟨1, 0, 1, 0, 1, 2, 1⟩ ⟨1, 0, 3, 0, 1, 4, 1⟩).x.l = [1, 0, 4, 0, 1, 6, 1] ∧ (thn ⟨1, 0, 1, 0, 1, 2, 1⟩ ⟨1, 0, 3, 0, 1, 4, 1⟩).e = 0 := by decide +kernel
  generalize thn ⟨1, 0, 1, 0, 1, 2, 1⟩ ⟨1, 0, 3, 0, 1, 4, 1⟩ = g at h e0
  obtain ⟨⟨g0, g1, g2, g3, g4, g5, g6⟩, g7⟩ := g
  obtain ⟨e1, e2⟩ := e0
  simp only [Af.l, List.cons.injEq, and_true] at e1 e2
  obtain ⟨rfl, rfl, rfl, rfl, rfl, rfl, rfl⟩ := e1
  subst e2
  exact h
theorem sane_inv (W : World) : Calls Try.prog 26 #[av 2 0 0 0 2 0 1] W fun en w' => en = .returned (.tuple #[av 1 0 0 0 1 0 2, .int .i64 0]) ∧ Below W.heap.size W w' := by
  have h := inverse_any 2 0 0 0 2 0 1 W
  have e0 : (ivt ⟨2, 0, 0, 0, 2, 0, 1⟩).x.l = [1, 0, 0, 0, 1, 0, 2] ∧ (ivt ⟨2, 0, 0, 0, 2, 0, 1⟩).e = 0 := by decide +kernel
  generalize ivt ⟨2, 0, 0, 0, 2, 0, 1⟩ = g at h e0
  obtain ⟨⟨g0, g1, g2, g3, g4, g5, g6⟩, g7⟩ := g
  obtain ⟨e1, e2⟩ := e0
  simp only [Af.l, List.cons.injEq, and_true] at e1 e2
  obtain ⟨rfl, rfl, rfl, rfl, rfl, rfl, rfl⟩ := e1
  subst e2
  exact h
theorem sane_src (W : World) : Calls Try.prog 30 #[av 2 0 0 0 2 0 1, tv 3 (-1)] W fun en w' => en = .returned (.tuple #[tv 1 (-1), .int .i64 0]) ∧ Below W.heap.size W w' := by
  have h := sourceT_any 2 0 0 0 2 0 1 3 (-1) W
  have e0 : (srcT ⟨2, 0, 0, 0, 2, 0, 1⟩ 3 (-1)).x = 1 ∧ (srcT ⟨2, 0, 0, 0, 2, 0, 1⟩ 3 (-1)).y = -1 ∧ (srcT ⟨2, 0, 0, 0, 2, 0, 1⟩ 3 (-1)).e = 0 := by decide +kernel
  unfold Pos.v at h
  rw [e0.1, e0.2.1, e0.2.2] at h
  exact h
theorem sane_bnd (W : World) : Calls Try.prog 32 #[av 2 0 0 0 2 0 1, rv 0 0 2 1] W fun en w' => en = .returned (.tuple #[rv 0 0 4 2, .int .i64 0]) ∧ Below W.heap.size W w' := by
  have h := boundsT_any 2 0 0 0 2 0 1 0 0 2 1 W
  have e0 : (boundsT ⟨2, 0, 0, 0, 2, 0, 1⟩ 0 0 2 1).x0 = 0 ∧ (boundsT ⟨2, 0, 0, 0, 2, 0, 1⟩ 0 0 2 1).y0 = 0 ∧ (boundsT ⟨2, 0, 0, 0, 2, 0, 1⟩ 0 0 2 1).x1 = 4 ∧ (boundsT ⟨2, 0, 0, 0, 2, 0, 1⟩ 0 0 2 1).y1 = 2 ∧ (boundsT ⟨2, 0, 0, 0, 2, 0, 1⟩ 0 0 2 1).e = 0 := by decide +kernel
  unfold Box.v at h
  rw [e0.1, e0.2.1, e0.2.2.1, e0.2.2.2.1, e0.2.2.2.2] at h
  exact h
set_option maxHeartbeats 8000000 in
theorem sane_any (w : World) : Calls Try.prog 13 #[] w fun en w' => en = .returned (.bool true) ∧ Below w.heap.size w w' := by
  go_enter Try.func13, Try.ntmps13
  go_upto_region 2 with fail
  have hs := (St.start w).alloc (ao 2 0 0 0 2 0 1)
  generalize hb0 : w.heap.size = b0 at hs ⊢
  generalize w.alloc (ao 2 0 0 0 2 0 1) = w1 at hs ⊢
  go_upto_region 3 with (first | (go_at_call 22; (with_reducible refine (St.call hs (shift_any 1 2 _)).mono ?_); rintro en w2 ⟨rfl, h2⟩) | (go_at_call 22; (with_reducible refine (St.call h2 (shift_any 3 4 _)).mono ?_); rintro en w3 ⟨rfl, h3⟩) | (go_at_call 25; (with_reducible refine (St.call h3 (sane_then _)).mono ?_); rintro en w4 ⟨rfl, h4⟩))
  have h5 := h4.alloc (ao 1 0 4 0 1 6 1)
  generalize w4.heap.size = b1 at h5 ⊢
  generalize w4.alloc (ao 1 0 4 0 1 6 1) = w5 at h5 ⊢
  obtain ⟨_, _, _, _, _, _, _⟩ := St.aff h5 (b := b0) (a := 2) (b' := 0) (c := 0) (d := 0) (e := 2) (f := 0) (n := 1) (by simp)
  go_upto_region 4 with (first | (go_at_call 26; (with_reducible refine (St.call h5 (sane_inv _)).mono ?_); rintro en w6 ⟨rfl, h6⟩))
  have h7 := h6.alloc (ao 1 0 0 0 1 0 2)
  generalize w6.heap.size = b2 at h7 ⊢
  generalize w6.alloc (ao 1 0 0 0 1 0 2) = w7 at h7 ⊢
  obtain ⟨_, _, _, _, _, _, _⟩ := St.aff h7 (b := b0) (a := 2) (b' := 0) (c := 0) (d := 0) (e := 2) (f := 0) (n := 1) (by simp)
  go_upto_region 5 with (first | (go_at_call 30; (with_reducible refine (St.call h7 (sane_src _)).mono ?_); rintro en w8 ⟨rfl, h8⟩))
  have h9 := h8.alloc (pob 1 (-1))
  generalize w8.heap.size = b3 at h9 ⊢
  generalize w8.alloc (pob 1 (-1)) = w9 at h9 ⊢
  obtain ⟨_, _, _, _, _, _, _⟩ := St.aff h9 (b := b0) (a := 2) (b' := 0) (c := 0) (d := 0) (e := 2) (f := 0) (n := 1) (by simp)
  go_upto_region 7 with (first | (go_at_call 32; (with_reducible refine (St.call h9 (sane_bnd _)).mono ?_); rintro en w10 ⟨rfl, h10⟩))
  have h11 := h10.alloc (ro 0 0 4 2)
  generalize w10.heap.size = b4 at h11 ⊢
  generalize w10.alloc (ro 0 0 4 2) = w11 at h11 ⊢
  clear hs h2 h3 h4 h5 h6 h7 h8 h9 h10
  have HP : Hid (∀ V9, St w [(b4, ro 0 0 4 2), (b3, pob 1 (-1)), (b2, ao 1 0 0 0 1 0 2), (b1, ao 1 0 4 0 1 6 1), (b0, ao 2 0 0 0 2 0 1)] V9 → St w [(b4, ro 0 0 4 2), (b3, pob 1 (-1)), (b2, ao 1 0 0 0 1 0 2), (b1, ao 1 0 4 0 1 6 1), (b0, ao 2 0 0 0 2 0 1)] V9 ∧ AB V9 b1 1 0 4 0 1 6 1 ∧ AB V9 b2 1 0 0 0 1 0 2 ∧ TB V9 b3 1 (-1) ∧ RB V9 b4 0 0 4 2) := fun V hV => ⟨hV, St.aff hV (by simp), St.aff hV (by simp), St.pt hV (by simp), St.rect hV (by simp)⟩
  refine wp_region_held_drew (S := fun V9 => St w [(b4, ro 0 0 4 2), (b3, pob 1 (-1)), (b2, ao 1 0 0 0 1 0 2), (b1, ao 1 0 4 0 1 6 1), (b0, ao 2 0 0 0 2 0 1)] V9 ∧ AB V9 b1 1 0 4 0 1 6 1 ∧ AB V9 b2 1 0 0 0 1 0 2 ∧ TB V9 b3 1 (-1) ∧ RB V9 b4 0 0 4 2) (by kernel_rfl) ?_ (fun hHeld => ?_)
  · exact HP.out _ (h11.drew)
  have h110 := h11.drew
  refine wpAnyH_take (i := 0) (oi := { dst := some 49, op := Op.move (Operand.tmp 10), type := 4, pos := "law.go:20", after := #[], guard := none }) (v := ?_) rfl (by kernel_rfl) (by kernel_rfl) (by kernel_rfl) (fun _ _ _ h => h) (Or.inl ⟨by kernel_rfl, ?_⟩) (by assumption) ?_
  rotate_left 1
  focus (intro w hSw; (try dsimp only at hSw); go_simp; (try with_reducible rfl))
  try simp only [Act.put, List.setIfInBounds_toArray, List.set_cons_zero, List.set_cons_succ]
  refine wpAnyH_take (i := 1) (oi := { dst := some 50, op := Op.move (Operand.tmp 49), type := 4, pos := "law.go:20", after := #[{ on := 0, ground := Ground.data }], guard := none }) (v := ?_) rfl (by kernel_rfl) (by kernel_rfl) (by kernel_rfl) (fun _ _ _ h => h) (Or.inl ⟨by kernel_rfl, ?_⟩) (by assumption) ?_
  rotate_left 1
  focus (intro w hSw; (try dsimp only at hSw); go_simp; (try with_reducible rfl))
  try simp only [Act.put, List.setIfInBounds_toArray, List.set_cons_zero, List.set_cons_succ]
  refine wpAnyH_take (i := 2) (oi := { dst := some 51, op := Op.load 23 (Operand.tmp 2), type := 23, pos := "law.go:20", after := #[{ on := 1, ground := Ground.guard }], guard := some (1, true) }) (v := ?_) rfl (by kernel_rfl) (by kernel_rfl) (by kernel_rfl) (fun _ _ _ h => h) (Or.inl ⟨by kernel_rfl, ?_⟩) (by assumption) ?_
  rotate_left 1
  focus (intro w hSw; (try dsimp only at hSw); go_simp; (try with_reducible rfl))
  try simp only [Act.put, List.setIfInBounds_toArray, List.set_cons_zero, List.set_cons_succ]
  refine wpAnyH_ready (rs := [3]) (by kernel_rfl) (by simp) (AllReadyH.cons (o := { dst := some 52, op := Op.call { callee := Callee.value (Operand.func 22), args := #[Operand.const (Value.int IntKind.i64 4), Operand.const (Value.int IntKind.i64 6)], argTypes := #[3, 3] }, type := 23, pos := "law.go:20", after := #[{ on := 1, ground := Ground.chain }, { on := 1, ground := Ground.guard }], guard := some (1, true) }) rfl (fun K hK => ?_) AllReadyH.nil)
  (go_simp; (go_at_call 22; (refine (St.call h110 (shift_any 4 6 _)).mono ?_); rintro e V1r7 ⟨rfl, h111r7⟩))
  refine hK.out _ _ ?_ (fun hHeld => ?_)
  · exact HP.out _ (h111r7)
  clear hK K
  try simp only [Act.put, List.setIfInBounds_toArray, List.set_cons_zero, List.set_cons_succ]
  refine wpAnyH_take (i := 4) (oi := { dst := some 53, op := Op.binOp BinOp.eql 23 (Operand.tmp 51) (Operand.tmp 52) 23, type := 4, pos := "law.go:20", after := #[{ on := 2, ground := Ground.data }, { on := 3, ground := Ground.data }, { on := 1, ground := Ground.guard }], guard := some (1, true) }) (v := ?_) rfl (by kernel_rfl) (by kernel_rfl) (by kernel_rfl) (fun _ _ _ h => h) (Or.inl ⟨by kernel_rfl, ?_⟩) (by assumption) ?_
  rotate_left 1
  focus (intro w hSw; (try dsimp only at hSw); go_simp; (try with_reducible rfl))
  try simp only [Act.put, List.setIfInBounds_toArray, List.set_cons_zero, List.set_cons_succ]
  refine wpAnyH_take (i := 5) (oi := { dst := some 54, op := Op.pick (Operand.tmp 50) (Operand.tmp 53) (Operand.const (Value.bool false)), type := 4, pos := "law.go:20", after := #[{ on := 1, ground := Ground.data }, { on := 4, ground := Ground.data }], guard := none }) (v := ?_) rfl (by kernel_rfl) (by kernel_rfl) (by kernel_rfl) (fun _ _ _ h => h) (Or.inl ⟨by kernel_rfl, ?_⟩) (by assumption) ?_
  rotate_left 1
  focus (intro w hSw; (try dsimp only at hSw); go_simp; (try with_reducible rfl))
  try simp only [Act.put, List.setIfInBounds_toArray, List.set_cons_zero, List.set_cons_succ]
  refine wpAnyH_take (i := 6) (oi := { dst := some 55, op := Op.move (Operand.tmp 54), type := 4, pos := "law.go:20", after := #[{ on := 5, ground := Ground.data }, { on := 3, ground := Ground.chain }], guard := none }) (v := ?_) rfl (by kernel_rfl) (by kernel_rfl) (by kernel_rfl) (fun _ _ _ h => h) (Or.inl ⟨by kernel_rfl, ?_⟩) (by assumption) ?_
  rotate_left 1
  focus (intro w hSw; (try dsimp only at hSw); go_simp; (try with_reducible rfl))
  try simp only [Act.put, List.setIfInBounds_toArray, List.set_cons_zero, List.set_cons_succ]
  refine wpAnyH_take (i := 7) (oi := { dst := some 56, op := Op.load 23 (Operand.tmp 4), type := 23, pos := "law.go:20", after := #[{ on := 6, ground := Ground.guard }], guard := some (6, true) }) (v := ?_) rfl (by kernel_rfl) (by kernel_rfl) (by kernel_rfl) (fun _ _ _ h => h) (Or.inl ⟨by kernel_rfl, ?_⟩) (by assumption) ?_
  rotate_left 1
  focus (intro w hSw; (try dsimp only at hSw); go_simp; (try with_reducible rfl))
  try simp only [Act.put, List.setIfInBounds_toArray, List.set_cons_zero, List.set_cons_succ]
  refine wpAnyH_take (i := 8) (oi := { dst := some 57, op := Op.build 23 #[(0, Operand.const (Value.int IntKind.i64 1)), (4, Operand.const (Value.int IntKind.i64 1)), (6, Operand.const (Value.int IntKind.i64 2))], type := 23, pos := "law.go:20", after := #[{ on := 6, ground := Ground.guard }], guard := some (6, true) }) (v := ?_) rfl (by kernel_rfl) (by kernel_rfl) (by kernel_rfl) (fun _ _ _ h => h) (Or.inl ⟨by kernel_rfl, ?_⟩) (by assumption) ?_
  rotate_left 1
  focus (intro w hSw; (try dsimp only at hSw); go_simp; (try with_reducible rfl))
  try simp only [Act.put, List.setIfInBounds_toArray, List.set_cons_zero, List.set_cons_succ]
  refine wpAnyH_take (i := 9) (oi := { dst := some 58, op := Op.binOp BinOp.eql 23 (Operand.tmp 56) (Operand.tmp 57) 23, type := 4, pos := "law.go:20", after := #[{ on := 7, ground := Ground.data }, { on := 8, ground := Ground.data }, { on := 6, ground := Ground.guard }], guard := some (6, true) }) (v := ?_) rfl (by kernel_rfl) (by kernel_rfl) (by kernel_rfl) (fun _ _ _ h => h) (Or.inl ⟨by kernel_rfl, ?_⟩) (by assumption) ?_
  rotate_left 1
  focus (intro w hSw; (try dsimp only at hSw); go_simp; (try with_reducible rfl))
  try simp only [Act.put, List.setIfInBounds_toArray, List.set_cons_zero, List.set_cons_succ]
  refine wpAnyH_take (i := 10) (oi := { dst := some 59, op := Op.pick (Operand.tmp 55) (Operand.tmp 58) (Operand.const (Value.bool false)), type := 4, pos := "law.go:20", after := #[{ on := 6, ground := Ground.data }, { on := 9, ground := Ground.data }], guard := none }) (v := ?_) rfl (by kernel_rfl) (by kernel_rfl) (by kernel_rfl) (fun _ _ _ h => h) (Or.inl ⟨by kernel_rfl, ?_⟩) (by assumption) ?_
  rotate_left 1
  focus (intro w hSw; (try dsimp only at hSw); go_simp; (try with_reducible rfl))
  try simp only [Act.put, List.setIfInBounds_toArray, List.set_cons_zero, List.set_cons_succ]
  refine wpAnyH_take (i := 11) (oi := { dst := some 60, op := Op.move (Operand.tmp 59), type := 4, pos := "law.go:20", after := #[{ on := 10, ground := Ground.data }, { on := 6, ground := Ground.chain }], guard := none }) (v := ?_) rfl (by kernel_rfl) (by kernel_rfl) (by kernel_rfl) (fun _ _ _ h => h) (Or.inl ⟨by kernel_rfl, ?_⟩) (by assumption) ?_
  rotate_left 1
  focus (intro w hSw; (try dsimp only at hSw); go_simp; (try with_reducible rfl))
  try simp only [Act.put, List.setIfInBounds_toArray, List.set_cons_zero, List.set_cons_succ]
  refine wpAnyH_take (i := 12) (oi := { dst := some 61, op := Op.load 49 (Operand.tmp 6), type := 49, pos := "law.go:20", after := #[{ on := 11, ground := Ground.guard }], guard := some (11, true) }) (v := ?_) rfl (by kernel_rfl) (by kernel_rfl) (by kernel_rfl) (fun _ _ _ h => h) (Or.inl ⟨by kernel_rfl, ?_⟩) (by assumption) ?_
  rotate_left 1
  focus (intro w hSw; (try dsimp only at hSw); go_simp; (try with_reducible rfl))
  try simp only [Act.put, List.setIfInBounds_toArray, List.set_cons_zero, List.set_cons_succ]
  refine wpAnyH_take (i := 13) (oi := { dst := some 62, op := Op.build 49 #[(0, Operand.const (Value.int IntKind.i64 1)), (1, Operand.const (Value.int IntKind.i64 (-1)))], type := 49, pos := "law.go:20", after := #[{ on := 11, ground := Ground.guard }], guard := some (11, true) }) (v := ?_) rfl (by kernel_rfl) (by kernel_rfl) (by kernel_rfl) (fun _ _ _ h => h) (Or.inl ⟨by kernel_rfl, ?_⟩) (by assumption) ?_
  rotate_left 1
  focus (intro w hSw; (try dsimp only at hSw); go_simp; (try with_reducible rfl))
  try simp only [Act.put, List.setIfInBounds_toArray, List.set_cons_zero, List.set_cons_succ]
  refine wpAnyH_take (i := 14) (oi := { dst := some 63, op := Op.binOp BinOp.eql 49 (Operand.tmp 61) (Operand.tmp 62) 49, type := 4, pos := "law.go:20", after := #[{ on := 12, ground := Ground.data }, { on := 13, ground := Ground.data }, { on := 11, ground := Ground.guard }], guard := some (11, true) }) (v := ?_) rfl (by kernel_rfl) (by kernel_rfl) (by kernel_rfl) (fun _ _ _ h => h) (Or.inl ⟨by kernel_rfl, ?_⟩) (by assumption) ?_
  rotate_left 1
  focus (intro w hSw; (try dsimp only at hSw); go_simp; (try with_reducible rfl))
  try simp only [Act.put, List.setIfInBounds_toArray, List.set_cons_zero, List.set_cons_succ]
  refine wpAnyH_take (i := 15) (oi := { dst := some 64, op := Op.pick (Operand.tmp 60) (Operand.tmp 63) (Operand.const (Value.bool false)), type := 4, pos := "law.go:20", after := #[{ on := 11, ground := Ground.data }, { on := 14, ground := Ground.data }], guard := none }) (v := ?_) rfl (by kernel_rfl) (by kernel_rfl) (by kernel_rfl) (fun _ _ _ h => h) (Or.inl ⟨by kernel_rfl, ?_⟩) (by assumption) ?_
  rotate_left 1
  focus (intro w hSw; (try dsimp only at hSw); go_simp; (try with_reducible rfl))
  try simp only [Act.put, List.setIfInBounds_toArray, List.set_cons_zero, List.set_cons_succ]
  refine wpAnyH_take (i := 16) (oi := { dst := some 65, op := Op.move (Operand.tmp 64), type := 4, pos := "law.go:20", after := #[{ on := 15, ground := Ground.data }, { on := 11, ground := Ground.chain }], guard := none }) (v := ?_) rfl (by kernel_rfl) (by kernel_rfl) (by kernel_rfl) (fun _ _ _ h => h) (Or.inl ⟨by kernel_rfl, ?_⟩) (by assumption) ?_
  rotate_left 1
  focus (intro w hSw; (try dsimp only at hSw); go_simp; (try with_reducible rfl))
  try simp only [Act.put, List.setIfInBounds_toArray, List.set_cons_zero, List.set_cons_succ]
  refine wpAnyH_take (i := 17) (oi := { dst := some 66, op := Op.load 51 (Operand.tmp 8), type := 51, pos := "law.go:20", after := #[{ on := 16, ground := Ground.guard }], guard := some (16, true) }) (v := ?_) rfl (by kernel_rfl) (by kernel_rfl) (by kernel_rfl) (fun _ _ _ h => h) (Or.inl ⟨by kernel_rfl, ?_⟩) (by assumption) ?_
  rotate_left 1
  focus (intro w hSw; (try dsimp only at hSw); go_simp; (try with_reducible rfl))
  try simp only [Act.put, List.setIfInBounds_toArray, List.set_cons_zero, List.set_cons_succ]
  refine wpAnyH_take (i := 18) (oi := { dst := some 67, op := Op.build 51 #[(2, Operand.const (Value.int IntKind.i64 4)), (3, Operand.const (Value.int IntKind.i64 2))], type := 51, pos := "law.go:20", after := #[{ on := 16, ground := Ground.guard }], guard := some (16, true) }) (v := ?_) rfl (by kernel_rfl) (by kernel_rfl) (by kernel_rfl) (fun _ _ _ h => h) (Or.inl ⟨by kernel_rfl, ?_⟩) (by assumption) ?_
  rotate_left 1
  focus (intro w hSw; (try dsimp only at hSw); go_simp; (try with_reducible rfl))
  try simp only [Act.put, List.setIfInBounds_toArray, List.set_cons_zero, List.set_cons_succ]
  refine wpAnyH_take (i := 19) (oi := { dst := some 68, op := Op.binOp BinOp.eql 51 (Operand.tmp 66) (Operand.tmp 67) 51, type := 4, pos := "law.go:20", after := #[{ on := 17, ground := Ground.data }, { on := 18, ground := Ground.data }, { on := 16, ground := Ground.guard }], guard := some (16, true) }) (v := ?_) rfl (by kernel_rfl) (by kernel_rfl) (by kernel_rfl) (fun _ _ _ h => h) (Or.inl ⟨by kernel_rfl, ?_⟩) (by assumption) ?_
  rotate_left 1
  focus (intro w hSw; (try dsimp only at hSw); go_simp; (try with_reducible rfl))
  try simp only [Act.put, List.setIfInBounds_toArray, List.set_cons_zero, List.set_cons_succ]
  refine wpAnyH_take (i := 20) (oi := { dst := some 69, op := Op.pick (Operand.tmp 65) (Operand.tmp 68) (Operand.const (Value.bool false)), type := 4, pos := "law.go:20", after := #[{ on := 16, ground := Ground.data }, { on := 19, ground := Ground.data }], guard := none }) (v := ?_) rfl (by kernel_rfl) (by kernel_rfl) (by kernel_rfl) (fun _ _ _ h => h) (Or.inl ⟨by kernel_rfl, ?_⟩) (by assumption) ?_
  rotate_left 1
  focus (intro w hSw; (try dsimp only at hSw); go_simp; (try with_reducible rfl))
  try simp only [Act.put, List.setIfInBounds_toArray, List.set_cons_zero, List.set_cons_succ]
  refine wpAnyH_take (i := 21) (oi := { dst := some 0, op := Op.assign (Operand.tmp 69), type := 4, pos := "law.go:20", after := #[{ on := 20, ground := Ground.data }, { on := 16, ground := Ground.chain }, { on := 0, ground := Ground.phase }, { on := 1, ground := Ground.phase }, { on := 2, ground := Ground.phase }, { on := 3, ground := Ground.phase }, { on := 4, ground := Ground.phase }, { on := 5, ground := Ground.phase }, { on := 6, ground := Ground.phase }, { on := 7, ground := Ground.phase }, { on := 8, ground := Ground.phase }, { on := 9, ground := Ground.phase }, { on := 10, ground := Ground.phase }, { on := 11, ground := Ground.phase }, { on := 12, ground := Ground.phase }, { on := 13, ground := Ground.phase }, { on := 14, ground := Ground.phase }, { on := 15, ground := Ground.phase }, { on := 16, ground := Ground.phase }, { on := 17, ground := Ground.phase }, { on := 18, ground := Ground.phase }, { on := 19, ground := Ground.phase }, { on := 20, ground := Ground.phase }], guard := none }) (v := ?_) rfl (by kernel_rfl) (by kernel_rfl) (by kernel_rfl) (fun _ _ _ h => h) (Or.inl ⟨by kernel_rfl, ?_⟩) (by assumption) ?_
  rotate_left 1
  focus (intro w hSw; (try dsimp only at hSw); go_simp; (try with_reducible rfl))
  try simp only [Act.put, List.setIfInBounds_toArray, List.set_cons_zero]
  refine wpAnyH_done (by kernel_rfl) ?_ _
  have h9 := h111r7
  go_wp2
  go_ret
  subst hb0
  exact ⟨rfl, h9.below⟩
end Go.Proofs.Ytgipfcpkphmbpaa.F
