/-
  rest and Small.
-/
import Derived.Test.YtgipfcpkphmbpaaASmp
import Derived.Deep.DeepCutAuto
namespace Go.Proofs.Ytgipfcpkphmbpaa.F
open Go.RowKit
set_option maxRecDepth 100000

theorem rest_mod' (a b : Int) (h0 : 1 ≤ b) (h1 : b ≤ 1000000) : (wrap64 (a.tmod b + b)).tmod b = a % b := by
  have e1 : a.tmod b < b := Int.tmod_lt_of_pos a (by omega)
  have e2 : -b < a.tmod b := by have := Int.lt_tmod_of_pos a (show (0:Int) < b by omega); omega
  rw [IntWalk.wrap64_in _ ⟨by omega, by omega⟩, Int.tmod_eq_emod_of_nonneg (by omega), Int.add_emod_right]
  have h2 := Int.tmod_add_tdiv_mul a b
  have : a % b = (a.tmod b + a.tdiv b * b) % b := by rw [h2]
  rw [this, Int.add_mul_emod_self_right]
theorem lrest_any0 (a b : Int) (w : World) (h0 : 1 ≤ b) (h1 : b ≤ 1000000) : Calls Try.prog 15 #[.int .i64 a, .int .i64 b] w fun e w' => e = .returned (.int .i64 ((wrap64 (a.tmod b + b)).tmod b)) ∧ w = w' := by
  go_enter Try.func15, Try.ntmps15
  go_wp2
  go_ret
  exact ⟨rfl, rfl⟩
theorem lrest_any (a b : Int) (w : World) (h0 : 1 ≤ b) (h1 : b ≤ 1000000) : Calls Try.prog 15 #[.int .i64 a, .int .i64 b] w fun e w' => e = .returned (.int .i64 (a % b)) ∧ Below w.heap.size w w' := by
  have h := lrest_any0 a b w h0 h1
  rw [rest_mod' a b h0 h1] at h
  exact h.mono fun _ _ ⟨x, y⟩ => ⟨x, y ▸ Below.refl _ _⟩
theorem rrest_any0 (a b : Int) (w : World) (h0 : 1 ≤ b) (h1 : b ≤ 1000000) : Calls Try.prog 41 #[.int .i64 a, .int .i64 b] w fun e w' => e = .returned (.int .i64 ((wrap64 (a.tmod b + b)).tmod b)) ∧ w = w' := by
  go_enter Try.func41, Try.ntmps41
  go_wp2
  go_ret
  exact ⟨rfl, rfl⟩
theorem rrest_any (a b : Int) (w : World) (h0 : 1 ≤ b) (h1 : b ≤ 1000000) : Calls Try.prog 41 #[.int .i64 a, .int .i64 b] w fun e w' => e = .returned (.int .i64 (a % b)) ∧ Below w.heap.size w w' := by
  have h := rrest_any0 a b w h0 h1
  rw [rest_mod' a b h0 h1] at h
  exact h.mono fun _ _ ⟨x, y⟩ => ⟨x, y ▸ Below.refl _ _⟩
abbrev ba7 (q0 q1 q2 q3 q4 q5 q6 : Int) : Af := ⟨q0 % 9 - 4, q1 % 9 - 4, q2 % 41 - 20, q3 % 9 - 4, q4 % 9 - 4, q5 % 41 - 20, 1 + q6 % 4⟩
/-- a small valid placement -/
def sm7 (q0 q1 q2 q3 q4 q5 q6 : Int) : Af := if det (ba7 q0 q1 q2 q3 q4 q5 q6) = 0 then ⟨1, 0, (ba7 q0 q1 q2 q3 q4 q5 q6).c, (ba7 q0 q1 q2 q3 q4 q5 q6).d, 1, (ba7 q0 q1 q2 q3 q4 q5 q6).f, (ba7 q0 q1 q2 q3 q4 q5 q6).n⟩ else ba7 q0 q1 q2 q3 q4 q5 q6
/-- a small placement's bounds -/
def Sl (x : Af) : Prop := (-4 ≤ x.a ∧ x.a ≤ 4) ∧ (-4 ≤ x.b ∧ x.b ≤ 4) ∧ (-4 ≤ x.d ∧ x.d ≤ 4) ∧ (-4 ≤ x.e ∧ x.e ≤ 4) ∧ (-20 ≤ x.c ∧ x.c ≤ 20) ∧ (-20 ≤ x.f ∧ x.f ≤ 20) ∧ (1 ≤ x.n ∧ x.n ≤ 4)
theorem sm7_sl (q0 q1 q2 q3 q4 q5 q6 : Int) : Sl (sm7 q0 q1 q2 q3 q4 q5 q6) ∧ det (sm7 q0 q1 q2 q3 q4 q5 q6) ≠ 0 := by
  unfold sm7
  split
  · refine ⟨by unfold Sl; simp only; omega, ?_⟩
    unfold det; simp only; omega
  · exact ⟨by unfold Sl; simp only; omega, by assumption⟩
theorem sl_bd {x : Af} (h : Sl x) : Bd x := by unfold Sl at h; unfold Bd; omega
theorem sm7_ok (q0 q1 q2 q3 q4 q5 q6 : Int) : Ok (sm7 q0 q1 q2 q3 q4 q5 q6) := ⟨sl_bd (sm7_sl q0 q1 q2 q3 q4 q5 q6).1, (sm7_sl q0 q1 q2 q3 q4 q5 q6).2⟩
theorem zero_aff (w : World) : (zeroValue 23).run Try.prog w = .ok (av 0 0 0 0 0 0 0) w := by kernel_rfl
theorem ba7_bd (q0 q1 q2 q3 q4 q5 q6 : Int) : Bd (ba7 q0 q1 q2 q3 q4 q5 q6) := by unfold Bd; simp only; omega
set_option maxHeartbeats 8000000 in
theorem sm7_any (q0 q1 q2 q3 q4 q5 q6 : Int) (w : World) : Calls Try.prog 14 #[.agg #[.int .i64 q0, .int .i64 q1, .int .i64 q2, .int .i64 q3, .int .i64 q4, .int .i64 q5, .int .i64 q6]] w fun en w' => en = .returned (sm7 q0 q1 q2 q3 q4 q5 q6).v ∧ Below w.heap.size w w' := by
  have HD : Hid (∀ W, Calls Try.prog 36 #[av (q0 % 9 - 4) (q1 % 9 - 4) (q2 % 41 - 20) (q3 % 9 - 4) (q4 % 9 - 4) (q5 % 41 - 20) (1 + q6 % 4)] W fun en w' => en = .returned (.int .i64 (det (ba7 q0 q1 q2 q3 q4 q5 q6))) ∧ Below W.heap.size W w') := fun W => by
    have := refDet_any (q0 % 9 - 4) (q1 % 9 - 4) (q2 % 41 - 20) (q3 % 9 - 4) (q4 % 9 - 4) (q5 % 41 - 20) (1 + q6 % 4) W; rw [detw_eq (ba7_bd q0 q1 q2 q3 q4 q5 q6)] at this; exact this
  have hB := ba7_bd q0 q1 q2 q3 q4 q5 q6
  have g0 : Hid (∀ W, Calls Try.prog 41 #[.int .i64 q0, .int .i64 9] W fun en w' => en = .returned (.int .i64 (q0 % 9)) ∧ Below W.heap.size W w') := fun W => rrest_any _ _ W (by omega) (by omega)
  have g1 : Hid (∀ W, Calls Try.prog 41 #[.int .i64 q1, .int .i64 9] W fun en w' => en = .returned (.int .i64 (q1 % 9)) ∧ Below W.heap.size W w') := fun W => rrest_any _ _ W (by omega) (by omega)
  have g2 : Hid (∀ W, Calls Try.prog 41 #[.int .i64 q2, .int .i64 41] W fun en w' => en = .returned (.int .i64 (q2 % 41)) ∧ Below W.heap.size W w') := fun W => rrest_any _ _ W (by omega) (by omega)
  have g3 : Hid (∀ W, Calls Try.prog 41 #[.int .i64 q3, .int .i64 9] W fun en w' => en = .returned (.int .i64 (q3 % 9)) ∧ Below W.heap.size W w') := fun W => rrest_any _ _ W (by omega) (by omega)
  have g4 : Hid (∀ W, Calls Try.prog 41 #[.int .i64 q4, .int .i64 9] W fun en w' => en = .returned (.int .i64 (q4 % 9)) ∧ Below W.heap.size W w') := fun W => rrest_any _ _ W (by omega) (by omega)
  have g5 : Hid (∀ W, Calls Try.prog 41 #[.int .i64 q5, .int .i64 41] W fun en w' => en = .returned (.int .i64 (q5 % 41)) ∧ Below W.heap.size W w') := fun W => rrest_any _ _ W (by omega) (by omega)
  have g6 : Hid (∀ W, Calls Try.prog 41 #[.int .i64 q6, .int .i64 4] W fun en w' => en = .returned (.int .i64 (q6 % 4)) ∧ Below W.heap.size W w') := fun W => rrest_any _ _ W (by omega) (by omega)
  obtain ⟨s0, hs0⟩ : ∃ s, s = q0 % 9 - 4 := ⟨_, rfl⟩
  obtain ⟨s1, hs1⟩ : ∃ s, s = q1 % 9 - 4 := ⟨_, rfl⟩
  obtain ⟨s2, hs2⟩ : ∃ s, s = q2 % 41 - 20 := ⟨_, rfl⟩
  obtain ⟨s3, hs3⟩ : ∃ s, s = q3 % 9 - 4 := ⟨_, rfl⟩
  obtain ⟨s4, hs4⟩ : ∃ s, s = q4 % 9 - 4 := ⟨_, rfl⟩
  obtain ⟨s5, hs5⟩ : ∃ s, s = q5 % 41 - 20 := ⟨_, rfl⟩
  obtain ⟨s6, hs6⟩ : ∃ s, s = 1 + q6 % 4 := ⟨_, rfl⟩
  have m0 : IntKind.i64.wrap (q0 % 9 - 4) = s0 := by rw [hs0]; exact wI64 ⟨by omega, by omega⟩
  have m1 : IntKind.i64.wrap (q1 % 9 - 4) = s1 := by rw [hs1]; exact wI64 ⟨by omega, by omega⟩
  have m2 : IntKind.i64.wrap (q2 % 41 - 20) = s2 := by rw [hs2]; exact wI64 ⟨by omega, by omega⟩
  have m3 : IntKind.i64.wrap (q3 % 9 - 4) = s3 := by rw [hs3]; exact wI64 ⟨by omega, by omega⟩
  have m4 : IntKind.i64.wrap (q4 % 9 - 4) = s4 := by rw [hs4]; exact wI64 ⟨by omega, by omega⟩
  have m5 : IntKind.i64.wrap (q5 % 41 - 20) = s5 := by rw [hs5]; exact wI64 ⟨by omega, by omega⟩
  have m6 : IntKind.i64.wrap (1 + q6 % 4) = s6 := by rw [hs6]; exact wI64 ⟨by omega, by omega⟩
  have HS : Hid (sm7 q0 q1 q2 q3 q4 q5 q6 = if det (ba7 q0 q1 q2 q3 q4 q5 q6) = 0 then ⟨1, 0, s2, s3, 1, s5, s6⟩ else ⟨s0, s1, s2, s3, s4, s5, s6⟩) := by
    show _ = _; subst hs0 hs1 hs2 hs3 hs4 hs5 hs6; rfl
  rw [HS.out]
  clear HS hB
  generalize det (ba7 q0 q1 q2 q3 q4 q5 q6) = dd at HD ⊢
  obtain ⟨t0, t1, t2, t3, t4, t5, t6, ht⟩ : ∃ t0 t1 t2 t3 t4 t5 t6, (if dd = 0 then ⟨1, 0, s2, s3, 1, s5, s6⟩ else ⟨s0, s1, s2, s3, s4, s5, s6⟩ : Af) = ⟨t0, t1, t2, t3, t4, t5, t6⟩ := ⟨_, _, _, _, _, _, _, rfl⟩
  rw [ht]
  have HT := Lib.hid ht
  clear ht
  rw [← hs0, ← hs1, ← hs2, ← hs3, ← hs4, ← hs5, ← hs6] at HD
  generalize q0 % 9 = n0 at g0 m0; generalize q1 % 9 = n1 at g1 m1; generalize q2 % 41 = n2 at g2 m2; generalize q3 % 9 = n3 at g3 m3; generalize q4 % 9 = n4 at g4 m4; generalize q5 % 41 = n5 at g5 m5; generalize q6 % 4 = n6 at g6 m6
  clear hs0 hs1 hs2 hs3 hs4 hs5 hs6
  go_enter Try.func14, Try.ntmps14
  go_upto_region 1 with fail
  have hs := ((St.start w).alloc (.cells #[.int .i64 q0, .int .i64 q1, .int .i64 q2, .int .i64 q3, .int .i64 q4, .int .i64 q5, .int .i64 q6] 26)).alloc (ao 0 0 0 0 0 0 0)
  rw [World.size_alloc] at hs
  generalize hb0 : w.heap.size = b0 at hs ⊢
  generalize (w.alloc (.cells #[.int .i64 q0, .int .i64 q1, .int .i64 q2, .int .i64 q3, .int .i64 q4, .int .i64 q5, .int .i64 q6] 26)).alloc (ao 0 0 0 0 0 0 0) = w1 at hs ⊢
  have HP : Hid (∀ V9, St w [(b0 + 1, ao 0 0 0 0 0 0 0), (b0, (.cells #[.int .i64 q0, .int .i64 q1, .int .i64 q2, .int .i64 q3, .int .i64 q4, .int .i64 q5, .int .i64 q6] 26 : Obj))] V9 → St w [(b0 + 1, ao 0 0 0 0 0 0 0), (b0, (.cells #[.int .i64 q0, .int .i64 q1, .int .i64 q2, .int .i64 q3, .int .i64 q4, .int .i64 q5, .int .i64 q6] 26 : Obj))] V9 ∧ AB V9 b0 q0 q1 q2 q3 q4 q5 q6) := fun V hV => ⟨hV, hV.cell (b := b0) (cs := #[.int .i64 q0, .int .i64 q1, .int .i64 q2, .int .i64 q3, .int .i64 q4, .int .i64 q5, .int .i64 q6]) (t := 26) (by simp) 0, hV.cell (b := b0) (cs := #[.int .i64 q0, .int .i64 q1, .int .i64 q2, .int .i64 q3, .int .i64 q4, .int .i64 q5, .int .i64 q6]) (t := 26) (by simp) 1, hV.cell (b := b0) (cs := #[.int .i64 q0, .int .i64 q1, .int .i64 q2, .int .i64 q3, .int .i64 q4, .int .i64 q5, .int .i64 q6]) (t := 26) (by simp) 2, hV.cell (b := b0) (cs := #[.int .i64 q0, .int .i64 q1, .int .i64 q2, .int .i64 q3, .int .i64 q4, .int .i64 q5, .int .i64 q6]) (t := 26) (by simp) 3, hV.cell (b := b0) (cs := #[.int .i64 q0, .int .i64 q1, .int .i64 q2, .int .i64 q3, .int .i64 q4, .int .i64 q5, .int .i64 q6]) (t := 26) (by simp) 4, hV.cell (b := b0) (cs := #[.int .i64 q0, .int .i64 q1, .int .i64 q2, .int .i64 q3, .int .i64 q4, .int .i64 q5, .int .i64 q6]) (t := 26) (by simp) 5, hV.cell (b := b0) (cs := #[.int .i64 q0, .int .i64 q1, .int .i64 q2, .int .i64 q3, .int .i64 q4, .int .i64 q5, .int .i64 q6]) (t := 26) (by simp) 6⟩
  go_cut [3] (fun v9 wx => ∃ b9, v9 = .pointer (some ⟨b9, 0, none⟩) ∧ b9 ≠ b0 + 1 ∧ b0 + 1 < b9 ∧ Hid (St w [(b9, ao s0 s1 s2 s3 s4 s5 s6), (b0 + 1, ao 0 0 0 0 0 0 0)] wx))
  case first =>
    refine wp_region_held_drew (S := fun V9 => St w [(b0 + 1, ao 0 0 0 0 0 0 0), (b0, (.cells #[.int .i64 q0, .int .i64 q1, .int .i64 q2, .int .i64 q3, .int .i64 q4, .int .i64 q5, .int .i64 q6] 26 : Obj))] V9 ∧ AB V9 b0 q0 q1 q2 q3 q4 q5 q6) (by kernel_rfl) ?_ (fun hHeld => ?_)
    · exact HP.out _ (hs.drew)
    have hs0 := hs.drew
    refine wpAnyH_take (i := 0) (oi := { dst := some 4, op := Op.indexAddr 26 (Operand.tmp 1) (Operand.const (Value.int IntKind.i64 0)), type := 0, pos := "ref.go:176", after := #[], guard := none }) (v := ?_) rfl (by kernel_rfl) (by kernel_rfl) (by kernel_rfl) (fun _ _ _ h => h) (Or.inl ⟨by kernel_rfl, ?_⟩) (by assumption) ?_
    rotate_left 1
    focus (intro w hSw; (try dsimp only at hSw); go_simp; (try with_reducible rfl))
    try simp only [Act.put, List.setIfInBounds_toArray, List.set_cons_zero, List.set_cons_succ]
    refine wpAnyH_take (i := 1) (oi := { dst := some 5, op := Op.load 3 (Operand.tmp 4), type := 3, pos := "ref.go:176", after := #[{ on := 0, ground := Ground.data }], guard := none }) (v := ?_) rfl (by kernel_rfl) (by kernel_rfl) (by kernel_rfl) (fun _ _ _ h => h) (Or.inl ⟨by kernel_rfl, ?_⟩) (by assumption) ?_
    rotate_left 1
    focus (intro w hSw; (try dsimp only at hSw); go_simp; (try with_reducible rfl))
    try simp only [Act.put, List.setIfInBounds_toArray, List.set_cons_zero, List.set_cons_succ]
    refine wpAnyH_take (i := 4) (oi := { dst := some 8, op := Op.indexAddr 26 (Operand.tmp 1) (Operand.const (Value.int IntKind.i64 1)), type := 0, pos := "ref.go:176", after := #[], guard := none }) (v := ?_) rfl (by kernel_rfl) (by kernel_rfl) (by kernel_rfl) (fun _ _ _ h => h) (Or.inl ⟨by kernel_rfl, ?_⟩) (by assumption) ?_
    rotate_left 1
    focus (intro w hSw; (try dsimp only at hSw); go_simp; (try with_reducible rfl))
    try simp only [Act.put, List.setIfInBounds_toArray, List.set_cons_zero, List.set_cons_succ]
    refine wpAnyH_take (i := 5) (oi := { dst := some 9, op := Op.load 3 (Operand.tmp 8), type := 3, pos := "ref.go:176", after := #[{ on := 4, ground := Ground.data }], guard := none }) (v := ?_) rfl (by kernel_rfl) (by kernel_rfl) (by kernel_rfl) (fun _ _ _ h => h) (Or.inl ⟨by kernel_rfl, ?_⟩) (by assumption) ?_
    rotate_left 1
    focus (intro w hSw; (try dsimp only at hSw); go_simp; (try with_reducible rfl))
    try simp only [Act.put, List.setIfInBounds_toArray, List.set_cons_zero, List.set_cons_succ]
    refine wpAnyH_take (i := 8) (oi := { dst := some 12, op := Op.indexAddr 26 (Operand.tmp 1) (Operand.const (Value.int IntKind.i64 2)), type := 0, pos := "ref.go:176", after := #[], guard := none }) (v := ?_) rfl (by kernel_rfl) (by kernel_rfl) (by kernel_rfl) (fun _ _ _ h => h) (Or.inl ⟨by kernel_rfl, ?_⟩) (by assumption) ?_
    rotate_left 1
    focus (intro w hSw; (try dsimp only at hSw); go_simp; (try with_reducible rfl))
    try simp only [Act.put, List.setIfInBounds_toArray, List.set_cons_zero, List.set_cons_succ]
    refine wpAnyH_take (i := 9) (oi := { dst := some 13, op := Op.load 3 (Operand.tmp 12), type := 3, pos := "ref.go:176", after := #[{ on := 8, ground := Ground.data }], guard := none }) (v := ?_) rfl (by kernel_rfl) (by kernel_rfl) (by kernel_rfl) (fun _ _ _ h => h) (Or.inl ⟨by kernel_rfl, ?_⟩) (by assumption) ?_
    rotate_left 1
    focus (intro w hSw; (try dsimp only at hSw); go_simp; (try with_reducible rfl))
    try simp only [Act.put, List.setIfInBounds_toArray, List.set_cons_zero, List.set_cons_succ]
    refine wpAnyH_take (i := 12) (oi := { dst := some 16, op := Op.indexAddr 26 (Operand.tmp 1) (Operand.const (Value.int IntKind.i64 3)), type := 0, pos := "ref.go:176", after := #[], guard := none }) (v := ?_) rfl (by kernel_rfl) (by kernel_rfl) (by kernel_rfl) (fun _ _ _ h => h) (Or.inl ⟨by kernel_rfl, ?_⟩) (by assumption) ?_
    rotate_left 1
    focus (intro w hSw; (try dsimp only at hSw); go_simp; (try with_reducible rfl))
    try simp only [Act.put, List.setIfInBounds_toArray, List.set_cons_zero, List.set_cons_succ]
    refine wpAnyH_take (i := 13) (oi := { dst := some 17, op := Op.load 3 (Operand.tmp 16), type := 3, pos := "ref.go:176", after := #[{ on := 12, ground := Ground.data }], guard := none }) (v := ?_) rfl (by kernel_rfl) (by kernel_rfl) (by kernel_rfl) (fun _ _ _ h => h) (Or.inl ⟨by kernel_rfl, ?_⟩) (by assumption) ?_
    rotate_left 1
    focus (intro w hSw; (try dsimp only at hSw); go_simp; (try with_reducible rfl))
    try simp only [Act.put, List.setIfInBounds_toArray, List.set_cons_zero, List.set_cons_succ]
    refine wpAnyH_take (i := 16) (oi := { dst := some 20, op := Op.indexAddr 26 (Operand.tmp 1) (Operand.const (Value.int IntKind.i64 4)), type := 0, pos := "ref.go:176", after := #[], guard := none }) (v := ?_) rfl (by kernel_rfl) (by kernel_rfl) (by kernel_rfl) (fun _ _ _ h => h) (Or.inl ⟨by kernel_rfl, ?_⟩) (by assumption) ?_
    rotate_left 1
    focus (intro w hSw; (try dsimp only at hSw); go_simp; (try with_reducible rfl))
    try simp only [Act.put, List.setIfInBounds_toArray, List.set_cons_zero, List.set_cons_succ]
    refine wpAnyH_take (i := 17) (oi := { dst := some 21, op := Op.load 3 (Operand.tmp 20), type := 3, pos := "ref.go:176", after := #[{ on := 16, ground := Ground.data }], guard := none }) (v := ?_) rfl (by kernel_rfl) (by kernel_rfl) (by kernel_rfl) (fun _ _ _ h => h) (Or.inl ⟨by kernel_rfl, ?_⟩) (by assumption) ?_
    rotate_left 1
    focus (intro w hSw; (try dsimp only at hSw); go_simp; (try with_reducible rfl))
    try simp only [Act.put, List.setIfInBounds_toArray, List.set_cons_zero, List.set_cons_succ]
    refine wpAnyH_take (i := 20) (oi := { dst := some 24, op := Op.indexAddr 26 (Operand.tmp 1) (Operand.const (Value.int IntKind.i64 5)), type := 0, pos := "ref.go:176", after := #[], guard := none }) (v := ?_) rfl (by kernel_rfl) (by kernel_rfl) (by kernel_rfl) (fun _ _ _ h => h) (Or.inl ⟨by kernel_rfl, ?_⟩) (by assumption) ?_
    rotate_left 1
    focus (intro w hSw; (try dsimp only at hSw); go_simp; (try with_reducible rfl))
    try simp only [Act.put, List.setIfInBounds_toArray, List.set_cons_zero, List.set_cons_succ]
    refine wpAnyH_take (i := 21) (oi := { dst := some 25, op := Op.load 3 (Operand.tmp 24), type := 3, pos := "ref.go:176", after := #[{ on := 20, ground := Ground.data }], guard := none }) (v := ?_) rfl (by kernel_rfl) (by kernel_rfl) (by kernel_rfl) (fun _ _ _ h => h) (Or.inl ⟨by kernel_rfl, ?_⟩) (by assumption) ?_
    rotate_left 1
    focus (intro w hSw; (try dsimp only at hSw); go_simp; (try with_reducible rfl))
    try simp only [Act.put, List.setIfInBounds_toArray, List.set_cons_zero, List.set_cons_succ]
    refine wpAnyH_take (i := 24) (oi := { dst := some 28, op := Op.indexAddr 26 (Operand.tmp 1) (Operand.const (Value.int IntKind.i64 6)), type := 0, pos := "ref.go:176", after := #[], guard := none }) (v := ?_) rfl (by kernel_rfl) (by kernel_rfl) (by kernel_rfl) (fun _ _ _ h => h) (Or.inl ⟨by kernel_rfl, ?_⟩) (by assumption) ?_
    rotate_left 1
    focus (intro w hSw; (try dsimp only at hSw); go_simp; (try with_reducible rfl))
    try simp only [Act.put, List.setIfInBounds_toArray, List.set_cons_zero, List.set_cons_succ]
    refine wpAnyH_take (i := 25) (oi := { dst := some 29, op := Op.load 3 (Operand.tmp 28), type := 3, pos := "ref.go:176", after := #[{ on := 24, ground := Ground.data }], guard := none }) (v := ?_) rfl (by kernel_rfl) (by kernel_rfl) (by kernel_rfl) (fun _ _ _ h => h) (Or.inl ⟨by kernel_rfl, ?_⟩) (by assumption) ?_
    rotate_left 1
    focus (intro w hSw; (try dsimp only at hSw); go_simp; (try with_reducible rfl))
    try simp only [Act.put, List.setIfInBounds_toArray, List.set_cons_zero, List.set_cons_succ]
    refine wpAnyH_ready (rs := [2, 29]) (by kernel_rfl) (by simp) (AllReadyH.cons (o := { dst := some 6, op := Op.call { callee := Callee.value (Operand.func 41), args := #[Operand.tmp 5, Operand.const (Value.int IntKind.i64 9)], argTypes := #[3, 3] }, type := 3, pos := "ref.go:176", after := #[{ on := 1, ground := Ground.data }], guard := none }) rfl (fun K hK => ?_) (AllReadyH.cons (o := { dst := some 3, op := Op.alloc 23, type := 0, pos := "ref.go:176", after := #[], guard := none }) rfl (fun K hK => ?_) AllReadyH.nil))
    · (go_simp; (go_at_call 41; (refine (St.call hs0 (g0.out _)).mono ?_); rintro e V1r1 ⟨rfl, hs1r1⟩))
      refine hK.out _ _ ?_ (fun hHeld => ?_)
      · exact HP.out _ (hs1r1)
      clear hK K
      try simp only [Act.put, List.setIfInBounds_toArray, List.set_cons_zero, List.set_cons_succ]
      refine wpAnyH_take (i := 3) (oi := { dst := some 7, op := Op.binOp BinOp.sub 3 (Operand.tmp 6) (Operand.const (Value.int IntKind.i64 4)) 3, type := 3, pos := "ref.go:176", after := #[{ on := 2, ground := Ground.data }], guard := none }) (v := ?_) rfl (by kernel_rfl) (by kernel_rfl) (by kernel_rfl) (fun _ _ _ h => h) (Or.inl ⟨by kernel_rfl, ?_⟩) (by assumption) ?_
      rotate_left 1
      focus (intro w hSw; (try dsimp only at hSw); go_simp; (try with_reducible rfl))
      try simp only [Act.put, List.setIfInBounds_toArray, List.set_cons_zero, List.set_cons_succ]
      refine wpAnyH_ready (rs := [6, 29]) (by kernel_rfl) (by simp) (AllReadyH.cons (o := { dst := some 10, op := Op.call { callee := Callee.value (Operand.func 41), args := #[Operand.tmp 9, Operand.const (Value.int IntKind.i64 9)], argTypes := #[3, 3] }, type := 3, pos := "ref.go:176", after := #[{ on := 5, ground := Ground.data }, { on := 2, ground := Ground.chain }], guard := none }) rfl (fun K hK => ?_) (AllReadyH.cons (o := { dst := some 3, op := Op.alloc 23, type := 0, pos := "ref.go:176", after := #[], guard := none }) rfl (fun K hK => ?_) AllReadyH.nil))
      · (go_simp; (go_at_call 41; (refine (St.call hs1r1 (g1.out _)).mono ?_); rintro e V2r1 ⟨rfl, hs2r1⟩))
        refine hK.out _ _ ?_ (fun hHeld => ?_)
        · exact HP.out _ (hs2r1)
        clear hK K
        try simp only [Act.put, List.setIfInBounds_toArray, List.set_cons_zero, List.set_cons_succ]
        refine wpAnyH_take (i := 7) (oi := { dst := some 11, op := Op.binOp BinOp.sub 3 (Operand.tmp 10) (Operand.const (Value.int IntKind.i64 4)) 3, type := 3, pos := "ref.go:176", after := #[{ on := 6, ground := Ground.data }], guard := none }) (v := ?_) rfl (by kernel_rfl) (by kernel_rfl) (by kernel_rfl) (fun _ _ _ h => h) (Or.inl ⟨by kernel_rfl, ?_⟩) (by assumption) ?_
        rotate_left 1
        focus (intro w hSw; (try dsimp only at hSw); go_simp; (try with_reducible rfl))
        try simp only [Act.put, List.setIfInBounds_toArray, List.set_cons_zero, List.set_cons_succ]
        refine wpAnyH_ready (rs := [10, 29]) (by kernel_rfl) (by simp) (AllReadyH.cons (o := { dst := some 14, op := Op.call { callee := Callee.value (Operand.func 41), args := #[Operand.tmp 13, Operand.const (Value.int IntKind.i64 41)], argTypes := #[3, 3] }, type := 3, pos := "ref.go:176", after := #[{ on := 9, ground := Ground.data }, { on := 6, ground := Ground.chain }], guard := none }) rfl (fun K hK => ?_) (AllReadyH.cons (o := { dst := some 3, op := Op.alloc 23, type := 0, pos := "ref.go:176", after := #[], guard := none }) rfl (fun K hK => ?_) AllReadyH.nil))
        · (go_simp; (go_at_call 41; (refine (St.call hs2r1 (g2.out _)).mono ?_); rintro e V3r1 ⟨rfl, hs3r1⟩))
          refine hK.out _ _ ?_ (fun hHeld => ?_)
          · exact HP.out _ (hs3r1)
          clear hK K
          try simp only [Act.put, List.setIfInBounds_toArray, List.set_cons_zero, List.set_cons_succ]
          refine wpAnyH_take (i := 11) (oi := { dst := some 15, op := Op.binOp BinOp.sub 3 (Operand.tmp 14) (Operand.const (Value.int IntKind.i64 20)) 3, type := 3, pos := "ref.go:176", after := #[{ on := 10, ground := Ground.data }], guard := none }) (v := ?_) rfl (by kernel_rfl) (by kernel_rfl) (by kernel_rfl) (fun _ _ _ h => h) (Or.inl ⟨by kernel_rfl, ?_⟩) (by assumption) ?_
          rotate_left 1
          focus (intro w hSw; (try dsimp only at hSw); go_simp; (try with_reducible rfl))
          try simp only [Act.put, List.setIfInBounds_toArray, List.set_cons_zero, List.set_cons_succ]
          refine wpAnyH_ready (rs := [14, 29]) (by kernel_rfl) (by simp) (AllReadyH.cons (o := { dst := some 18, op := Op.call { callee := Callee.value (Operand.func 41), args := #[Operand.tmp 17, Operand.const (Value.int IntKind.i64 9)], argTypes := #[3, 3] }, type := 3, pos := "ref.go:176", after := #[{ on := 13, ground := Ground.data }, { on := 10, ground := Ground.chain }], guard := none }) rfl (fun K hK => ?_) (AllReadyH.cons (o := { dst := some 3, op := Op.alloc 23, type := 0, pos := "ref.go:176", after := #[], guard := none }) rfl (fun K hK => ?_) AllReadyH.nil))
          · (go_simp; (go_at_call 41; (refine (St.call hs3r1 (g3.out _)).mono ?_); rintro e V4r1 ⟨rfl, hs4r1⟩))
            refine hK.out _ _ ?_ (fun hHeld => ?_)
            · exact HP.out _ (hs4r1)
            clear hK K
            try simp only [Act.put, List.setIfInBounds_toArray, List.set_cons_zero, List.set_cons_succ]
            refine wpAnyH_take (i := 15) (oi := { dst := some 19, op := Op.binOp BinOp.sub 3 (Operand.tmp 18) (Operand.const (Value.int IntKind.i64 4)) 3, type := 3, pos := "ref.go:176", after := #[{ on := 14, ground := Ground.data }], guard := none }) (v := ?_) rfl (by kernel_rfl) (by kernel_rfl) (by kernel_rfl) (fun _ _ _ h => h) (Or.inl ⟨by kernel_rfl, ?_⟩) (by assumption) ?_
            rotate_left 1
            focus (intro w hSw; (try dsimp only at hSw); go_simp; (try with_reducible rfl))
            try simp only [Act.put, List.setIfInBounds_toArray, List.set_cons_zero, List.set_cons_succ]
            refine wpAnyH_ready (rs := [18, 29]) (by kernel_rfl) (by simp) (AllReadyH.cons (o := { dst := some 22, op := Op.call { callee := Callee.value (Operand.func 41), args := #[Operand.tmp 21, Operand.const (Value.int IntKind.i64 9)], argTypes := #[3, 3] }, type := 3, pos := "ref.go:176", after := #[{ on := 17, ground := Ground.data }, { on := 14, ground := Ground.chain }], guard := none }) rfl (fun K hK => ?_) (AllReadyH.cons (o := { dst := some 3, op := Op.alloc 23, type := 0, pos := "ref.go:176", after := #[], guard := none }) rfl (fun K hK => ?_) AllReadyH.nil))
            · (go_simp; (go_at_call 41; (refine (St.call hs4r1 (g4.out _)).mono ?_); rintro e V5r1 ⟨rfl, hs5r1⟩))
              refine hK.out _ _ ?_ (fun hHeld => ?_)
              · exact HP.out _ (hs5r1)
              clear hK K
              try simp only [Act.put, List.setIfInBounds_toArray, List.set_cons_zero, List.set_cons_succ]
              refine wpAnyH_take (i := 19) (oi := { dst := some 23, op := Op.binOp BinOp.sub 3 (Operand.tmp 22) (Operand.const (Value.int IntKind.i64 4)) 3, type := 3, pos := "ref.go:176", after := #[{ on := 18, ground := Ground.data }], guard := none }) (v := ?_) rfl (by kernel_rfl) (by kernel_rfl) (by kernel_rfl) (fun _ _ _ h => h) (Or.inl ⟨by kernel_rfl, ?_⟩) (by assumption) ?_
              rotate_left 1
              focus (intro w hSw; (try dsimp only at hSw); go_simp; (try with_reducible rfl))
              try simp only [Act.put, List.setIfInBounds_toArray, List.set_cons_zero, List.set_cons_succ]
              refine wpAnyH_ready (rs := [22, 29]) (by kernel_rfl) (by simp) (AllReadyH.cons (o := { dst := some 26, op := Op.call { callee := Callee.value (Operand.func 41), args := #[Operand.tmp 25, Operand.const (Value.int IntKind.i64 41)], argTypes := #[3, 3] }, type := 3, pos := "ref.go:176", after := #[{ on := 21, ground := Ground.data }, { on := 18, ground := Ground.chain }], guard := none }) rfl (fun K hK => ?_) (AllReadyH.cons (o := { dst := some 3, op := Op.alloc 23, type := 0, pos := "ref.go:176", after := #[], guard := none }) rfl (fun K hK => ?_) AllReadyH.nil))
              · (go_simp; (go_at_call 41; (refine (St.call hs5r1 (g5.out _)).mono ?_); rintro e V6r1 ⟨rfl, hs6r1⟩))
                refine hK.out _ _ ?_ (fun hHeld => ?_)
                · exact HP.out _ (hs6r1)
                clear hK K
                try simp only [Act.put, List.setIfInBounds_toArray, List.set_cons_zero, List.set_cons_succ]
                refine wpAnyH_take (i := 23) (oi := { dst := some 27, op := Op.binOp BinOp.sub 3 (Operand.tmp 26) (Operand.const (Value.int IntKind.i64 20)) 3, type := 3, pos := "ref.go:176", after := #[{ on := 22, ground := Ground.data }], guard := none }) (v := ?_) rfl (by kernel_rfl) (by kernel_rfl) (by kernel_rfl) (fun _ _ _ h => h) (Or.inl ⟨by kernel_rfl, ?_⟩) (by assumption) ?_
                rotate_left 1
                focus (intro w hSw; (try dsimp only at hSw); go_simp; (try with_reducible rfl))
                try simp only [Act.put, List.setIfInBounds_toArray, List.set_cons_zero, List.set_cons_succ]
                refine wpAnyH_ready (rs := [26, 29]) (by kernel_rfl) (by simp) (AllReadyH.cons (o := { dst := some 30, op := Op.call { callee := Callee.value (Operand.func 41), args := #[Operand.tmp 29, Operand.const (Value.int IntKind.i64 4)], argTypes := #[3, 3] }, type := 3, pos := "ref.go:176", after := #[{ on := 25, ground := Ground.data }, { on := 22, ground := Ground.chain }], guard := none }) rfl (fun K hK => ?_) (AllReadyH.cons (o := { dst := some 3, op := Op.alloc 23, type := 0, pos := "ref.go:176", after := #[], guard := none }) rfl (fun K hK => ?_) AllReadyH.nil))
                · (go_simp; (go_at_call 41; (refine (St.call hs6r1 (g6.out _)).mono ?_); rintro e V7r1 ⟨rfl, hs7r1⟩))
                  refine hK.out _ _ ?_ (fun hHeld => ?_)
                  · exact HP.out _ (hs7r1)
                  clear hK K
                  try simp only [Act.put, List.setIfInBounds_toArray, List.set_cons_zero, List.set_cons_succ]
                  refine wpAnyH_take (i := 27) (oi := { dst := some 31, op := Op.binOp BinOp.add 3 (Operand.const (Value.int IntKind.i64 1)) (Operand.tmp 30) 3, type := 3, pos := "ref.go:176", after := #[{ on := 26, ground := Ground.data }], guard := none }) (v := ?_) rfl (by kernel_rfl) (by kernel_rfl) (by kernel_rfl) (fun _ _ _ h => h) (Or.inl ⟨by kernel_rfl, ?_⟩) (by assumption) ?_
                  rotate_left 1
                  focus (intro w hSw; (try dsimp only at hSw); go_simp; (try with_reducible rfl))
                  try simp only [Act.put, List.setIfInBounds_toArray, List.set_cons_zero, List.set_cons_succ]
                  refine wpAnyH_take (i := 28) (oi := { dst := some 32, op := Op.build 23 #[(0, Operand.tmp 7), (1, Operand.tmp 11), (2, Operand.tmp 15), (3, Operand.tmp 19), (4, Operand.tmp 23), (5, Operand.tmp 27), (6, Operand.tmp 31)], type := 23, pos := "ref.go:176", after := #[{ on := 3, ground := Ground.data }, { on := 7, ground := Ground.data }, { on := 11, ground := Ground.data }, { on := 15, ground := Ground.data }, { on := 19, ground := Ground.data }, { on := 23, ground := Ground.data }, { on := 27, ground := Ground.data }], guard := none }) (v := ?_) rfl (by kernel_rfl) (by kernel_rfl) (by kernel_rfl) (fun _ _ _ h => h) (Or.inl ⟨by kernel_rfl, ?_⟩) (by assumption) ?_
                  rotate_left 1
                  focus (intro w hSw; (try dsimp only at hSw); go_simp; (try with_reducible rfl))
                  try simp only [Act.put, List.setIfInBounds_toArray, List.set_cons_zero, List.set_cons_succ]
                  refine wpAnyH_ready (rs := [29]) (by kernel_rfl) (by simp) (AllReadyH.cons (o := { dst := some 3, op := Op.alloc 23, type := 0, pos := "ref.go:176", after := #[], guard := none }) rfl (fun K hK => ?_) AllReadyH.nil)
                  have hne29r1 := hs7r1.ne
                  have hle29r1 := hs7r1.below.size
                  have hlt29r1 := fun (b : Nat) (o : Obj) (hm : (b, o) ∈ _) => hs7r1.lt hm
                  have hs8r1 := hs7r1.alloc (.cells #[.int .i64 0, .int .i64 0, .int .i64 0, .int .i64 0, .int .i64 0, .int .i64 0, .int .i64 0] 23)
                  refine wp_alloc_of 23 rfl _ (zero_aff _) ?_
                  refine hK.out _ _ ?_ (fun hHeld => ?_)
                  · exact HP.out _ (hs8r1.tl)
                  clear hK K
                  try simp only [Act.put, List.setIfInBounds_toArray, List.set_cons_zero, List.set_cons_succ]
                  refine wpAnyH_ready (rs := [30]) (by kernel_rfl) (by simp) (AllReadyH.cons (o := { dst := none, op := Op.store 23 (Operand.tmp 3) (Operand.tmp 32), type := 0, pos := "ref.go:176", after := #[{ on := 29, ground := Ground.data }, { on := 28, ground := Ground.data }, { on := 26, ground := Ground.chain }, { on := 0, ground := Ground.phase }, { on := 1, ground := Ground.phase }, { on := 2, ground := Ground.phase }, { on := 3, ground := Ground.phase }, { on := 4, ground := Ground.phase }, { on := 5, ground := Ground.phase }, { on := 6, ground := Ground.phase }, { on := 7, ground := Ground.phase }, { on := 8, ground := Ground.phase }, { on := 9, ground := Ground.phase }, { on := 10, ground := Ground.phase }, { on := 11, ground := Ground.phase }, { on := 12, ground := Ground.phase }, { on := 13, ground := Ground.phase }, { on := 14, ground := Ground.phase }, { on := 15, ground := Ground.phase }, { on := 16, ground := Ground.phase }, { on := 17, ground := Ground.phase }, { on := 18, ground := Ground.phase }, { on := 19, ground := Ground.phase }, { on := 20, ground := Ground.phase }, { on := 21, ground := Ground.phase }, { on := 22, ground := Ground.phase }, { on := 23, ground := Ground.phase }, { on := 24, ground := Ground.phase }, { on := 25, ground := Ground.phase }, { on := 26, ground := Ground.phase }, { on := 27, ground := Ground.phase }, { on := 28, ground := Ground.phase }, { on := 29, ground := Ground.phase }], guard := none }) rfl (fun K hK => ?_) AllReadyH.nil)
                  have hs9r1 := hs8r1.rowset (ds := #[.int .i64 s0, .int .i64 s1, .int .i64 s2, .int .i64 s3, .int .i64 s4, .int .i64 s5, .int .i64 s6]) hle29r1 hne29r1
                  refine wp_store_of 23 _ _ rfl (store_row 23 (cs := #[.int .i64 0, .int .i64 0, .int .i64 0, .int .i64 0, .int .i64 0, .int .i64 0, .int .i64 0]) (ds := #[.int .i64 s0, .int .i64 s1, .int .i64 s2, .int .i64 s3, .int .i64 s4, .int .i64 s5, .int .i64 s6]) (by kernel_rfl) rfl (by simp [Value.oneCell']) hs8r1.hd) ?_
                  refine hK.out _ _ ?_ (fun hHeld => ?_)
                  · exact HP.out _ (hs9r1.tl)
                  clear hK K
                  try simp only [Act.put]
                  refine wpAnyH_done (by kernel_rfl) ?_ _
                  have h9 := hs9r1
                  go_wp2_with fail
                  go_meet
                  case rel => exact ⟨_, rfl, fun hh => hne29r1 (b0 + 1, ao 0 0 0 0 0 0 0) (by simp) hh.symm, hlt29r1 (b0 + 1) (ao 0 0 0 0 0 0 0) (by simp), h9.sub (by intro x hx; simp at hx ⊢; rcases hx with rfl | rfl <;> simp)⟩
                · have hne29r1 := hs6r1.ne
                  have hle29r1 := hs6r1.below.size
                  have hlt29r1 := fun (b : Nat) (o : Obj) (hm : (b, o) ∈ _) => hs6r1.lt hm
                  have hs10r1 := hs6r1.alloc (.cells #[.int .i64 0, .int .i64 0, .int .i64 0, .int .i64 0, .int .i64 0, .int .i64 0, .int .i64 0] 23)
                  refine wp_alloc_of 23 rfl _ (zero_aff _) ?_
                  refine hK.out _ _ ?_ (fun hHeld => ?_)
                  · exact HP.out _ (hs10r1.tl)
                  clear hK K
                  try simp only [Act.put, List.setIfInBounds_toArray, List.set_cons_zero, List.set_cons_succ]
                  refine wpAnyH_ready (rs := [26]) (by kernel_rfl) (by simp) (AllReadyH.cons (o := { dst := some 30, op := Op.call { callee := Callee.value (Operand.func 41), args := #[Operand.tmp 29, Operand.const (Value.int IntKind.i64 4)], argTypes := #[3, 3] }, type := 3, pos := "ref.go:176", after := #[{ on := 25, ground := Ground.data }, { on := 22, ground := Ground.chain }], guard := none }) rfl (fun K hK => ?_) AllReadyH.nil)
                  (go_simp; (go_at_call 41; (refine (St.call hs10r1 (g6.out _)).mono ?_); rintro e V11r1 ⟨rfl, hs11r1⟩))
                  refine hK.out _ _ ?_ (fun hHeld => ?_)
                  · exact HP.out _ (hs11r1.tl)
                  clear hK K
                  try simp only [Act.put, List.setIfInBounds_toArray, List.set_cons_zero, List.set_cons_succ]
                  refine wpAnyH_take (i := 27) (oi := { dst := some 31, op := Op.binOp BinOp.add 3 (Operand.const (Value.int IntKind.i64 1)) (Operand.tmp 30) 3, type := 3, pos := "ref.go:176", after := #[{ on := 26, ground := Ground.data }], guard := none }) (v := ?_) rfl (by kernel_rfl) (by kernel_rfl) (by kernel_rfl) (fun _ _ _ h => h) (Or.inl ⟨by kernel_rfl, ?_⟩) (by assumption) ?_
                  rotate_left 1
                  focus (intro w hSw; (try dsimp only at hSw); go_simp; (try with_reducible rfl))
                  try simp only [Act.put, List.setIfInBounds_toArray, List.set_cons_zero, List.set_cons_succ]
                  refine wpAnyH_take (i := 28) (oi := { dst := some 32, op := Op.build 23 #[(0, Operand.tmp 7), (1, Operand.tmp 11), (2, Operand.tmp 15), (3, Operand.tmp 19), (4, Operand.tmp 23), (5, Operand.tmp 27), (6, Operand.tmp 31)], type := 23, pos := "ref.go:176", after := #[{ on := 3, ground := Ground.data }, { on := 7, ground := Ground.data }, { on := 11, ground := Ground.data }, { on := 15, ground := Ground.data }, { on := 19, ground := Ground.data }, { on := 23, ground := Ground.data }, { on := 27, ground := Ground.data }], guard := none }) (v := ?_) rfl (by kernel_rfl) (by kernel_rfl) (by kernel_rfl) (fun _ _ _ h => h) (Or.inl ⟨by kernel_rfl, ?_⟩) (by assumption) ?_
                  rotate_left 1
                  focus (intro w hSw; (try dsimp only at hSw); go_simp; (try with_reducible rfl))
                  try simp only [Act.put, List.setIfInBounds_toArray, List.set_cons_zero, List.set_cons_succ]
                  refine wpAnyH_ready (rs := [30]) (by kernel_rfl) (by simp) (AllReadyH.cons (o := { dst := none, op := Op.store 23 (Operand.tmp 3) (Operand.tmp 32), type := 0, pos := "ref.go:176", after := #[{ on := 29, ground := Ground.data }, { on := 28, ground := Ground.data }, { on := 26, ground := Ground.chain }, { on := 0, ground := Ground.phase }, { on := 1, ground := Ground.phase }, { on := 2, ground := Ground.phase }, { on := 3, ground := Ground.phase }, { on := 4, ground := Ground.phase }, { on := 5, ground := Ground.phase }, { on := 6, ground := Ground.phase }, { on := 7, ground := Ground.phase }, { on := 8, ground := Ground.phase }, { on := 9, ground := Ground.phase }, { on := 10, ground := Ground.phase }, { on := 11, ground := Ground.phase }, { on := 12, ground := Ground.phase }, { on := 13, ground := Ground.phase }, { on := 14, ground := Ground.phase }, { on := 15, ground := Ground.phase }, { on := 16, ground := Ground.phase }, { on := 17, ground := Ground.phase }, { on := 18, ground := Ground.phase }, { on := 19, ground := Ground.phase }, { on := 20, ground := Ground.phase }, { on := 21, ground := Ground.phase }, { on := 22, ground := Ground.phase }, { on := 23, ground := Ground.phase }, { on := 24, ground := Ground.phase }, { on := 25, ground := Ground.phase }, { on := 26, ground := Ground.phase }, { on := 27, ground := Ground.phase }, { on := 28, ground := Ground.phase }, { on := 29, ground := Ground.phase }], guard := none }) rfl (fun K hK => ?_) AllReadyH.nil)
                  have hs12r1 := hs11r1.rowset (ds := #[.int .i64 s0, .int .i64 s1, .int .i64 s2, .int .i64 s3, .int .i64 s4, .int .i64 s5, .int .i64 s6]) hle29r1 hne29r1
                  refine wp_store_of 23 _ _ rfl (store_row 23 (cs := #[.int .i64 0, .int .i64 0, .int .i64 0, .int .i64 0, .int .i64 0, .int .i64 0, .int .i64 0]) (ds := #[.int .i64 s0, .int .i64 s1, .int .i64 s2, .int .i64 s3, .int .i64 s4, .int .i64 s5, .int .i64 s6]) (by kernel_rfl) rfl (by simp [Value.oneCell']) hs11r1.hd) ?_
                  refine hK.out _ _ ?_ (fun hHeld => ?_)
                  · exact HP.out _ (hs12r1.tl)
                  clear hK K
                  try simp only [Act.put]
                  refine wpAnyH_done (by kernel_rfl) ?_ _
                  have h9 := hs12r1
                  go_wp2_with fail
                  go_meet
                  case rel => exact ⟨_, rfl, fun hh => hne29r1 (b0 + 1, ao 0 0 0 0 0 0 0) (by simp) hh.symm, hlt29r1 (b0 + 1) (ao 0 0 0 0 0 0 0) (by simp), h9.sub (by intro x hx; simp at hx ⊢; rcases hx with rfl | rfl <;> simp)⟩
              · have hne29r1 := hs5r1.ne
                have hle29r1 := hs5r1.below.size
                have hlt29r1 := fun (b : Nat) (o : Obj) (hm : (b, o) ∈ _) => hs5r1.lt hm
                have hs13r1 := hs5r1.alloc (.cells #[.int .i64 0, .int .i64 0, .int .i64 0, .int .i64 0, .int .i64 0, .int .i64 0, .int .i64 0] 23)
                refine wp_alloc_of 23 rfl _ (zero_aff _) ?_
                refine hK.out _ _ ?_ (fun hHeld => ?_)
                · exact HP.out _ (hs13r1.tl)
                clear hK K
                try simp only [Act.put, List.setIfInBounds_toArray, List.set_cons_zero, List.set_cons_succ]
                refine wpAnyH_ready (rs := [22]) (by kernel_rfl) (by simp) (AllReadyH.cons (o := { dst := some 26, op := Op.call { callee := Callee.value (Operand.func 41), args := #[Operand.tmp 25, Operand.const (Value.int IntKind.i64 41)], argTypes := #[3, 3] }, type := 3, pos := "ref.go:176", after := #[{ on := 21, ground := Ground.data }, { on := 18, ground := Ground.chain }], guard := none }) rfl (fun K hK => ?_) AllReadyH.nil)
                (go_simp; (go_at_call 41; (refine (St.call hs13r1 (g5.out _)).mono ?_); rintro e V14r1 ⟨rfl, hs14r1⟩))
                refine hK.out _ _ ?_ (fun hHeld => ?_)
                · exact HP.out _ (hs14r1.tl)
                clear hK K
                try simp only [Act.put, List.setIfInBounds_toArray, List.set_cons_zero, List.set_cons_succ]
                refine wpAnyH_take (i := 23) (oi := { dst := some 27, op := Op.binOp BinOp.sub 3 (Operand.tmp 26) (Operand.const (Value.int IntKind.i64 20)) 3, type := 3, pos := "ref.go:176", after := #[{ on := 22, ground := Ground.data }], guard := none }) (v := ?_) rfl (by kernel_rfl) (by kernel_rfl) (by kernel_rfl) (fun _ _ _ h => h) (Or.inl ⟨by kernel_rfl, ?_⟩) (by assumption) ?_
                rotate_left 1
                focus (intro w hSw; (try dsimp only at hSw); go_simp; (try with_reducible rfl))
                try simp only [Act.put, List.setIfInBounds_toArray, List.set_cons_zero, List.set_cons_succ]
                refine wpAnyH_ready (rs := [26]) (by kernel_rfl) (by simp) (AllReadyH.cons (o := { dst := some 30, op := Op.call { callee := Callee.value (Operand.func 41), args := #[Operand.tmp 29, Operand.const (Value.int IntKind.i64 4)], argTypes := #[3, 3] }, type := 3, pos := "ref.go:176", after := #[{ on := 25, ground := Ground.data }, { on := 22, ground := Ground.chain }], guard := none }) rfl (fun K hK => ?_) AllReadyH.nil)
                (go_simp; (go_at_call 41; (refine (St.call hs14r1 (g6.out _)).mono ?_); rintro e V15r1 ⟨rfl, hs15r1⟩))
                refine hK.out _ _ ?_ (fun hHeld => ?_)
                · exact HP.out _ (hs15r1.tl)
                clear hK K
                try simp only [Act.put, List.setIfInBounds_toArray, List.set_cons_zero, List.set_cons_succ]
                refine wpAnyH_take (i := 27) (oi := { dst := some 31, op := Op.binOp BinOp.add 3 (Operand.const (Value.int IntKind.i64 1)) (Operand.tmp 30) 3, type := 3, pos := "ref.go:176", after := #[{ on := 26, ground := Ground.data }], guard := none }) (v := ?_) rfl (by kernel_rfl) (by kernel_rfl) (by kernel_rfl) (fun _ _ _ h => h) (Or.inl ⟨by kernel_rfl, ?_⟩) (by assumption) ?_
                rotate_left 1
                focus (intro w hSw; (try dsimp only at hSw); go_simp; (try with_reducible rfl))
                try simp only [Act.put, List.setIfInBounds_toArray, List.set_cons_zero, List.set_cons_succ]
                refine wpAnyH_take (i := 28) (oi := { dst := some 32, op := Op.build 23 #[(0, Operand.tmp 7), (1, Operand.tmp 11), (2, Operand.tmp 15), (3, Operand.tmp 19), (4, Operand.tmp 23), (5, Operand.tmp 27), (6, Operand.tmp 31)], type := 23, pos := "ref.go:176", after := #[{ on := 3, ground := Ground.data }, { on := 7, ground := Ground.data }, { on := 11, ground := Ground.data }, { on := 15, ground := Ground.data }, { on := 19, ground := Ground.data }, { on := 23, ground := Ground.data }, { on := 27, ground := Ground.data }], guard := none }) (v := ?_) rfl (by kernel_rfl) (by kernel_rfl) (by kernel_rfl) (fun _ _ _ h => h) (Or.inl ⟨by kernel_rfl, ?_⟩) (by assumption) ?_
                rotate_left 1
                focus (intro w hSw; (try dsimp only at hSw); go_simp; (try with_reducible rfl))
                try simp only [Act.put, List.setIfInBounds_toArray, List.set_cons_zero, List.set_cons_succ]
                refine wpAnyH_ready (rs := [30]) (by kernel_rfl) (by simp) (AllReadyH.cons (o := { dst := none, op := Op.store 23 (Operand.tmp 3) (Operand.tmp 32), type := 0, pos := "ref.go:176", after := #[{ on := 29, ground := Ground.data }, { on := 28, ground := Ground.data }, { on := 26, ground := Ground.chain }, { on := 0, ground := Ground.phase }, { on := 1, ground := Ground.phase }, { on := 2, ground := Ground.phase }, { on := 3, ground := Ground.phase }, { on := 4, ground := Ground.phase }, { on := 5, ground := Ground.phase }, { on := 6, ground := Ground.phase }, { on := 7, ground := Ground.phase }, { on := 8, ground := Ground.phase }, { on := 9, ground := Ground.phase }, { on := 10, ground := Ground.phase }, { on := 11, ground := Ground.phase }, { on := 12, ground := Ground.phase }, { on := 13, ground := Ground.phase }, { on := 14, ground := Ground.phase }, { on := 15, ground := Ground.phase }, { on := 16, ground := Ground.phase }, { on := 17, ground := Ground.phase }, { on := 18, ground := Ground.phase }, { on := 19, ground := Ground.phase }, { on := 20, ground := Ground.phase }, { on := 21, ground := Ground.phase }, { on := 22, ground := Ground.phase }, { on := 23, ground := Ground.phase }, { on := 24, ground := Ground.phase }, { on := 25, ground := Ground.phase }, { on := 26, ground := Ground.phase }, { on := 27, ground := Ground.phase }, { on := 28, ground := Ground.phase }, { on := 29, ground := Ground.phase }], guard := none }) rfl (fun K hK => ?_) AllReadyH.nil)
                have hs16r1 := hs15r1.rowset (ds := #[.int .i64 s0, .int .i64 s1, .int .i64 s2, .int .i64 s3, .int .i64 s4, .int .i64 s5, .int .i64 s6]) hle29r1 hne29r1
                refine wp_store_of 23 _ _ rfl (store_row 23 (cs := #[.int .i64 0, .int .i64 0, .int .i64 0, .int .i64 0, .int .i64 0, .int .i64 0, .int .i64 0]) (ds := #[.int .i64 s0, .int .i64 s1, .int .i64 s2, .int .i64 s3, .int .i64 s4, .int .i64 s5, .int .i64 s6]) (by kernel_rfl) rfl (by simp [Value.oneCell']) hs15r1.hd) ?_
                refine hK.out _ _ ?_ (fun hHeld => ?_)
                · exact HP.out _ (hs16r1.tl)
                clear hK K
                try simp only [Act.put]
                refine wpAnyH_done (by kernel_rfl) ?_ _
                have h9 := hs16r1
                go_wp2_with fail
                go_meet
                case rel => exact ⟨_, rfl, fun hh => hne29r1 (b0 + 1, ao 0 0 0 0 0 0 0) (by simp) hh.symm, hlt29r1 (b0 + 1) (ao 0 0 0 0 0 0 0) (by simp), h9.sub (by intro x hx; simp at hx ⊢; rcases hx with rfl | rfl <;> simp)⟩
            · have hne29r1 := hs4r1.ne
              have hle29r1 := hs4r1.below.size
              have hlt29r1 := fun (b : Nat) (o : Obj) (hm : (b, o) ∈ _) => hs4r1.lt hm
              have hs17r1 := hs4r1.alloc (.cells #[.int .i64 0, .int .i64 0, .int .i64 0, .int .i64 0, .int .i64 0, .int .i64 0, .int .i64 0] 23)
              refine wp_alloc_of 23 rfl _ (zero_aff _) ?_
              refine hK.out _ _ ?_ (fun hHeld => ?_)
              · exact HP.out _ (hs17r1.tl)
              clear hK K
              try simp only [Act.put, List.setIfInBounds_toArray, List.set_cons_zero, List.set_cons_succ]
              refine wpAnyH_ready (rs := [18]) (by kernel_rfl) (by simp) (AllReadyH.cons (o := { dst := some 22, op := Op.call { callee := Callee.value (Operand.func 41), args := #[Operand.tmp 21, Operand.const (Value.int IntKind.i64 9)], argTypes := #[3, 3] }, type := 3, pos := "ref.go:176", after := #[{ on := 17, ground := Ground.data }, { on := 14, ground := Ground.chain }], guard := none }) rfl (fun K hK => ?_) AllReadyH.nil)
              (go_simp; (go_at_call 41; (refine (St.call hs17r1 (g4.out _)).mono ?_); rintro e V18r1 ⟨rfl, hs18r1⟩))
              refine hK.out _ _ ?_ (fun hHeld => ?_)
              · exact HP.out _ (hs18r1.tl)
              clear hK K
              try simp only [Act.put, List.setIfInBounds_toArray, List.set_cons_zero, List.set_cons_succ]
              refine wpAnyH_take (i := 19) (oi := { dst := some 23, op := Op.binOp BinOp.sub 3 (Operand.tmp 22) (Operand.const (Value.int IntKind.i64 4)) 3, type := 3, pos := "ref.go:176", after := #[{ on := 18, ground := Ground.data }], guard := none }) (v := ?_) rfl (by kernel_rfl) (by kernel_rfl) (by kernel_rfl) (fun _ _ _ h => h) (Or.inl ⟨by kernel_rfl, ?_⟩) (by assumption) ?_
              rotate_left 1
              focus (intro w hSw; (try dsimp only at hSw); go_simp; (try with_reducible rfl))
              try simp only [Act.put, List.setIfInBounds_toArray, List.set_cons_zero, List.set_cons_succ]
              refine wpAnyH_ready (rs := [22]) (by kernel_rfl) (by simp) (AllReadyH.cons (o := { dst := some 26, op := Op.call { callee := Callee.value (Operand.func 41), args := #[Operand.tmp 25, Operand.const (Value.int IntKind.i64 41)], argTypes := #[3, 3] }, type := 3, pos := "ref.go:176", after := #[{ on := 21, ground := Ground.data }, { on := 18, ground := Ground.chain }], guard := none }) rfl (fun K hK => ?_) AllReadyH.nil)
              (go_simp; (go_at_call 41; (refine (St.call hs18r1 (g5.out _)).mono ?_); rintro e V19r1 ⟨rfl, hs19r1⟩))
              refine hK.out _ _ ?_ (fun hHeld => ?_)
              · exact HP.out _ (hs19r1.tl)
              clear hK K
              try simp only [Act.put, List.setIfInBounds_toArray, List.set_cons_zero, List.set_cons_succ]
              refine wpAnyH_take (i := 23) (oi := { dst := some 27, op := Op.binOp BinOp.sub 3 (Operand.tmp 26) (Operand.const (Value.int IntKind.i64 20)) 3, type := 3, pos := "ref.go:176", after := #[{ on := 22, ground := Ground.data }], guard := none }) (v := ?_) rfl (by kernel_rfl) (by kernel_rfl) (by kernel_rfl) (fun _ _ _ h => h) (Or.inl ⟨by kernel_rfl, ?_⟩) (by assumption) ?_
              rotate_left 1
              focus (intro w hSw; (try dsimp only at hSw); go_simp; (try with_reducible rfl))
              try simp only [Act.put, List.setIfInBounds_toArray, List.set_cons_zero, List.set_cons_succ]
              refine wpAnyH_ready (rs := [26]) (by kernel_rfl) (by simp) (AllReadyH.cons (o := { dst := some 30, op := Op.call { callee := Callee.value (Operand.func 41), args := #[Operand.tmp 29, Operand.const (Value.int IntKind.i64 4)], argTypes := #[3, 3] }, type := 3, pos := "ref.go:176", after := #[{ on := 25, ground := Ground.data }, { on := 22, ground := Ground.chain }], guard := none }) rfl (fun K hK => ?_) AllReadyH.nil)
              (go_simp; (go_at_call 41; (refine (St.call hs19r1 (g6.out _)).mono ?_); rintro e V20r1 ⟨rfl, hs20r1⟩))
              refine hK.out _ _ ?_ (fun hHeld => ?_)
              · exact HP.out _ (hs20r1.tl)
              clear hK K
              try simp only [Act.put, List.setIfInBounds_toArray, List.set_cons_zero, List.set_cons_succ]
              refine wpAnyH_take (i := 27) (oi := { dst := some 31, op := Op.binOp BinOp.add 3 (Operand.const (Value.int IntKind.i64 1)) (Operand.tmp 30) 3, type := 3, pos := "ref.go:176", after := #[{ on := 26, ground := Ground.data }], guard := none }) (v := ?_) rfl (by kernel_rfl) (by kernel_rfl) (by kernel_rfl) (fun _ _ _ h => h) (Or.inl ⟨by kernel_rfl, ?_⟩) (by assumption) ?_
              rotate_left 1
              focus (intro w hSw; (try dsimp only at hSw); go_simp; (try with_reducible rfl))
              try simp only [Act.put, List.setIfInBounds_toArray, List.set_cons_zero, List.set_cons_succ]
              refine wpAnyH_take (i := 28) (oi := { dst := some 32, op := Op.build 23 #[(0, Operand.tmp 7), (1, Operand.tmp 11), (2, Operand.tmp 15), (3, Operand.tmp 19), (4, Operand.tmp 23), (5, Operand.tmp 27), (6, Operand.tmp 31)], type := 23, pos := "ref.go:176", after := #[{ on := 3, ground := Ground.data }, { on := 7, ground := Ground.data }, { on := 11, ground := Ground.data }, { on := 15, ground := Ground.data }, { on := 19, ground := Ground.data }, { on := 23, ground := Ground.data }, { on := 27, ground := Ground.data }], guard := none }) (v := ?_) rfl (by kernel_rfl) (by kernel_rfl) (by kernel_rfl) (fun _ _ _ h => h) (Or.inl ⟨by kernel_rfl, ?_⟩) (by assumption) ?_
              rotate_left 1
              focus (intro w hSw; (try dsimp only at hSw); go_simp; (try with_reducible rfl))
              try simp only [Act.put, List.setIfInBounds_toArray, List.set_cons_zero, List.set_cons_succ]
              refine wpAnyH_ready (rs := [30]) (by kernel_rfl) (by simp) (AllReadyH.cons (o := { dst := none, op := Op.store 23 (Operand.tmp 3) (Operand.tmp 32), type := 0, pos := "ref.go:176", after := #[{ on := 29, ground := Ground.data }, { on := 28, ground := Ground.data }, { on := 26, ground := Ground.chain }, { on := 0, ground := Ground.phase }, { on := 1, ground := Ground.phase }, { on := 2, ground := Ground.phase }, { on := 3, ground := Ground.phase }, { on := 4, ground := Ground.phase }, { on := 5, ground := Ground.phase }, { on := 6, ground := Ground.phase }, { on := 7, ground := Ground.phase }, { on := 8, ground := Ground.phase }, { on := 9, ground := Ground.phase }, { on := 10, ground := Ground.phase }, { on := 11, ground := Ground.phase }, { on := 12, ground := Ground.phase }, { on := 13, ground := Ground.phase }, { on := 14, ground := Ground.phase }, { on := 15, ground := Ground.phase }, { on := 16, ground := Ground.phase }, { on := 17, ground := Ground.phase }, { on := 18, ground := Ground.phase }, { on := 19, ground := Ground.phase }, { on := 20, ground := Ground.phase }, { on := 21, ground := Ground.phase }, { on := 22, ground := Ground.phase }, { on := 23, ground := Ground.phase }, { on := 24, ground := Ground.phase }, { on := 25, ground := Ground.phase }, { on := 26, ground := Ground.phase }, { on := 27, ground := Ground.phase }, { on := 28, ground := Ground.phase }, { on := 29, ground := Ground.phase }], guard := none }) rfl (fun K hK => ?_) AllReadyH.nil)
              have hs21r1 := hs20r1.rowset (ds := #[.int .i64 s0, .int .i64 s1, .int .i64 s2, .int .i64 s3, .int .i64 s4, .int .i64 s5, .int .i64 s6]) hle29r1 hne29r1
              refine wp_store_of 23 _ _ rfl (store_row 23 (cs := #[.int .i64 0, .int .i64 0, .int .i64 0, .int .i64 0, .int .i64 0, .int .i64 0, .int .i64 0]) (ds := #[.int .i64 s0, .int .i64 s1, .int .i64 s2, .int .i64 s3, .int .i64 s4, .int .i64 s5, .int .i64 s6]) (by kernel_rfl) rfl (by simp [Value.oneCell']) hs20r1.hd) ?_
              refine hK.out _ _ ?_ (fun hHeld => ?_)
              · exact HP.out _ (hs21r1.tl)
              clear hK K
              try simp only [Act.put]
              refine wpAnyH_done (by kernel_rfl) ?_ _
              have h9 := hs21r1
              go_wp2_with fail
              go_meet
              case rel => exact ⟨_, rfl, fun hh => hne29r1 (b0 + 1, ao 0 0 0 0 0 0 0) (by simp) hh.symm, hlt29r1 (b0 + 1) (ao 0 0 0 0 0 0 0) (by simp), h9.sub (by intro x hx; simp at hx ⊢; rcases hx with rfl | rfl <;> simp)⟩
          · have hne29r1 := hs3r1.ne
            have hle29r1 := hs3r1.below.size
            have hlt29r1 := fun (b : Nat) (o : Obj) (hm : (b, o) ∈ _) => hs3r1.lt hm
            have hs22r1 := hs3r1.alloc (.cells #[.int .i64 0, .int .i64 0, .int .i64 0, .int .i64 0, .int .i64 0, .int .i64 0, .int .i64 0] 23)
            refine wp_alloc_of 23 rfl _ (zero_aff _) ?_
            refine hK.out _ _ ?_ (fun hHeld => ?_)
            · exact HP.out _ (hs22r1.tl)
            clear hK K
            try simp only [Act.put, List.setIfInBounds_toArray, List.set_cons_zero, List.set_cons_succ]
            refine wpAnyH_ready (rs := [14]) (by kernel_rfl) (by simp) (AllReadyH.cons (o := { dst := some 18, op := Op.call { callee := Callee.value (Operand.func 41), args := #[Operand.tmp 17, Operand.const (Value.int IntKind.i64 9)], argTypes := #[3, 3] }, type := 3, pos := "ref.go:176", after := #[{ on := 13, ground := Ground.data }, { on := 10, ground := Ground.chain }], guard := none }) rfl (fun K hK => ?_) AllReadyH.nil)
            (go_simp; (go_at_call 41; (refine (St.call hs22r1 (g3.out _)).mono ?_); rintro e V23r1 ⟨rfl, hs23r1⟩))
            refine hK.out _ _ ?_ (fun hHeld => ?_)
            · exact HP.out _ (hs23r1.tl)
            clear hK K
            try simp only [Act.put, List.setIfInBounds_toArray, List.set_cons_zero, List.set_cons_succ]
            refine wpAnyH_take (i := 15) (oi := { dst := some 19, op := Op.binOp BinOp.sub 3 (Operand.tmp 18) (Operand.const (Value.int IntKind.i64 4)) 3, type := 3, pos := "ref.go:176", after := #[{ on := 14, ground := Ground.data }], guard := none }) (v := ?_) rfl (by kernel_rfl) (by kernel_rfl) (by kernel_rfl) (fun _ _ _ h => h) (Or.inl ⟨by kernel_rfl, ?_⟩) (by assumption) ?_
            rotate_left 1
            focus (intro w hSw; (try dsimp only at hSw); go_simp; (try with_reducible rfl))
            try simp only [Act.put, List.setIfInBounds_toArray, List.set_cons_zero, List.set_cons_succ]
            refine wpAnyH_ready (rs := [18]) (by kernel_rfl) (by simp) (AllReadyH.cons (o := { dst := some 22, op := Op.call { callee := Callee.value (Operand.func 41), args := #[Operand.tmp 21, Operand.const (Value.int IntKind.i64 9)], argTypes := #[3, 3] }, type := 3, pos := "ref.go:176", after := #[{ on := 17, ground := Ground.data }, { on := 14, ground := Ground.chain }], guard := none }) rfl (fun K hK => ?_) AllReadyH.nil)
            (go_simp; (go_at_call 41; (refine (St.call hs23r1 (g4.out _)).mono ?_); rintro e V24r1 ⟨rfl, hs24r1⟩))
            refine hK.out _ _ ?_ (fun hHeld => ?_)
            · exact HP.out _ (hs24r1.tl)
            clear hK K
            try simp only [Act.put, List.setIfInBounds_toArray, List.set_cons_zero, List.set_cons_succ]
            refine wpAnyH_take (i := 19) (oi := { dst := some 23, op := Op.binOp BinOp.sub 3 (Operand.tmp 22) (Operand.const (Value.int IntKind.i64 4)) 3, type := 3, pos := "ref.go:176", after := #[{ on := 18, ground := Ground.data }], guard := none }) (v := ?_) rfl (by kernel_rfl) (by kernel_rfl) (by kernel_rfl) (fun _ _ _ h => h) (Or.inl ⟨by kernel_rfl, ?_⟩) (by assumption) ?_
            rotate_left 1
            focus (intro w hSw; (try dsimp only at hSw); go_simp; (try with_reducible rfl))
            try simp only [Act.put, List.setIfInBounds_toArray, List.set_cons_zero, List.set_cons_succ]
            refine wpAnyH_ready (rs := [22]) (by kernel_rfl) (by simp) (AllReadyH.cons (o := { dst := some 26, op := Op.call { callee := Callee.value (Operand.func 41), args := #[Operand.tmp 25, Operand.const (Value.int IntKind.i64 41)], argTypes := #[3, 3] }, type := 3, pos := "ref.go:176", after := #[{ on := 21, ground := Ground.data }, { on := 18, ground := Ground.chain }], guard := none }) rfl (fun K hK => ?_) AllReadyH.nil)
            (go_simp; (go_at_call 41; (refine (St.call hs24r1 (g5.out _)).mono ?_); rintro e V25r1 ⟨rfl, hs25r1⟩))
            refine hK.out _ _ ?_ (fun hHeld => ?_)
            · exact HP.out _ (hs25r1.tl)
            clear hK K
            try simp only [Act.put, List.setIfInBounds_toArray, List.set_cons_zero, List.set_cons_succ]
            refine wpAnyH_take (i := 23) (oi := { dst := some 27, op := Op.binOp BinOp.sub 3 (Operand.tmp 26) (Operand.const (Value.int IntKind.i64 20)) 3, type := 3, pos := "ref.go:176", after := #[{ on := 22, ground := Ground.data }], guard := none }) (v := ?_) rfl (by kernel_rfl) (by kernel_rfl) (by kernel_rfl) (fun _ _ _ h => h) (Or.inl ⟨by kernel_rfl, ?_⟩) (by assumption) ?_
            rotate_left 1
            focus (intro w hSw; (try dsimp only at hSw); go_simp; (try with_reducible rfl))
            try simp only [Act.put, List.setIfInBounds_toArray, List.set_cons_zero, List.set_cons_succ]
            refine wpAnyH_ready (rs := [26]) (by kernel_rfl) (by simp) (AllReadyH.cons (o := { dst := some 30, op := Op.call { callee := Callee.value (Operand.func 41), args := #[Operand.tmp 29, Operand.const (Value.int IntKind.i64 4)], argTypes := #[3, 3] }, type := 3, pos := "ref.go:176", after := #[{ on := 25, ground := Ground.data }, { on := 22, ground := Ground.chain }], guard := none }) rfl (fun K hK => ?_) AllReadyH.nil)
            (go_simp; (go_at_call 41; (refine (St.call hs25r1 (g6.out _)).mono ?_); rintro e V26r1 ⟨rfl, hs26r1⟩))
            refine hK.out _ _ ?_ (fun hHeld => ?_)
            · exact HP.out _ (hs26r1.tl)
            clear hK K
            try simp only [Act.put, List.setIfInBounds_toArray, List.set_cons_zero, List.set_cons_succ]
            refine wpAnyH_take (i := 27) (oi := { dst := some 31, op := Op.binOp BinOp.add 3 (Operand.const (Value.int IntKind.i64 1)) (Operand.tmp 30) 3, type := 3, pos := "ref.go:176", after := #[{ on := 26, ground := Ground.data }], guard := none }) (v := ?_) rfl (by kernel_rfl) (by kernel_rfl) (by kernel_rfl) (fun _ _ _ h => h) (Or.inl ⟨by kernel_rfl, ?_⟩) (by assumption) ?_
            rotate_left 1
            focus (intro w hSw; (try dsimp only at hSw); go_simp; (try with_reducible rfl))
            try simp only [Act.put, List.setIfInBounds_toArray, List.set_cons_zero, List.set_cons_succ]
            refine wpAnyH_take (i := 28) (oi := { dst := some 32, op := Op.build 23 #[(0, Operand.tmp 7), (1, Operand.tmp 11), (2, Operand.tmp 15), (3, Operand.tmp 19), (4, Operand.tmp 23), (5, Operand.tmp 27), (6, Operand.tmp 31)], type := 23, pos := "ref.go:176", after := #[{ on := 3, ground := Ground.data }, { on := 7, ground := Ground.data }, { on := 11, ground := Ground.data }, { on := 15, ground := Ground.data }, { on := 19, ground := Ground.data }, { on := 23, ground := Ground.data }, { on := 27, ground := Ground.data }], guard := none }) (v := ?_) rfl (by kernel_rfl) (by kernel_rfl) (by kernel_rfl) (fun _ _ _ h => h) (Or.inl ⟨by kernel_rfl, ?_⟩) (by assumption) ?_
            rotate_left 1
            focus (intro w hSw; (try dsimp only at hSw); go_simp; (try with_reducible rfl))
            try simp only [Act.put, List.setIfInBounds_toArray, List.set_cons_zero, List.set_cons_succ]
            refine wpAnyH_ready (rs := [30]) (by kernel_rfl) (by simp) (AllReadyH.cons (o := { dst := none, op := Op.store 23 (Operand.tmp 3) (Operand.tmp 32), type := 0, pos := "ref.go:176", after := #[{ on := 29, ground := Ground.data }, { on := 28, ground := Ground.data }, { on := 26, ground := Ground.chain }, { on := 0, ground := Ground.phase }, { on := 1, ground := Ground.phase }, { on := 2, ground := Ground.phase }, { on := 3, ground := Ground.phase }, { on := 4, ground := Ground.phase }, { on := 5, ground := Ground.phase }, { on := 6, ground := Ground.phase }, { on := 7, ground := Ground.phase }, { on := 8, ground := Ground.phase }, { on := 9, ground := Ground.phase }, { on := 10, ground := Ground.phase }, { on := 11, ground := Ground.phase }, { on := 12, ground := Ground.phase }, { on := 13, ground := Ground.phase }, { on := 14, ground := Ground.phase }, { on := 15, ground := Ground.phase }, { on := 16, ground := Ground.phase }, { on := 17, ground := Ground.phase }, { on := 18, ground := Ground.phase }, { on := 19, ground := Ground.phase }, { on := 20, ground := Ground.phase }, { on := 21, ground := Ground.phase }, { on := 22, ground := Ground.phase }, { on := 23, ground := Ground.phase }, { on := 24, ground := Ground.phase }, { on := 25, ground := Ground.phase }, { on := 26, ground := Ground.phase }, { on := 27, ground := Ground.phase }, { on := 28, ground := Ground.phase }, { on := 29, ground := Ground.phase }], guard := none }) rfl (fun K hK => ?_) AllReadyH.nil)
            have hs27r1 := hs26r1.rowset (ds := #[.int .i64 s0, .int .i64 s1, .int .i64 s2, .int .i64 s3, .int .i64 s4, .int .i64 s5, .int .i64 s6]) hle29r1 hne29r1
            refine wp_store_of 23 _ _ rfl (store_row 23 (cs := #[.int .i64 0, .int .i64 0, .int .i64 0, .int .i64 0, .int .i64 0, .int .i64 0, .int .i64 0]) (ds := #[.int .i64 s0, .int .i64 s1, .int .i64 s2, .int .i64 s3, .int .i64 s4, .int .i64 s5, .int .i64 s6]) (by kernel_rfl) rfl (by simp [Value.oneCell']) hs26r1.hd) ?_
            refine hK.out _ _ ?_ (fun hHeld => ?_)
            · exact HP.out _ (hs27r1.tl)
            clear hK K
            try simp only [Act.put]
            refine wpAnyH_done (by kernel_rfl) ?_ _
            have h9 := hs27r1
            go_wp2_with fail
            go_meet
            case rel => exact ⟨_, rfl, fun hh => hne29r1 (b0 + 1, ao 0 0 0 0 0 0 0) (by simp) hh.symm, hlt29r1 (b0 + 1) (ao 0 0 0 0 0 0 0) (by simp), h9.sub (by intro x hx; simp at hx ⊢; rcases hx with rfl | rfl <;> simp)⟩
        · have hne29r1 := hs2r1.ne
          have hle29r1 := hs2r1.below.size
          have hlt29r1 := fun (b : Nat) (o : Obj) (hm : (b, o) ∈ _) => hs2r1.lt hm
          have hs28r1 := hs2r1.alloc (.cells #[.int .i64 0, .int .i64 0, .int .i64 0, .int .i64 0, .int .i64 0, .int .i64 0, .int .i64 0] 23)
          refine wp_alloc_of 23 rfl _ (zero_aff _) ?_
          refine hK.out _ _ ?_ (fun hHeld => ?_)
          · exact HP.out _ (hs28r1.tl)
          clear hK K
          try simp only [Act.put, List.setIfInBounds_toArray, List.set_cons_zero, List.set_cons_succ]
          refine wpAnyH_ready (rs := [10]) (by kernel_rfl) (by simp) (AllReadyH.cons (o := { dst := some 14, op := Op.call { callee := Callee.value (Operand.func 41), args := #[Operand.tmp 13, Operand.const (Value.int IntKind.i64 41)], argTypes := #[3, 3] }, type := 3, pos := "ref.go:176", after := #[{ on := 9, ground := Ground.data }, { on := 6, ground := Ground.chain }], guard := none }) rfl (fun K hK => ?_) AllReadyH.nil)
          (go_simp; (go_at_call 41; (refine (St.call hs28r1 (g2.out _)).mono ?_); rintro e V29r1 ⟨rfl, hs29r1⟩))
          refine hK.out _ _ ?_ (fun hHeld => ?_)
          · exact HP.out _ (hs29r1.tl)
          clear hK K
          try simp only [Act.put, List.setIfInBounds_toArray, List.set_cons_zero, List.set_cons_succ]
          refine wpAnyH_take (i := 11) (oi := { dst := some 15, op := Op.binOp BinOp.sub 3 (Operand.tmp 14) (Operand.const (Value.int IntKind.i64 20)) 3, type := 3, pos := "ref.go:176", after := #[{ on := 10, ground := Ground.data }], guard := none }) (v := ?_) rfl (by kernel_rfl) (by kernel_rfl) (by kernel_rfl) (fun _ _ _ h => h) (Or.inl ⟨by kernel_rfl, ?_⟩) (by assumption) ?_
          rotate_left 1
          focus (intro w hSw; (try dsimp only at hSw); go_simp; (try with_reducible rfl))
          try simp only [Act.put, List.setIfInBounds_toArray, List.set_cons_zero, List.set_cons_succ]
          refine wpAnyH_ready (rs := [14]) (by kernel_rfl) (by simp) (AllReadyH.cons (o := { dst := some 18, op := Op.call { callee := Callee.value (Operand.func 41), args := #[Operand.tmp 17, Operand.const (Value.int IntKind.i64 9)], argTypes := #[3, 3] }, type := 3, pos := "ref.go:176", after := #[{ on := 13, ground := Ground.data }, { on := 10, ground := Ground.chain }], guard := none }) rfl (fun K hK => ?_) AllReadyH.nil)
          (go_simp; (go_at_call 41; (refine (St.call hs29r1 (g3.out _)).mono ?_); rintro e V30r1 ⟨rfl, hs30r1⟩))
          refine hK.out _ _ ?_ (fun hHeld => ?_)
          · exact HP.out _ (hs30r1.tl)
          clear hK K
          try simp only [Act.put, List.setIfInBounds_toArray, List.set_cons_zero, List.set_cons_succ]
          refine wpAnyH_take (i := 15) (oi := { dst := some 19, op := Op.binOp BinOp.sub 3 (Operand.tmp 18) (Operand.const (Value.int IntKind.i64 4)) 3, type := 3, pos := "ref.go:176", after := #[{ on := 14, ground := Ground.data }], guard := none }) (v := ?_) rfl (by kernel_rfl) (by kernel_rfl) (by kernel_rfl) (fun _ _ _ h => h) (Or.inl ⟨by kernel_rfl, ?_⟩) (by assumption) ?_
          rotate_left 1
          focus (intro w hSw; (try dsimp only at hSw); go_simp; (try with_reducible rfl))
          try simp only [Act.put, List.setIfInBounds_toArray, List.set_cons_zero, List.set_cons_succ]
          refine wpAnyH_ready (rs := [18]) (by kernel_rfl) (by simp) (AllReadyH.cons (o := { dst := some 22, op := Op.call { callee := Callee.value (Operand.func 41), args := #[Operand.tmp 21, Operand.const (Value.int IntKind.i64 9)], argTypes := #[3, 3] }, type := 3, pos := "ref.go:176", after := #[{ on := 17, ground := Ground.data }, { on := 14, ground := Ground.chain }], guard := none }) rfl (fun K hK => ?_) AllReadyH.nil)
          (go_simp; (go_at_call 41; (refine (St.call hs30r1 (g4.out _)).mono ?_); rintro e V31r1 ⟨rfl, hs31r1⟩))
          refine hK.out _ _ ?_ (fun hHeld => ?_)
          · exact HP.out _ (hs31r1.tl)
          clear hK K
          try simp only [Act.put, List.setIfInBounds_toArray, List.set_cons_zero, List.set_cons_succ]
          refine wpAnyH_take (i := 19) (oi := { dst := some 23, op := Op.binOp BinOp.sub 3 (Operand.tmp 22) (Operand.const (Value.int IntKind.i64 4)) 3, type := 3, pos := "ref.go:176", after := #[{ on := 18, ground := Ground.data }], guard := none }) (v := ?_) rfl (by kernel_rfl) (by kernel_rfl) (by kernel_rfl) (fun _ _ _ h => h) (Or.inl ⟨by kernel_rfl, ?_⟩) (by assumption) ?_
          rotate_left 1
          focus (intro w hSw; (try dsimp only at hSw); go_simp; (try with_reducible rfl))
          try simp only [Act.put, List.setIfInBounds_toArray, List.set_cons_zero, List.set_cons_succ]
          refine wpAnyH_ready (rs := [22]) (by kernel_rfl) (by simp) (AllReadyH.cons (o := { dst := some 26, op := Op.call { callee := Callee.value (Operand.func 41), args := #[Operand.tmp 25, Operand.const (Value.int IntKind.i64 41)], argTypes := #[3, 3] }, type := 3, pos := "ref.go:176", after := #[{ on := 21, ground := Ground.data }, { on := 18, ground := Ground.chain }], guard := none }) rfl (fun K hK => ?_) AllReadyH.nil)
          (go_simp; (go_at_call 41; (refine (St.call hs31r1 (g5.out _)).mono ?_); rintro e V32r1 ⟨rfl, hs32r1⟩))
          refine hK.out _ _ ?_ (fun hHeld => ?_)
          · exact HP.out _ (hs32r1.tl)
          clear hK K
          try simp only [Act.put, List.setIfInBounds_toArray, List.set_cons_zero, List.set_cons_succ]
          refine wpAnyH_take (i := 23) (oi := { dst := some 27, op := Op.binOp BinOp.sub 3 (Operand.tmp 26) (Operand.const (Value.int IntKind.i64 20)) 3, type := 3, pos := "ref.go:176", after := #[{ on := 22, ground := Ground.data }], guard := none }) (v := ?_) rfl (by kernel_rfl) (by kernel_rfl) (by kernel_rfl) (fun _ _ _ h => h) (Or.inl ⟨by kernel_rfl, ?_⟩) (by assumption) ?_
          rotate_left 1
          focus (intro w hSw; (try dsimp only at hSw); go_simp; (try with_reducible rfl))
          try simp only [Act.put, List.setIfInBounds_toArray, List.set_cons_zero, List.set_cons_succ]
          refine wpAnyH_ready (rs := [26]) (by kernel_rfl) (by simp) (AllReadyH.cons (o := { dst := some 30, op := Op.call { callee := Callee.value (Operand.func 41), args := #[Operand.tmp 29, Operand.const (Value.int IntKind.i64 4)], argTypes := #[3, 3] }, type := 3, pos := "ref.go:176", after := #[{ on := 25, ground := Ground.data }, { on := 22, ground := Ground.chain }], guard := none }) rfl (fun K hK => ?_) AllReadyH.nil)
          (go_simp; (go_at_call 41; (refine (St.call hs32r1 (g6.out _)).mono ?_); rintro e V33r1 ⟨rfl, hs33r1⟩))
          refine hK.out _ _ ?_ (fun hHeld => ?_)
          · exact HP.out _ (hs33r1.tl)
          clear hK K
          try simp only [Act.put, List.setIfInBounds_toArray, List.set_cons_zero, List.set_cons_succ]
          refine wpAnyH_take (i := 27) (oi := { dst := some 31, op := Op.binOp BinOp.add 3 (Operand.const (Value.int IntKind.i64 1)) (Operand.tmp 30) 3, type := 3, pos := "ref.go:176", after := #[{ on := 26, ground := Ground.data }], guard := none }) (v := ?_) rfl (by kernel_rfl) (by kernel_rfl) (by kernel_rfl) (fun _ _ _ h => h) (Or.inl ⟨by kernel_rfl, ?_⟩) (by assumption) ?_
          rotate_left 1
          focus (intro w hSw; (try dsimp only at hSw); go_simp; (try with_reducible rfl))
          try simp only [Act.put, List.setIfInBounds_toArray, List.set_cons_zero, List.set_cons_succ]
          refine wpAnyH_take (i := 28) (oi := { dst := some 32, op := Op.build 23 #[(0, Operand.tmp 7), (1, Operand.tmp 11), (2, Operand.tmp 15), (3, Operand.tmp 19), (4, Operand.tmp 23), (5, Operand.tmp 27), (6, Operand.tmp 31)], type := 23, pos := "ref.go:176", after := #[{ on := 3, ground := Ground.data }, { on := 7, ground := Ground.data }, { on := 11, ground := Ground.data }, { on := 15, ground := Ground.data }, { on := 19, ground := Ground.data }, { on := 23, ground := Ground.data }, { on := 27, ground := Ground.data }], guard := none }) (v := ?_) rfl (by kernel_rfl) (by kernel_rfl) (by kernel_rfl) (fun _ _ _ h => h) (Or.inl ⟨by kernel_rfl, ?_⟩) (by assumption) ?_
          rotate_left 1
          focus (intro w hSw; (try dsimp only at hSw); go_simp; (try with_reducible rfl))
          try simp only [Act.put, List.setIfInBounds_toArray, List.set_cons_zero, List.set_cons_succ]
          refine wpAnyH_ready (rs := [30]) (by kernel_rfl) (by simp) (AllReadyH.cons (o := { dst := none, op := Op.store 23 (Operand.tmp 3) (Operand.tmp 32), type := 0, pos := "ref.go:176", after := #[{ on := 29, ground := Ground.data }, { on := 28, ground := Ground.data }, { on := 26, ground := Ground.chain }, { on := 0, ground := Ground.phase }, { on := 1, ground := Ground.phase }, { on := 2, ground := Ground.phase }, { on := 3, ground := Ground.phase }, { on := 4, ground := Ground.phase }, { on := 5, ground := Ground.phase }, { on := 6, ground := Ground.phase }, { on := 7, ground := Ground.phase }, { on := 8, ground := Ground.phase }, { on := 9, ground := Ground.phase }, { on := 10, ground := Ground.phase }, { on := 11, ground := Ground.phase }, { on := 12, ground := Ground.phase }, { on := 13, ground := Ground.phase }, { on := 14, ground := Ground.phase }, { on := 15, ground := Ground.phase }, { on := 16, ground := Ground.phase }, { on := 17, ground := Ground.phase }, { on := 18, ground := Ground.phase }, { on := 19, ground := Ground.phase }, { on := 20, ground := Ground.phase }, { on := 21, ground := Ground.phase }, { on := 22, ground := Ground.phase }, { on := 23, ground := Ground.phase }, { on := 24, ground := Ground.phase }, { on := 25, ground := Ground.phase }, { on := 26, ground := Ground.phase }, { on := 27, ground := Ground.phase }, { on := 28, ground := Ground.phase }, { on := 29, ground := Ground.phase }], guard := none }) rfl (fun K hK => ?_) AllReadyH.nil)
          have hs34r1 := hs33r1.rowset (ds := #[.int .i64 s0, .int .i64 s1, .int .i64 s2, .int .i64 s3, .int .i64 s4, .int .i64 s5, .int .i64 s6]) hle29r1 hne29r1
          refine wp_store_of 23 _ _ rfl (store_row 23 (cs := #[.int .i64 0, .int .i64 0, .int .i64 0, .int .i64 0, .int .i64 0, .int .i64 0, .int .i64 0]) (ds := #[.int .i64 s0, .int .i64 s1, .int .i64 s2, .int .i64 s3, .int .i64 s4, .int .i64 s5, .int .i64 s6]) (by kernel_rfl) rfl (by simp [Value.oneCell']) hs33r1.hd) ?_
          refine hK.out _ _ ?_ (fun hHeld => ?_)
          · exact HP.out _ (hs34r1.tl)
          clear hK K
          try simp only [Act.put]
          refine wpAnyH_done (by kernel_rfl) ?_ _
          have h9 := hs34r1
          go_wp2_with fail
          go_meet
          case rel => exact ⟨_, rfl, fun hh => hne29r1 (b0 + 1, ao 0 0 0 0 0 0 0) (by simp) hh.symm, hlt29r1 (b0 + 1) (ao 0 0 0 0 0 0 0) (by simp), h9.sub (by intro x hx; simp at hx ⊢; rcases hx with rfl | rfl <;> simp)⟩
      · have hne29r1 := hs1r1.ne
        have hle29r1 := hs1r1.below.size
        have hlt29r1 := fun (b : Nat) (o : Obj) (hm : (b, o) ∈ _) => hs1r1.lt hm
        have hs35r1 := hs1r1.alloc (.cells #[.int .i64 0, .int .i64 0, .int .i64 0, .int .i64 0, .int .i64 0, .int .i64 0, .int .i64 0] 23)
        refine wp_alloc_of 23 rfl _ (zero_aff _) ?_
        refine hK.out _ _ ?_ (fun hHeld => ?_)
        · exact HP.out _ (hs35r1.tl)
        clear hK K
        try simp only [Act.put, List.setIfInBounds_toArray, List.set_cons_zero, List.set_cons_succ]
        refine wpAnyH_ready (rs := [6]) (by kernel_rfl) (by simp) (AllReadyH.cons (o := { dst := some 10, op := Op.call { callee := Callee.value (Operand.func 41), args := #[Operand.tmp 9, Operand.const (Value.int IntKind.i64 9)], argTypes := #[3, 3] }, type := 3, pos := "ref.go:176", after := #[{ on := 5, ground := Ground.data }, { on := 2, ground := Ground.chain }], guard := none }) rfl (fun K hK => ?_) AllReadyH.nil)
        (go_simp; (go_at_call 41; (refine (St.call hs35r1 (g1.out _)).mono ?_); rintro e V36r1 ⟨rfl, hs36r1⟩))
        refine hK.out _ _ ?_ (fun hHeld => ?_)
        · exact HP.out _ (hs36r1.tl)
        clear hK K
        try simp only [Act.put, List.setIfInBounds_toArray, List.set_cons_zero, List.set_cons_succ]
        refine wpAnyH_take (i := 7) (oi := { dst := some 11, op := Op.binOp BinOp.sub 3 (Operand.tmp 10) (Operand.const (Value.int IntKind.i64 4)) 3, type := 3, pos := "ref.go:176", after := #[{ on := 6, ground := Ground.data }], guard := none }) (v := ?_) rfl (by kernel_rfl) (by kernel_rfl) (by kernel_rfl) (fun _ _ _ h => h) (Or.inl ⟨by kernel_rfl, ?_⟩) (by assumption) ?_
        rotate_left 1
        focus (intro w hSw; (try dsimp only at hSw); go_simp; (try with_reducible rfl))
        try simp only [Act.put, List.setIfInBounds_toArray, List.set_cons_zero, List.set_cons_succ]
        refine wpAnyH_ready (rs := [10]) (by kernel_rfl) (by simp) (AllReadyH.cons (o := { dst := some 14, op := Op.call { callee := Callee.value (Operand.func 41), args := #[Operand.tmp 13, Operand.const (Value.int IntKind.i64 41)], argTypes := #[3, 3] }, type := 3, pos := "ref.go:176", after := #[{ on := 9, ground := Ground.data }, { on := 6, ground := Ground.chain }], guard := none }) rfl (fun K hK => ?_) AllReadyH.nil)
        (go_simp; (go_at_call 41; (refine (St.call hs36r1 (g2.out _)).mono ?_); rintro e V37r1 ⟨rfl, hs37r1⟩))
        refine hK.out _ _ ?_ (fun hHeld => ?_)
        · exact HP.out _ (hs37r1.tl)
        clear hK K
        try simp only [Act.put, List.setIfInBounds_toArray, List.set_cons_zero, List.set_cons_succ]
        refine wpAnyH_take (i := 11) (oi := { dst := some 15, op := Op.binOp BinOp.sub 3 (Operand.tmp 14) (Operand.const (Value.int IntKind.i64 20)) 3, type := 3, pos := "ref.go:176", after := #[{ on := 10, ground := Ground.data }], guard := none }) (v := ?_) rfl (by kernel_rfl) (by kernel_rfl) (by kernel_rfl) (fun _ _ _ h => h) (Or.inl ⟨by kernel_rfl, ?_⟩) (by assumption) ?_
        rotate_left 1
        focus (intro w hSw; (try dsimp only at hSw); go_simp; (try with_reducible rfl))
        try simp only [Act.put, List.setIfInBounds_toArray, List.set_cons_zero, List.set_cons_succ]
        refine wpAnyH_ready (rs := [14]) (by kernel_rfl) (by simp) (AllReadyH.cons (o := { dst := some 18, op := Op.call { callee := Callee.value (Operand.func 41), args := #[Operand.tmp 17, Operand.const (Value.int IntKind.i64 9)], argTypes := #[3, 3] }, type := 3, pos := "ref.go:176", after := #[{ on := 13, ground := Ground.data }, { on := 10, ground := Ground.chain }], guard := none }) rfl (fun K hK => ?_) AllReadyH.nil)
        (go_simp; (go_at_call 41; (refine (St.call hs37r1 (g3.out _)).mono ?_); rintro e V38r1 ⟨rfl, hs38r1⟩))
        refine hK.out _ _ ?_ (fun hHeld => ?_)
        · exact HP.out _ (hs38r1.tl)
        clear hK K
        try simp only [Act.put, List.setIfInBounds_toArray, List.set_cons_zero, List.set_cons_succ]
        refine wpAnyH_take (i := 15) (oi := { dst := some 19, op := Op.binOp BinOp.sub 3 (Operand.tmp 18) (Operand.const (Value.int IntKind.i64 4)) 3, type := 3, pos := "ref.go:176", after := #[{ on := 14, ground := Ground.data }], guard := none }) (v := ?_) rfl (by kernel_rfl) (by kernel_rfl) (by kernel_rfl) (fun _ _ _ h => h) (Or.inl ⟨by kernel_rfl, ?_⟩) (by assumption) ?_
        rotate_left 1
        focus (intro w hSw; (try dsimp only at hSw); go_simp; (try with_reducible rfl))
        try simp only [Act.put, List.setIfInBounds_toArray, List.set_cons_zero, List.set_cons_succ]
        refine wpAnyH_ready (rs := [18]) (by kernel_rfl) (by simp) (AllReadyH.cons (o := { dst := some 22, op := Op.call { callee := Callee.value (Operand.func 41), args := #[Operand.tmp 21, Operand.const (Value.int IntKind.i64 9)], argTypes := #[3, 3] }, type := 3, pos := "ref.go:176", after := #[{ on := 17, ground := Ground.data }, { on := 14, ground := Ground.chain }], guard := none }) rfl (fun K hK => ?_) AllReadyH.nil)
        (go_simp; (go_at_call 41; (refine (St.call hs38r1 (g4.out _)).mono ?_); rintro e V39r1 ⟨rfl, hs39r1⟩))
        refine hK.out _ _ ?_ (fun hHeld => ?_)
        · exact HP.out _ (hs39r1.tl)
        clear hK K
        try simp only [Act.put, List.setIfInBounds_toArray, List.set_cons_zero, List.set_cons_succ]
        refine wpAnyH_take (i := 19) (oi := { dst := some 23, op := Op.binOp BinOp.sub 3 (Operand.tmp 22) (Operand.const (Value.int IntKind.i64 4)) 3, type := 3, pos := "ref.go:176", after := #[{ on := 18, ground := Ground.data }], guard := none }) (v := ?_) rfl (by kernel_rfl) (by kernel_rfl) (by kernel_rfl) (fun _ _ _ h => h) (Or.inl ⟨by kernel_rfl, ?_⟩) (by assumption) ?_
        rotate_left 1
        focus (intro w hSw; (try dsimp only at hSw); go_simp; (try with_reducible rfl))
        try simp only [Act.put, List.setIfInBounds_toArray, List.set_cons_zero, List.set_cons_succ]
        refine wpAnyH_ready (rs := [22]) (by kernel_rfl) (by simp) (AllReadyH.cons (o := { dst := some 26, op := Op.call { callee := Callee.value (Operand.func 41), args := #[Operand.tmp 25, Operand.const (Value.int IntKind.i64 41)], argTypes := #[3, 3] }, type := 3, pos := "ref.go:176", after := #[{ on := 21, ground := Ground.data }, { on := 18, ground := Ground.chain }], guard := none }) rfl (fun K hK => ?_) AllReadyH.nil)
        (go_simp; (go_at_call 41; (refine (St.call hs39r1 (g5.out _)).mono ?_); rintro e V40r1 ⟨rfl, hs40r1⟩))
        refine hK.out _ _ ?_ (fun hHeld => ?_)
        · exact HP.out _ (hs40r1.tl)
        clear hK K
        try simp only [Act.put, List.setIfInBounds_toArray, List.set_cons_zero, List.set_cons_succ]
        refine wpAnyH_take (i := 23) (oi := { dst := some 27, op := Op.binOp BinOp.sub 3 (Operand.tmp 26) (Operand.const (Value.int IntKind.i64 20)) 3, type := 3, pos := "ref.go:176", after := #[{ on := 22, ground := Ground.data }], guard := none }) (v := ?_) rfl (by kernel_rfl) (by kernel_rfl) (by kernel_rfl) (fun _ _ _ h => h) (Or.inl ⟨by kernel_rfl, ?_⟩) (by assumption) ?_
        rotate_left 1
        focus (intro w hSw; (try dsimp only at hSw); go_simp; (try with_reducible rfl))
        try simp only [Act.put, List.setIfInBounds_toArray, List.set_cons_zero, List.set_cons_succ]
        refine wpAnyH_ready (rs := [26]) (by kernel_rfl) (by simp) (AllReadyH.cons (o := { dst := some 30, op := Op.call { callee := Callee.value (Operand.func 41), args := #[Operand.tmp 29, Operand.const (Value.int IntKind.i64 4)], argTypes := #[3, 3] }, type := 3, pos := "ref.go:176", after := #[{ on := 25, ground := Ground.data }, { on := 22, ground := Ground.chain }], guard := none }) rfl (fun K hK => ?_) AllReadyH.nil)
        (go_simp; (go_at_call 41; (refine (St.call hs40r1 (g6.out _)).mono ?_); rintro e V41r1 ⟨rfl, hs41r1⟩))
        refine hK.out _ _ ?_ (fun hHeld => ?_)
        · exact HP.out _ (hs41r1.tl)
        clear hK K
        try simp only [Act.put, List.setIfInBounds_toArray, List.set_cons_zero, List.set_cons_succ]
        refine wpAnyH_take (i := 27) (oi := { dst := some 31, op := Op.binOp BinOp.add 3 (Operand.const (Value.int IntKind.i64 1)) (Operand.tmp 30) 3, type := 3, pos := "ref.go:176", after := #[{ on := 26, ground := Ground.data }], guard := none }) (v := ?_) rfl (by kernel_rfl) (by kernel_rfl) (by kernel_rfl) (fun _ _ _ h => h) (Or.inl ⟨by kernel_rfl, ?_⟩) (by assumption) ?_
        rotate_left 1
        focus (intro w hSw; (try dsimp only at hSw); go_simp; (try with_reducible rfl))
        try simp only [Act.put, List.setIfInBounds_toArray, List.set_cons_zero, List.set_cons_succ]
        refine wpAnyH_take (i := 28) (oi := { dst := some 32, op := Op.build 23 #[(0, Operand.tmp 7), (1, Operand.tmp 11), (2, Operand.tmp 15), (3, Operand.tmp 19), (4, Operand.tmp 23), (5, Operand.tmp 27), (6, Operand.tmp 31)], type := 23, pos := "ref.go:176", after := #[{ on := 3, ground := Ground.data }, { on := 7, ground := Ground.data }, { on := 11, ground := Ground.data }, { on := 15, ground := Ground.data }, { on := 19, ground := Ground.data }, { on := 23, ground := Ground.data }, { on := 27, ground := Ground.data }], guard := none }) (v := ?_) rfl (by kernel_rfl) (by kernel_rfl) (by kernel_rfl) (fun _ _ _ h => h) (Or.inl ⟨by kernel_rfl, ?_⟩) (by assumption) ?_
        rotate_left 1
        focus (intro w hSw; (try dsimp only at hSw); go_simp; (try with_reducible rfl))
        try simp only [Act.put, List.setIfInBounds_toArray, List.set_cons_zero, List.set_cons_succ]
        refine wpAnyH_ready (rs := [30]) (by kernel_rfl) (by simp) (AllReadyH.cons (o := { dst := none, op := Op.store 23 (Operand.tmp 3) (Operand.tmp 32), type := 0, pos := "ref.go:176", after := #[{ on := 29, ground := Ground.data }, { on := 28, ground := Ground.data }, { on := 26, ground := Ground.chain }, { on := 0, ground := Ground.phase }, { on := 1, ground := Ground.phase }, { on := 2, ground := Ground.phase }, { on := 3, ground := Ground.phase }, { on := 4, ground := Ground.phase }, { on := 5, ground := Ground.phase }, { on := 6, ground := Ground.phase }, { on := 7, ground := Ground.phase }, { on := 8, ground := Ground.phase }, { on := 9, ground := Ground.phase }, { on := 10, ground := Ground.phase }, { on := 11, ground := Ground.phase }, { on := 12, ground := Ground.phase }, { on := 13, ground := Ground.phase }, { on := 14, ground := Ground.phase }, { on := 15, ground := Ground.phase }, { on := 16, ground := Ground.phase }, { on := 17, ground := Ground.phase }, { on := 18, ground := Ground.phase }, { on := 19, ground := Ground.phase }, { on := 20, ground := Ground.phase }, { on := 21, ground := Ground.phase }, { on := 22, ground := Ground.phase }, { on := 23, ground := Ground.phase }, { on := 24, ground := Ground.phase }, { on := 25, ground := Ground.phase }, { on := 26, ground := Ground.phase }, { on := 27, ground := Ground.phase }, { on := 28, ground := Ground.phase }, { on := 29, ground := Ground.phase }], guard := none }) rfl (fun K hK => ?_) AllReadyH.nil)
        have hs42r1 := hs41r1.rowset (ds := #[.int .i64 s0, .int .i64 s1, .int .i64 s2, .int .i64 s3, .int .i64 s4, .int .i64 s5, .int .i64 s6]) hle29r1 hne29r1
        refine wp_store_of 23 _ _ rfl (store_row 23 (cs := #[.int .i64 0, .int .i64 0, .int .i64 0, .int .i64 0, .int .i64 0, .int .i64 0, .int .i64 0]) (ds := #[.int .i64 s0, .int .i64 s1, .int .i64 s2, .int .i64 s3, .int .i64 s4, .int .i64 s5, .int .i64 s6]) (by kernel_rfl) rfl (by simp [Value.oneCell']) hs41r1.hd) ?_
        refine hK.out _ _ ?_ (fun hHeld => ?_)
        · exact HP.out _ (hs42r1.tl)
        clear hK K
        try simp only [Act.put]
        refine wpAnyH_done (by kernel_rfl) ?_ _
        have h9 := hs42r1
        go_wp2_with fail
        go_meet
        case rel => exact ⟨_, rfl, fun hh => hne29r1 (b0 + 1, ao 0 0 0 0 0 0 0) (by simp) hh.symm, hlt29r1 (b0 + 1) (ao 0 0 0 0 0 0 0) (by simp), h9.sub (by intro x hx; simp at hx ⊢; rcases hx with rfl | rfl <;> simp)⟩
    · have hne29r1 := hs0.ne
      have hle29r1 := hs0.below.size
      have hlt29r1 := fun (b : Nat) (o : Obj) (hm : (b, o) ∈ _) => hs0.lt hm
      have hs43r1 := hs0.alloc (.cells #[.int .i64 0, .int .i64 0, .int .i64 0, .int .i64 0, .int .i64 0, .int .i64 0, .int .i64 0] 23)
      refine wp_alloc_of 23 rfl _ (zero_aff _) ?_
      refine hK.out _ _ ?_ (fun hHeld => ?_)
      · exact HP.out _ (hs43r1.tl)
      clear hK K
      try simp only [Act.put, List.setIfInBounds_toArray, List.set_cons_zero, List.set_cons_succ]
      refine wpAnyH_ready (rs := [2]) (by kernel_rfl) (by simp) (AllReadyH.cons (o := { dst := some 6, op := Op.call { callee := Callee.value (Operand.func 41), args := #[Operand.tmp 5, Operand.const (Value.int IntKind.i64 9)], argTypes := #[3, 3] }, type := 3, pos := "ref.go:176", after := #[{ on := 1, ground := Ground.data }], guard := none }) rfl (fun K hK => ?_) AllReadyH.nil)
      (go_simp; (go_at_call 41; (refine (St.call hs43r1 (g0.out _)).mono ?_); rintro e V44r1 ⟨rfl, hs44r1⟩))
      refine hK.out _ _ ?_ (fun hHeld => ?_)
      · exact HP.out _ (hs44r1.tl)
      clear hK K
      try simp only [Act.put, List.setIfInBounds_toArray, List.set_cons_zero, List.set_cons_succ]
      refine wpAnyH_take (i := 3) (oi := { dst := some 7, op := Op.binOp BinOp.sub 3 (Operand.tmp 6) (Operand.const (Value.int IntKind.i64 4)) 3, type := 3, pos := "ref.go:176", after := #[{ on := 2, ground := Ground.data }], guard := none }) (v := ?_) rfl (by kernel_rfl) (by kernel_rfl) (by kernel_rfl) (fun _ _ _ h => h) (Or.inl ⟨by kernel_rfl, ?_⟩) (by assumption) ?_
      rotate_left 1
      focus (intro w hSw; (try dsimp only at hSw); go_simp; (try with_reducible rfl))
      try simp only [Act.put, List.setIfInBounds_toArray, List.set_cons_zero, List.set_cons_succ]
      refine wpAnyH_ready (rs := [6]) (by kernel_rfl) (by simp) (AllReadyH.cons (o := { dst := some 10, op := Op.call { callee := Callee.value (Operand.func 41), args := #[Operand.tmp 9, Operand.const (Value.int IntKind.i64 9)], argTypes := #[3, 3] }, type := 3, pos := "ref.go:176", after := #[{ on := 5, ground := Ground.data }, { on := 2, ground := Ground.chain }], guard := none }) rfl (fun K hK => ?_) AllReadyH.nil)
      (go_simp; (go_at_call 41; (refine (St.call hs44r1 (g1.out _)).mono ?_); rintro e V45r1 ⟨rfl, hs45r1⟩))
      refine hK.out _ _ ?_ (fun hHeld => ?_)
      · exact HP.out _ (hs45r1.tl)
      clear hK K
      try simp only [Act.put, List.setIfInBounds_toArray, List.set_cons_zero, List.set_cons_succ]
      refine wpAnyH_take (i := 7) (oi := { dst := some 11, op := Op.binOp BinOp.sub 3 (Operand.tmp 10) (Operand.const (Value.int IntKind.i64 4)) 3, type := 3, pos := "ref.go:176", after := #[{ on := 6, ground := Ground.data }], guard := none }) (v := ?_) rfl (by kernel_rfl) (by kernel_rfl) (by kernel_rfl) (fun _ _ _ h => h) (Or.inl ⟨by kernel_rfl, ?_⟩) (by assumption) ?_
      rotate_left 1
      focus (intro w hSw; (try dsimp only at hSw); go_simp; (try with_reducible rfl))
      try simp only [Act.put, List.setIfInBounds_toArray, List.set_cons_zero, List.set_cons_succ]
      refine wpAnyH_ready (rs := [10]) (by kernel_rfl) (by simp) (AllReadyH.cons (o := { dst := some 14, op := Op.call { callee := Callee.value (Operand.func 41), args := #[Operand.tmp 13, Operand.const (Value.int IntKind.i64 41)], argTypes := #[3, 3] }, type := 3, pos := "ref.go:176", after := #[{ on := 9, ground := Ground.data }, { on := 6, ground := Ground.chain }], guard := none }) rfl (fun K hK => ?_) AllReadyH.nil)
      (go_simp; (go_at_call 41; (refine (St.call hs45r1 (g2.out _)).mono ?_); rintro e V46r1 ⟨rfl, hs46r1⟩))
      refine hK.out _ _ ?_ (fun hHeld => ?_)
      · exact HP.out _ (hs46r1.tl)
      clear hK K
      try simp only [Act.put, List.setIfInBounds_toArray, List.set_cons_zero, List.set_cons_succ]
      refine wpAnyH_take (i := 11) (oi := { dst := some 15, op := Op.binOp BinOp.sub 3 (Operand.tmp 14) (Operand.const (Value.int IntKind.i64 20)) 3, type := 3, pos := "ref.go:176", after := #[{ on := 10, ground := Ground.data }], guard := none }) (v := ?_) rfl (by kernel_rfl) (by kernel_rfl) (by kernel_rfl) (fun _ _ _ h => h) (Or.inl ⟨by kernel_rfl, ?_⟩) (by assumption) ?_
      rotate_left 1
      focus (intro w hSw; (try dsimp only at hSw); go_simp; (try with_reducible rfl))
      try simp only [Act.put, List.setIfInBounds_toArray, List.set_cons_zero, List.set_cons_succ]
      refine wpAnyH_ready (rs := [14]) (by kernel_rfl) (by simp) (AllReadyH.cons (o := { dst := some 18, op := Op.call { callee := Callee.value (Operand.func 41), args := #[Operand.tmp 17, Operand.const (Value.int IntKind.i64 9)], argTypes := #[3, 3] }, type := 3, pos := "ref.go:176", after := #[{ on := 13, ground := Ground.data }, { on := 10, ground := Ground.chain }], guard := none }) rfl (fun K hK => ?_) AllReadyH.nil)
      (go_simp; (go_at_call 41; (refine (St.call hs46r1 (g3.out _)).mono ?_); rintro e V47r1 ⟨rfl, hs47r1⟩))
      refine hK.out _ _ ?_ (fun hHeld => ?_)
      · exact HP.out _ (hs47r1.tl)
      clear hK K
      try simp only [Act.put, List.setIfInBounds_toArray, List.set_cons_zero, List.set_cons_succ]
      refine wpAnyH_take (i := 15) (oi := { dst := some 19, op := Op.binOp BinOp.sub 3 (Operand.tmp 18) (Operand.const (Value.int IntKind.i64 4)) 3, type := 3, pos := "ref.go:176", after := #[{ on := 14, ground := Ground.data }], guard := none }) (v := ?_) rfl (by kernel_rfl) (by kernel_rfl) (by kernel_rfl) (fun _ _ _ h => h) (Or.inl ⟨by kernel_rfl, ?_⟩) (by assumption) ?_
      rotate_left 1
      focus (intro w hSw; (try dsimp only at hSw); go_simp; (try with_reducible rfl))
      try simp only [Act.put, List.setIfInBounds_toArray, List.set_cons_zero, List.set_cons_succ]
      refine wpAnyH_ready (rs := [18]) (by kernel_rfl) (by simp) (AllReadyH.cons (o := { dst := some 22, op := Op.call { callee := Callee.value (Operand.func 41), args := #[Operand.tmp 21, Operand.const (Value.int IntKind.i64 9)], argTypes := #[3, 3] }, type := 3, pos := "ref.go:176", after := #[{ on := 17, ground := Ground.data }, { on := 14, ground := Ground.chain }], guard := none }) rfl (fun K hK => ?_) AllReadyH.nil)
      (go_simp; (go_at_call 41; (refine (St.call hs47r1 (g4.out _)).mono ?_); rintro e V48r1 ⟨rfl, hs48r1⟩))
      refine hK.out _ _ ?_ (fun hHeld => ?_)
      · exact HP.out _ (hs48r1.tl)
      clear hK K
      try simp only [Act.put, List.setIfInBounds_toArray, List.set_cons_zero, List.set_cons_succ]
      refine wpAnyH_take (i := 19) (oi := { dst := some 23, op := Op.binOp BinOp.sub 3 (Operand.tmp 22) (Operand.const (Value.int IntKind.i64 4)) 3, type := 3, pos := "ref.go:176", after := #[{ on := 18, ground := Ground.data }], guard := none }) (v := ?_) rfl (by kernel_rfl) (by kernel_rfl) (by kernel_rfl) (fun _ _ _ h => h) (Or.inl ⟨by kernel_rfl, ?_⟩) (by assumption) ?_
      rotate_left 1
      focus (intro w hSw; (try dsimp only at hSw); go_simp; (try with_reducible rfl))
      try simp only [Act.put, List.setIfInBounds_toArray, List.set_cons_zero, List.set_cons_succ]
      refine wpAnyH_ready (rs := [22]) (by kernel_rfl) (by simp) (AllReadyH.cons (o := { dst := some 26, op := Op.call { callee := Callee.value (Operand.func 41), args := #[Operand.tmp 25, Operand.const (Value.int IntKind.i64 41)], argTypes := #[3, 3] }, type := 3, pos := "ref.go:176", after := #[{ on := 21, ground := Ground.data }, { on := 18, ground := Ground.chain }], guard := none }) rfl (fun K hK => ?_) AllReadyH.nil)
      (go_simp; (go_at_call 41; (refine (St.call hs48r1 (g5.out _)).mono ?_); rintro e V49r1 ⟨rfl, hs49r1⟩))
      refine hK.out _ _ ?_ (fun hHeld => ?_)
      · exact HP.out _ (hs49r1.tl)
      clear hK K
      try simp only [Act.put, List.setIfInBounds_toArray, List.set_cons_zero, List.set_cons_succ]
      refine wpAnyH_take (i := 23) (oi := { dst := some 27, op := Op.binOp BinOp.sub 3 (Operand.tmp 26) (Operand.const (Value.int IntKind.i64 20)) 3, type := 3, pos := "ref.go:176", after := #[{ on := 22, ground := Ground.data }], guard := none }) (v := ?_) rfl (by kernel_rfl) (by kernel_rfl) (by kernel_rfl) (fun _ _ _ h => h) (Or.inl ⟨by kernel_rfl, ?_⟩) (by assumption) ?_
      rotate_left 1
      focus (intro w hSw; (try dsimp only at hSw); go_simp; (try with_reducible rfl))
      try simp only [Act.put, List.setIfInBounds_toArray, List.set_cons_zero, List.set_cons_succ]
      refine wpAnyH_ready (rs := [26]) (by kernel_rfl) (by simp) (AllReadyH.cons (o := { dst := some 30, op := Op.call { callee := Callee.value (Operand.func 41), args := #[Operand.tmp 29, Operand.const (Value.int IntKind.i64 4)], argTypes := #[3, 3] }, type := 3, pos := "ref.go:176", after := #[{ on := 25, ground := Ground.data }, { on := 22, ground := Ground.chain }], guard := none }) rfl (fun K hK => ?_) AllReadyH.nil)
      (go_simp; (go_at_call 41; (refine (St.call hs49r1 (g6.out _)).mono ?_); rintro e V50r1 ⟨rfl, hs50r1⟩))
      refine hK.out _ _ ?_ (fun hHeld => ?_)
      · exact HP.out _ (hs50r1.tl)
      clear hK K
      try simp only [Act.put, List.setIfInBounds_toArray, List.set_cons_zero, List.set_cons_succ]
      refine wpAnyH_take (i := 27) (oi := { dst := some 31, op := Op.binOp BinOp.add 3 (Operand.const (Value.int IntKind.i64 1)) (Operand.tmp 30) 3, type := 3, pos := "ref.go:176", after := #[{ on := 26, ground := Ground.data }], guard := none }) (v := ?_) rfl (by kernel_rfl) (by kernel_rfl) (by kernel_rfl) (fun _ _ _ h => h) (Or.inl ⟨by kernel_rfl, ?_⟩) (by assumption) ?_
      rotate_left 1
      focus (intro w hSw; (try dsimp only at hSw); go_simp; (try with_reducible rfl))
      try simp only [Act.put, List.setIfInBounds_toArray, List.set_cons_zero, List.set_cons_succ]
      refine wpAnyH_take (i := 28) (oi := { dst := some 32, op := Op.build 23 #[(0, Operand.tmp 7), (1, Operand.tmp 11), (2, Operand.tmp 15), (3, Operand.tmp 19), (4, Operand.tmp 23), (5, Operand.tmp 27), (6, Operand.tmp 31)], type := 23, pos := "ref.go:176", after := #[{ on := 3, ground := Ground.data }, { on := 7, ground := Ground.data }, { on := 11, ground := Ground.data }, { on := 15, ground := Ground.data }, { on := 19, ground := Ground.data }, { on := 23, ground := Ground.data }, { on := 27, ground := Ground.data }], guard := none }) (v := ?_) rfl (by kernel_rfl) (by kernel_rfl) (by kernel_rfl) (fun _ _ _ h => h) (Or.inl ⟨by kernel_rfl, ?_⟩) (by assumption) ?_
      rotate_left 1
      focus (intro w hSw; (try dsimp only at hSw); go_simp; (try with_reducible rfl))
      try simp only [Act.put, List.setIfInBounds_toArray, List.set_cons_zero, List.set_cons_succ]
      refine wpAnyH_ready (rs := [30]) (by kernel_rfl) (by simp) (AllReadyH.cons (o := { dst := none, op := Op.store 23 (Operand.tmp 3) (Operand.tmp 32), type := 0, pos := "ref.go:176", after := #[{ on := 29, ground := Ground.data }, { on := 28, ground := Ground.data }, { on := 26, ground := Ground.chain }, { on := 0, ground := Ground.phase }, { on := 1, ground := Ground.phase }, { on := 2, ground := Ground.phase }, { on := 3, ground := Ground.phase }, { on := 4, ground := Ground.phase }, { on := 5, ground := Ground.phase }, { on := 6, ground := Ground.phase }, { on := 7, ground := Ground.phase }, { on := 8, ground := Ground.phase }, { on := 9, ground := Ground.phase }, { on := 10, ground := Ground.phase }, { on := 11, ground := Ground.phase }, { on := 12, ground := Ground.phase }, { on := 13, ground := Ground.phase }, { on := 14, ground := Ground.phase }, { on := 15, ground := Ground.phase }, { on := 16, ground := Ground.phase }, { on := 17, ground := Ground.phase }, { on := 18, ground := Ground.phase }, { on := 19, ground := Ground.phase }, { on := 20, ground := Ground.phase }, { on := 21, ground := Ground.phase }, { on := 22, ground := Ground.phase }, { on := 23, ground := Ground.phase }, { on := 24, ground := Ground.phase }, { on := 25, ground := Ground.phase }, { on := 26, ground := Ground.phase }, { on := 27, ground := Ground.phase }, { on := 28, ground := Ground.phase }, { on := 29, ground := Ground.phase }], guard := none }) rfl (fun K hK => ?_) AllReadyH.nil)
      have hs51r1 := hs50r1.rowset (ds := #[.int .i64 s0, .int .i64 s1, .int .i64 s2, .int .i64 s3, .int .i64 s4, .int .i64 s5, .int .i64 s6]) hle29r1 hne29r1
      refine wp_store_of 23 _ _ rfl (store_row 23 (cs := #[.int .i64 0, .int .i64 0, .int .i64 0, .int .i64 0, .int .i64 0, .int .i64 0, .int .i64 0]) (ds := #[.int .i64 s0, .int .i64 s1, .int .i64 s2, .int .i64 s3, .int .i64 s4, .int .i64 s5, .int .i64 s6]) (by kernel_rfl) rfl (by simp [Value.oneCell']) hs50r1.hd) ?_
      refine hK.out _ _ ?_ (fun hHeld => ?_)
      · exact HP.out _ (hs51r1.tl)
      clear hK K
      try simp only [Act.put]
      refine wpAnyH_done (by kernel_rfl) ?_ _
      have h9 := hs51r1
      go_wp2_with fail
      go_meet
      case rel => exact ⟨_, rfl, fun hh => hne29r1 (b0 + 1, ao 0 0 0 0 0 0 0) (by simp) hh.symm, hlt29r1 (b0 + 1) (ao 0 0 0 0 0 0 0) (by simp), h9.sub (by intro x hx; simp at hx ⊢; rcases hx with rfl | rfl <;> simp)⟩
  case rest =>
    obtain ⟨b9, rfl, hn9, hl9, HQ⟩ := hcut
    clear hs HP g0 g1 g2 g3 g4 g5 g6 m0 m1 m2 m3 m4 m5 m6
    have h9 := HQ.out
    clear HQ
    obtain ⟨_, _, _, _, _, _, _⟩ := St.aff h9 (b := b9) (a := s0) (b' := s1) (c := s2) (d := s3) (e := s4) (f := s5) (n := s6) (by simp)
    by_cases hd : dd = 0
    · subst hd
      have ht := HT.out
      rw [if_pos rfl, Af.mk.injEq] at ht
      obtain ⟨rfl, rfl, rfl, rfl, rfl, rfl, rfl⟩ := ht
      clear HT
      go_wp2_with (first | (go_at_call 36; (with_reducible refine (St.call h9 (HD.out _)).mono ?_); rintro en w8 ⟨rfl, h8⟩; obtain ⟨_, _, _, _, _, _, _⟩ := St.aff h8 (b := b9) (a := s0) (b' := s1) (c := s2) (d := s3) (e := s4) (f := s5) (n := s6) (by simp); have _ : ∀ j, _ = false := h8.frozen (b := b9) (cs := #[.int .i64 s0, .int .i64 s1, .int .i64 s2, .int .i64 s3, .int .i64 s4, .int .i64 s5, .int .i64 s6]) (t := 23) (by simp); obtain ⟨_, _, _, _, _, _, _⟩ := St.aff h8 (b := b0 + 1) (a := 0) (b' := 0) (c := 0) (d := 0) (e := 0) (f := 0) (n := 0) (by simp); have _ : ∀ j, _ = false := h8.frozen (b := b0 + 1) (cs := #[.int .i64 0, .int .i64 0, .int .i64 0, .int .i64 0, .int .i64 0, .int .i64 0, .int .i64 0]) (t := 23) (by simp)))
      subst hb0; exact bodyPost_ret (v := av 1 0 s2 s3 1 s5 s6) (by simp [results, Try.results14, go_sem, *]) rfl ⟨rfl, below_set7 (((h8.below.setCell (p := ⟨b9, 0, none⟩) (by show _ ≤ b9; omega) _).setCell (p := ⟨b9, 4, none⟩) (by show _ ≤ b9; omega) _).setCell (p := ⟨b9, 1, none⟩) (by show _ ≤ b9; omega) _) (by omega) _ _ _ _ _ _ _⟩
    · have hd' : (dd == 0) = false := by simpa using hd
      have hd2 : (dd = 0) = False := by simpa using hd
      have ht := HT.out
      rw [if_neg hd, Af.mk.injEq] at ht
      obtain ⟨rfl, rfl, rfl, rfl, rfl, rfl, rfl⟩ := ht
      clear HT
      go_wp2_with (first | (go_at_call 36; (with_reducible refine (St.call h9 (HD.out _)).mono ?_); rintro en w8 ⟨rfl, h8⟩; obtain ⟨_, _, _, _, _, _, _⟩ := St.aff h8 (b := b9) (a := s0) (b' := s1) (c := s2) (d := s3) (e := s4) (f := s5) (n := s6) (by simp); have _ : ∀ j, _ = false := h8.frozen (b := b9) (cs := #[.int .i64 s0, .int .i64 s1, .int .i64 s2, .int .i64 s3, .int .i64 s4, .int .i64 s5, .int .i64 s6]) (t := 23) (by simp); obtain ⟨_, _, _, _, _, _, _⟩ := St.aff h8 (b := b0 + 1) (a := 0) (b' := 0) (c := 0) (d := 0) (e := 0) (f := 0) (n := 0) (by simp); have _ : ∀ j, _ = false := h8.frozen (b := b0 + 1) (cs := #[.int .i64 0, .int .i64 0, .int .i64 0, .int .i64 0, .int .i64 0, .int .i64 0, .int .i64 0]) (t := 23) (by simp)))
      subst hb0; exact bodyPost_ret (v := av s0 s1 s2 s3 s4 s5 s6) (by simp [results, Try.results14, go_sem, *]) rfl ⟨rfl, below_set7 h8.below (by omega) _ _ _ _ _ _ _⟩
end Go.Proofs.Ytgipfcpkphmbpaa.F
