/-
  The source of a pixel: of affine and of the reference.
-/
import Derived.Test.YtgipfcpkphmbpaaAFlo
namespace Go.Proofs.Ytgipfcpkphmbpaa.F
open Go.RowKit
set_option maxRecDepth 100000

abbrev po (x y : Int) : Obj := pob x y
theorem St.pt {W w : World} {L : List (Nat × Obj)} (h : St W L w) {b : Nat} {x y : Int} (hm : (b, pob x y) ∈ L) : TB w b x y := St.pair h hm
theorem weq' {X v : Int} (hv : wrap64 v = v) (h : X = v) : wrap64 X = v := by rw [h, hv]
/-- sources: what floor is asked, and what it says -/
theorem src_facts {a : Af} {x y : Int} (h : Ok a) (hx : Cb x) (hy : Cb y) : 2 * det a ≠ 0 ∧ wrap64 (nx a x y) = nx a x y ∧ wrap64 (ny a x y) = ny a x y ∧ wrap64 (2 * det a) = 2 * det a ∧ flo (nx a x y) (2 * det a) = sx a x y ∧ flo (ny a x y) (2 * det a) = sy a x y := by
  have h1 := nxy_bd h.1 hx hy
  have h2 := det_bd h.1
  have h0 : 2 * det a ≠ 0 := by have := h.2; omega
  exact ⟨h0, w64 ⟨by omega, by omega⟩, w64 ⟨by omega, by omega⟩, w64 ⟨by omega, by omega⟩, (flo_fl h0 ⟨by omega, by omega⟩).1, (flo_fl h0 ⟨by omega, by omega⟩).1⟩
set_option maxHeartbeats 4000000 in
theorem source_any (p0 p1 p2 p3 p4 p5 p6 x y : Int) (w : World) (h : Ok ⟨p0, p1, p2, p3, p4, p5, p6⟩) (hx : Cb x) (hy : Cb y) : Calls Try.prog 52 #[av p0 p1 p2 p3 p4 p5 p6, tv x y] w fun en w' => en = .returned (tv (sx ⟨p0, p1, p2, p3, p4, p5, p6⟩ x y) (sy ⟨p0, p1, p2, p3, p4, p5, p6⟩ x y)) ∧ Below w.heap.size w w' := by
  have HD : Hid (∀ W, Calls Try.prog 43 #[av p0 p1 p2 p3 p4 p5 p6] W fun en w' => en = .returned (.int .i64 (det ⟨p0, p1, p2, p3, p4, p5, p6⟩)) ∧ Below W.heap.size W w') := fun W => by
    have := det_any p0 p1 p2 p3 p4 p5 p6 W; rw [show detw p0 p1 p3 p4 = det ⟨p0, p1, p2, p3, p4, p5, p6⟩ from detw_eq h.1] at this; exact this
  obtain ⟨f0, f1, f2, f3, f4, f5⟩ := src_facts h hx hy
  have HX : Hid (∀ n d W, n = nx ⟨p0, p1, p2, p3, p4, p5, p6⟩ x y → d = 2 * det ⟨p0, p1, p2, p3, p4, p5, p6⟩ → Calls Try.prog 72 #[.int .i64 n, .int .i64 d] W fun en w' => en = .returned (.int .i64 (sx ⟨p0, p1, p2, p3, p4, p5, p6⟩ x y)) ∧ Below W.heap.size W w') := fun n d W hn hd => by
    subst hn hd; rw [← f4]; exact (floorA_any _ _ W f0).mono fun _ _ ⟨u, v⟩ => ⟨u, v ▸ Below.refl _ _⟩
  have HY : Hid (∀ n d W, n = ny ⟨p0, p1, p2, p3, p4, p5, p6⟩ x y → d = 2 * det ⟨p0, p1, p2, p3, p4, p5, p6⟩ → Calls Try.prog 72 #[.int .i64 n, .int .i64 d] W fun en w' => en = .returned (.int .i64 (sy ⟨p0, p1, p2, p3, p4, p5, p6⟩ x y)) ∧ Below W.heap.size W w') := fun n d W hn hd => by
    subst hn hd; rw [← f5]; exact (floorA_any _ _ W f0).mono fun _ _ ⟨u, v⟩ => ⟨u, v ▸ Below.refl _ _⟩
  have H1 := Lib.hid f1
  have H2 := Lib.hid f2
  have H3 := Lib.hid f3
  have E1 : Hid (nx ⟨p0, p1, p2, p3, p4, p5, p6⟩ x y = p4 * (p6 * (2 * x + 1) - 2 * p2) - p1 * (p6 * (2 * y + 1) - 2 * p5)) := rfl
  have E2 : Hid (ny ⟨p0, p1, p2, p3, p4, p5, p6⟩ x y = p0 * (p6 * (2 * y + 1) - 2 * p5) - p3 * (p6 * (2 * x + 1) - 2 * p2)) := rfl
  clear f0 f1 f2 f3 f4 f5 h hx hy
  generalize sx ⟨p0, p1, p2, p3, p4, p5, p6⟩ x y = rx at HX ⊢
  generalize sy ⟨p0, p1, p2, p3, p4, p5, p6⟩ x y = ry at HY ⊢
  generalize nx ⟨p0, p1, p2, p3, p4, p5, p6⟩ x y = n1 at HX H1 E1
  generalize ny ⟨p0, p1, p2, p3, p4, p5, p6⟩ x y = n2 at HY H2 E2
  generalize det ⟨p0, p1, p2, p3, p4, p5, p6⟩ = dd at HX HY HD H3
  go_enter Try.func52, Try.ntmps52
  go_upto_region 1 with fail
  have hs := (((St.start w).alloc (ao p0 p1 p2 p3 p4 p5 p6)).alloc (pob x y)).alloc (pob 0 0)
  simp only [World.size_alloc] at hs
  generalize hb0 : w.heap.size = b0 at hs ⊢
  generalize ((w.alloc (ao p0 p1 p2 p3 p4 p5 p6)).alloc (pob x y)).alloc (pob 0 0) = w1 at hs ⊢
  obtain ⟨_, _, _, _, _, _, _⟩ := St.aff hs (b := b0) (a := p0) (b' := p1) (c := p2) (d := p3) (e := p4) (f := p5) (n := p6) (by simp)
  obtain ⟨_, _⟩ := St.pt hs (b := b0 + 1) (x := x) (y := y) (by simp)
  go_upto_region 4 with (first | (go_at_call 43; (with_reducible refine (St.call hs (HD.out _)).mono ?_); rintro en w2 ⟨rfl, h2⟩))
  have HP : Hid (∀ V, St w [(b0 + 1, pob x y), (b0, ao p0 p1 p2 p3 p4 p5 p6)] V → St w [(b0 + 1, pob x y), (b0, ao p0 p1 p2 p3 p4 p5 p6)] V ∧ AB V b0 p0 p1 p2 p3 p4 p5 p6 ∧ TB V (b0 + 1) x y) := fun V hV => ⟨hV, St.aff hV (by simp), St.pt hV (by simp)⟩
  refine wp_region_held_drew (S := fun V9 => St w [(b0 + 1, pob x y), (b0, ao p0 p1 p2 p3 p4 p5 p6)] V9 ∧ AB V9 b0 p0 p1 p2 p3 p4 p5 p6 ∧ TB V9 (b0 + 1) x y) (by kernel_rfl) ?_ (fun hHeld => ?_)
  · exact HP.out _ (h2.drew.tl)
  have h20 := h2.drew
  refine wpAnyH_take (i := 0) (oi := { dst := some 33, op := Op.fieldAddr 23 (Operand.tmp 2) 4, type := 0, pos := "sample.go:27", after := #[], guard := none }) (v := ?_) rfl (by kernel_rfl) (by kernel_rfl) (by kernel_rfl) (fun _ _ _ h => h) (Or.inl ⟨by kernel_rfl, ?_⟩) (by assumption) ?_
  rotate_left 1
  focus (intro w hSw; (try dsimp only at hSw); go_simp; (try with_reducible rfl))
  try simp only [Act.put, List.setIfInBounds_toArray, List.set_cons_zero, List.set_cons_succ]
  refine wpAnyH_take (i := 1) (oi := { dst := some 34, op := Op.load 3 (Operand.tmp 33), type := 3, pos := "sample.go:27", after := #[{ on := 0, ground := Ground.data }], guard := none }) (v := ?_) rfl (by kernel_rfl) (by kernel_rfl) (by kernel_rfl) (fun _ _ _ h => h) (Or.inl ⟨by kernel_rfl, ?_⟩) (by assumption) ?_
  rotate_left 1
  focus (intro w hSw; (try dsimp only at hSw); go_simp; (try with_reducible rfl))
  try simp only [Act.put, List.setIfInBounds_toArray, List.set_cons_zero, List.set_cons_succ]
  refine wpAnyH_take (i := 2) (oi := { dst := some 35, op := Op.move (Operand.tmp 5), type := 3, pos := "sample.go:27", after := #[], guard := none }) (v := ?_) rfl (by kernel_rfl) (by kernel_rfl) (by kernel_rfl) (fun _ _ _ h => h) (Or.inl ⟨by kernel_rfl, ?_⟩) (by assumption) ?_
  rotate_left 1
  focus (intro w hSw; (try dsimp only at hSw); go_simp; (try with_reducible rfl))
  try simp only [Act.put, List.setIfInBounds_toArray, List.set_cons_zero, List.set_cons_succ]
  refine wpAnyH_take (i := 3) (oi := { dst := some 36, op := Op.binOp BinOp.mul 3 (Operand.tmp 34) (Operand.tmp 35) 3, type := 3, pos := "sample.go:27", after := #[{ on := 1, ground := Ground.data }, { on := 2, ground := Ground.data }], guard := none }) (v := ?_) rfl (by kernel_rfl) (by kernel_rfl) (by kernel_rfl) (fun _ _ _ h => h) (Or.inl ⟨by kernel_rfl, ?_⟩) (by assumption) ?_
  rotate_left 1
  focus (intro w hSw; (try dsimp only at hSw); go_simp; (try with_reducible rfl))
  try simp only [Act.put, List.setIfInBounds_toArray, List.set_cons_zero, List.set_cons_succ]
  refine wpAnyH_take (i := 4) (oi := { dst := some 37, op := Op.fieldAddr 23 (Operand.tmp 2) 1, type := 0, pos := "sample.go:27", after := #[], guard := none }) (v := ?_) rfl (by kernel_rfl) (by kernel_rfl) (by kernel_rfl) (fun _ _ _ h => h) (Or.inl ⟨by kernel_rfl, ?_⟩) (by assumption) ?_
  rotate_left 1
  focus (intro w hSw; (try dsimp only at hSw); go_simp; (try with_reducible rfl))
  try simp only [Act.put, List.setIfInBounds_toArray, List.set_cons_zero, List.set_cons_succ]
  refine wpAnyH_take (i := 5) (oi := { dst := some 38, op := Op.load 3 (Operand.tmp 37), type := 3, pos := "sample.go:27", after := #[{ on := 4, ground := Ground.data }], guard := none }) (v := ?_) rfl (by kernel_rfl) (by kernel_rfl) (by kernel_rfl) (fun _ _ _ h => h) (Or.inl ⟨by kernel_rfl, ?_⟩) (by assumption) ?_
  rotate_left 1
  focus (intro w hSw; (try dsimp only at hSw); go_simp; (try with_reducible rfl))
  try simp only [Act.put, List.setIfInBounds_toArray, List.set_cons_zero, List.set_cons_succ]
  refine wpAnyH_take (i := 6) (oi := { dst := some 39, op := Op.move (Operand.tmp 6), type := 3, pos := "sample.go:27", after := #[], guard := none }) (v := ?_) rfl (by kernel_rfl) (by kernel_rfl) (by kernel_rfl) (fun _ _ _ h => h) (Or.inl ⟨by kernel_rfl, ?_⟩) (by assumption) ?_
  rotate_left 1
  focus (intro w hSw; (try dsimp only at hSw); go_simp; (try with_reducible rfl))
  try simp only [Act.put, List.setIfInBounds_toArray, List.set_cons_zero, List.set_cons_succ]
  refine wpAnyH_take (i := 7) (oi := { dst := some 40, op := Op.binOp BinOp.mul 3 (Operand.tmp 38) (Operand.tmp 39) 3, type := 3, pos := "sample.go:27", after := #[{ on := 5, ground := Ground.data }, { on := 6, ground := Ground.data }], guard := none }) (v := ?_) rfl (by kernel_rfl) (by kernel_rfl) (by kernel_rfl) (fun _ _ _ h => h) (Or.inl ⟨by kernel_rfl, ?_⟩) (by assumption) ?_
  rotate_left 1
  focus (intro w hSw; (try dsimp only at hSw); go_simp; (try with_reducible rfl))
  try simp only [Act.put, List.setIfInBounds_toArray, List.set_cons_zero, List.set_cons_succ]
  refine wpAnyH_take (i := 8) (oi := { dst := some 41, op := Op.binOp BinOp.sub 3 (Operand.tmp 36) (Operand.tmp 40) 3, type := 3, pos := "sample.go:27", after := #[{ on := 3, ground := Ground.data }, { on := 7, ground := Ground.data }], guard := none }) (v := ?_) rfl (by kernel_rfl) (by kernel_rfl) (by kernel_rfl) (fun _ _ _ h => h) (Or.inl ⟨by kernel_rfl, ?_⟩) (by assumption) ?_
  rotate_left 1
  focus (intro w hSw; (try dsimp only at hSw); go_simp; (try with_reducible rfl))
  try simp only [Act.put, List.setIfInBounds_toArray, List.set_cons_zero, List.set_cons_succ]
  refine wpAnyH_take (i := 9) (oi := { dst := some 42, op := Op.move (Operand.tmp 7), type := 3, pos := "sample.go:27", after := #[], guard := none }) (v := ?_) rfl (by kernel_rfl) (by kernel_rfl) (by kernel_rfl) (fun _ _ _ h => h) (Or.inl ⟨by kernel_rfl, ?_⟩) (by assumption) ?_
  rotate_left 1
  focus (intro w hSw; (try dsimp only at hSw); go_simp; (try with_reducible rfl))
  try simp only [Act.put, List.setIfInBounds_toArray, List.set_cons_zero, List.set_cons_succ]
  refine wpAnyH_take (i := 11) (oi := { dst := some 44, op := Op.fieldAddr 23 (Operand.tmp 2) 0, type := 0, pos := "sample.go:27", after := #[], guard := none }) (v := ?_) rfl (by kernel_rfl) (by kernel_rfl) (by kernel_rfl) (fun _ _ _ h => h) (Or.inl ⟨by kernel_rfl, ?_⟩) (by assumption) ?_
  rotate_left 1
  focus (intro w hSw; (try dsimp only at hSw); go_simp; (try with_reducible rfl))
  try simp only [Act.put, List.setIfInBounds_toArray, List.set_cons_zero, List.set_cons_succ]
  refine wpAnyH_take (i := 12) (oi := { dst := some 45, op := Op.load 3 (Operand.tmp 44), type := 3, pos := "sample.go:27", after := #[{ on := 11, ground := Ground.data }], guard := none }) (v := ?_) rfl (by kernel_rfl) (by kernel_rfl) (by kernel_rfl) (fun _ _ _ h => h) (Or.inl ⟨by kernel_rfl, ?_⟩) (by assumption) ?_
  rotate_left 1
  focus (intro w hSw; (try dsimp only at hSw); go_simp; (try with_reducible rfl))
  try simp only [Act.put, List.setIfInBounds_toArray, List.set_cons_zero, List.set_cons_succ]
  refine wpAnyH_take (i := 13) (oi := { dst := some 46, op := Op.move (Operand.tmp 6), type := 3, pos := "sample.go:27", after := #[], guard := none }) (v := ?_) rfl (by kernel_rfl) (by kernel_rfl) (by kernel_rfl) (fun _ _ _ h => h) (Or.inl ⟨by kernel_rfl, ?_⟩) (by assumption) ?_
  rotate_left 1
  focus (intro w hSw; (try dsimp only at hSw); go_simp; (try with_reducible rfl))
  try simp only [Act.put, List.setIfInBounds_toArray, List.set_cons_zero, List.set_cons_succ]
  refine wpAnyH_take (i := 14) (oi := { dst := some 47, op := Op.binOp BinOp.mul 3 (Operand.tmp 45) (Operand.tmp 46) 3, type := 3, pos := "sample.go:27", after := #[{ on := 12, ground := Ground.data }, { on := 13, ground := Ground.data }], guard := none }) (v := ?_) rfl (by kernel_rfl) (by kernel_rfl) (by kernel_rfl) (fun _ _ _ h => h) (Or.inl ⟨by kernel_rfl, ?_⟩) (by assumption) ?_
  rotate_left 1
  focus (intro w hSw; (try dsimp only at hSw); go_simp; (try with_reducible rfl))
  try simp only [Act.put, List.setIfInBounds_toArray, List.set_cons_zero, List.set_cons_succ]
  refine wpAnyH_take (i := 15) (oi := { dst := some 48, op := Op.fieldAddr 23 (Operand.tmp 2) 3, type := 0, pos := "sample.go:27", after := #[], guard := none }) (v := ?_) rfl (by kernel_rfl) (by kernel_rfl) (by kernel_rfl) (fun _ _ _ h => h) (Or.inl ⟨by kernel_rfl, ?_⟩) (by assumption) ?_
  rotate_left 1
  focus (intro w hSw; (try dsimp only at hSw); go_simp; (try with_reducible rfl))
  try simp only [Act.put, List.setIfInBounds_toArray, List.set_cons_zero, List.set_cons_succ]
  refine wpAnyH_take (i := 16) (oi := { dst := some 49, op := Op.load 3 (Operand.tmp 48), type := 3, pos := "sample.go:27", after := #[{ on := 15, ground := Ground.data }], guard := none }) (v := ?_) rfl (by kernel_rfl) (by kernel_rfl) (by kernel_rfl) (fun _ _ _ h => h) (Or.inl ⟨by kernel_rfl, ?_⟩) (by assumption) ?_
  rotate_left 1
  focus (intro w hSw; (try dsimp only at hSw); go_simp; (try with_reducible rfl))
  try simp only [Act.put, List.setIfInBounds_toArray, List.set_cons_zero, List.set_cons_succ]
  refine wpAnyH_take (i := 17) (oi := { dst := some 50, op := Op.move (Operand.tmp 5), type := 3, pos := "sample.go:27", after := #[], guard := none }) (v := ?_) rfl (by kernel_rfl) (by kernel_rfl) (by kernel_rfl) (fun _ _ _ h => h) (Or.inl ⟨by kernel_rfl, ?_⟩) (by assumption) ?_
  rotate_left 1
  focus (intro w hSw; (try dsimp only at hSw); go_simp; (try with_reducible rfl))
  try simp only [Act.put, List.setIfInBounds_toArray, List.set_cons_zero, List.set_cons_succ]
  refine wpAnyH_take (i := 18) (oi := { dst := some 51, op := Op.binOp BinOp.mul 3 (Operand.tmp 49) (Operand.tmp 50) 3, type := 3, pos := "sample.go:27", after := #[{ on := 16, ground := Ground.data }, { on := 17, ground := Ground.data }], guard := none }) (v := ?_) rfl (by kernel_rfl) (by kernel_rfl) (by kernel_rfl) (fun _ _ _ h => h) (Or.inl ⟨by kernel_rfl, ?_⟩) (by assumption) ?_
  rotate_left 1
  focus (intro w hSw; (try dsimp only at hSw); go_simp; (try with_reducible rfl))
  try simp only [Act.put, List.setIfInBounds_toArray, List.set_cons_zero, List.set_cons_succ]
  refine wpAnyH_take (i := 19) (oi := { dst := some 52, op := Op.binOp BinOp.sub 3 (Operand.tmp 47) (Operand.tmp 51) 3, type := 3, pos := "sample.go:27", after := #[{ on := 14, ground := Ground.data }, { on := 18, ground := Ground.data }], guard := none }) (v := ?_) rfl (by kernel_rfl) (by kernel_rfl) (by kernel_rfl) (fun _ _ _ h => h) (Or.inl ⟨by kernel_rfl, ?_⟩) (by assumption) ?_
  rotate_left 1
  focus (intro w hSw; (try dsimp only at hSw); go_simp; (try with_reducible rfl))
  try simp only [Act.put, List.setIfInBounds_toArray, List.set_cons_zero, List.set_cons_succ]
  refine wpAnyH_take (i := 20) (oi := { dst := some 53, op := Op.move (Operand.tmp 7), type := 3, pos := "sample.go:27", after := #[], guard := none }) (v := ?_) rfl (by kernel_rfl) (by kernel_rfl) (by kernel_rfl) (fun _ _ _ h => h) (Or.inl ⟨by kernel_rfl, ?_⟩) (by assumption) ?_
  rotate_left 1
  focus (intro w hSw; (try dsimp only at hSw); go_simp; (try with_reducible rfl))
  try simp only [Act.put, List.setIfInBounds_toArray, List.set_cons_zero, List.set_cons_succ]
  refine wpAnyH_ready (rs := [10]) (by kernel_rfl) (by simp) (AllReadyH.cons (o := { dst := some 43, op := Op.call { callee := Callee.value (Operand.func 72), args := #[Operand.tmp 41, Operand.tmp 42], argTypes := #[3, 3] }, type := 3, pos := "sample.go:27", after := #[{ on := 8, ground := Ground.data }, { on := 9, ground := Ground.data }], guard := none }) rfl (fun K hK => ?_) AllReadyH.nil)
  (go_simp; (go_at_call 72; (refine (St.call h20 (HX.out _ _ _ ?_ ?_)).mono ?_); (focus (simp only [wal, wsl, wsr, wmr, wrapI]; exact weq' H1.out (by first | (rw [E1.out]; done) | (rw [E1.out]; grind)))); (focus (first | with_reducible rfl | exact H3.out | (simp only [wid, wal, war, wsl, wsr, wml, wmr, wng, wrapI]; first | exact H3.out | rfl))); rintro e V1r4 ⟨rfl, h21r4⟩))
  refine hK.out _ _ ?_ (fun hHeld => ?_)
  · exact HP.out _ (h21r4.tl)
  clear hK K
  try simp only [Act.put, List.setIfInBounds_toArray, List.set_cons_zero, List.set_cons_succ]
  refine wpAnyH_ready (rs := [21]) (by kernel_rfl) (by simp) (AllReadyH.cons (o := { dst := some 54, op := Op.call { callee := Callee.value (Operand.func 72), args := #[Operand.tmp 52, Operand.tmp 53], argTypes := #[3, 3] }, type := 3, pos := "sample.go:27", after := #[{ on := 19, ground := Ground.data }, { on := 20, ground := Ground.data }, { on := 10, ground := Ground.chain }], guard := none }) rfl (fun K hK => ?_) AllReadyH.nil)
  (go_simp; (go_at_call 72; (refine (St.call h21r4 (HY.out _ _ _ ?_ ?_)).mono ?_); (focus (simp only [wal, wsl, wsr, wmr, wrapI]; exact weq' H2.out (by first | (rw [E2.out]; done) | (rw [E2.out]; grind)))); (focus (first | with_reducible rfl | exact H3.out | (simp only [wid, wal, war, wsl, wsr, wml, wmr, wng, wrapI]; first | exact H3.out | rfl))); rintro e V2r4 ⟨rfl, h22r4⟩))
  refine hK.out _ _ ?_ (fun hHeld => ?_)
  · exact HP.out _ (h22r4.tl)
  clear hK K
  try simp only [Act.put, List.setIfInBounds_toArray, List.set_cons_zero, List.set_cons_succ]
  refine wpAnyH_take (i := 22) (oi := { dst := some 55, op := Op.build 49 #[(0, Operand.tmp 43), (1, Operand.tmp 54)], type := 49, pos := "sample.go:27", after := #[{ on := 10, ground := Ground.data }, { on := 21, ground := Ground.data }], guard := none }) (v := ?_) rfl (by kernel_rfl) (by kernel_rfl) (by kernel_rfl) (fun _ _ _ h => h) (Or.inl ⟨by kernel_rfl, ?_⟩) (by assumption) ?_
  rotate_left 1
  focus (intro w hSw; (try dsimp only at hSw); go_simp; (try with_reducible rfl))
  try simp only [Act.put, List.setIfInBounds_toArray, List.set_cons_zero, List.set_cons_succ]
  refine wpAnyH_ready (rs := [23]) (by kernel_rfl) (by simp) (AllReadyH.cons (o := { dst := none, op := Op.store 49 (Operand.tmp 4) (Operand.tmp 55), type := 0, pos := "sample.go:27", after := #[{ on := 22, ground := Ground.data }, { on := 21, ground := Ground.chain }, { on := 0, ground := Ground.phase }, { on := 1, ground := Ground.phase }, { on := 2, ground := Ground.phase }, { on := 3, ground := Ground.phase }, { on := 4, ground := Ground.phase }, { on := 5, ground := Ground.phase }, { on := 6, ground := Ground.phase }, { on := 7, ground := Ground.phase }, { on := 8, ground := Ground.phase }, { on := 9, ground := Ground.phase }, { on := 10, ground := Ground.phase }, { on := 11, ground := Ground.phase }, { on := 12, ground := Ground.phase }, { on := 13, ground := Ground.phase }, { on := 14, ground := Ground.phase }, { on := 15, ground := Ground.phase }, { on := 16, ground := Ground.phase }, { on := 17, ground := Ground.phase }, { on := 18, ground := Ground.phase }, { on := 19, ground := Ground.phase }, { on := 20, ground := Ground.phase }, { on := 21, ground := Ground.phase }, { on := 22, ground := Ground.phase }], guard := none }) rfl (fun K hK => ?_) AllReadyH.nil)
  have h23r4 := h22r4.rowset (ds := #[.int .i64 rx, .int .i64 ry]) (by omega) (by simp; try omega)
  refine wp_store_of 49 _ _ rfl (store_row 49 (cs := #[.int .i64 0, .int .i64 0]) (ds := #[.int .i64 rx, .int .i64 ry]) (by kernel_rfl) rfl (by simp [Value.oneCell']) h22r4.hd) ?_
  refine hK.out _ _ ?_ (fun hHeld => ?_)
  · exact HP.out _ (h23r4.tl)
  clear hK K
  try simp only [Act.put]
  refine wpAnyH_done (by kernel_rfl) ?_ _
  have h9 := h23r4
  obtain ⟨_, _⟩ := St.pt h9 (b := b0 + 1 + 1) (x := rx) (y := ry) (by simp)
  generalize World.setRow _ _ _ = w9 at *
  go_wp2
  subst hb0; exact bodyPost_ret (v := tv rx ry) (by simp [results, Try.results52, go_sem, *]) rfl ⟨rfl, h9.below⟩
end Go.Proofs.Ytgipfcpkphmbpaa.F
