/-
  Source, check, corners, centres.
-/
import Derived.Test.YtgipfcpkphmbpaaAExt
namespace Go.Proofs.Ytgipfcpkphmbpaa.F
open Go.RowKit
set_option maxRecDepth 100000

theorem canvas_any (w : World) : Calls Try.prog 51 #[] w fun en w' => en = .returned (rv (-65536) (-65536) 65536 65536) ∧ Below w.heap.size w w' := by
  go_enter Try.func51, Try.ntmps51
  go_wp2
  exact bodyPost_ret (v := rv (-65536) (-65536) 65536 65536) (by simp [results, Try.results51, go_sem, *]) rfl ⟨rfl, below1⟩
/-- a source or an error -/
structure Pos where
  (x y e : Int)
abbrev Pos.v (g : Pos) : Value := .tuple #[tv g.x g.y, .int .i64 g.e]
abbrev Pos.r (g : Pos) : Value := .agg #[.int .i64 g.x, .int .i64 g.y, .int .i64 g.e]
structure Box where
  (x0 y0 x1 y1 e : Int)
abbrev Box.v (g : Box) : Value := .tuple #[rv g.x0 g.y0 g.x1 g.y1, .int .i64 g.e]
abbrev Box.r (g : Box) : Value := .agg #[.int .i64 g.x0, .int .i64 g.y0, .int .i64 g.x1, .int .i64 g.y1, .int .i64 g.e]
def inC (x y : Int) : Bool := has (-65536) (-65536) 65536 65536 x y
theorem inC_cb {x y : Int} (h : inC x y = true) : Cb x ∧ Cb y := by
  have := (has_iff _ _ _ _ _ _).1 h
  unfold Cb; omega
def srcT (a : Af) (x y : Int) : Pos := if (okA a && inC x y) = true then ⟨sx a x y, sy a x y, 0⟩ else ⟨0, 0, 1⟩
def chkE (a : Af) (r0 r1 r2 r3 : Int) : Int := if okA a && (emp r0 r1 r2 r3 || vld r0 r1 r2 r3) then 0 else 1
set_option maxHeartbeats 2000000 in
theorem check_any (p0 p1 p2 p3 p4 p5 p6 r0 r1 r2 r3 : Int) (w : World) : Calls Try.prog 53 #[av p0 p1 p2 p3 p4 p5 p6, rv r0 r1 r2 r3] w fun en w' => en = .returned (.int .i64 (chkE ⟨p0, p1, p2, p3, p4, p5, p6⟩ r0 r1 r2 r3)) ∧ Below w.heap.size w w' := by
  have HV : Hid (∀ W, Calls Try.prog 16 #[av p0 p1 p2 p3 p4 p5 p6] W fun en w' => en = .returned ((.bool (okA ⟨p0, p1, p2, p3, p4, p5, p6⟩))) ∧ Below W.heap.size W w') := fun W => valid_any p0 p1 p2 p3 p4 p5 p6 W
  have HE : Hid (∀ W, Calls Try.prog 54 #[rv r0 r1 r2 r3] W fun en w' => en = .returned ((.bool (emp r0 r1 r2 r3))) ∧ Below W.heap.size W w') := fun W => empty_any r0 r1 r2 r3 W
  have HW : Hid (∀ W, Calls Try.prog 73 #[rv r0 r1 r2 r3] W fun en w' => en = .returned ((.bool (vld r0 r1 r2 r3))) ∧ Below W.heap.size W w') := fun W => Go.Proofs.Ytgipfcpkphmbpaa.valid_any r0 r1 r2 r3 W
  unfold chkE
  generalize okA ⟨p0, p1, p2, p3, p4, p5, p6⟩ = s1 at HV ⊢
  generalize emp r0 r1 r2 r3 = s2 at HE ⊢
  generalize vld r0 r1 r2 r3 = s3 at HW ⊢
  cases s1 <;> cases s2 <;> cases s3
  all_goals
    go_enter Try.func53, Try.ntmps53
    go_upto_region 1 with fail
    have hs := ((St.start w).alloc (ao p0 p1 p2 p3 p4 p5 p6)).alloc (ro r0 r1 r2 r3)
    rw [World.size_alloc] at hs
    generalize hb0 : w.heap.size = b0 at hs ⊢
    generalize (w.alloc (ao p0 p1 p2 p3 p4 p5 p6)).alloc (ro r0 r1 r2 r3) = w1 at hs ⊢
    obtain ⟨_, _, _, _, _, _, _⟩ := St.aff hs (b := b0) (a := p0) (b' := p1) (c := p2) (d := p3) (e := p4) (f := p5) (n := p6) (by simp)
    go_wp2_with (first | (go_at_call 16; (with_reducible refine (St.call hs (HV.out _)).mono ?_); rintro en w2 ⟨rfl, h2⟩; obtain ⟨_, _, _, _⟩ := St.rect h2 (b := b0 + 1) (x0 := r0) (x1 := r1) (x2 := r2) (x3 := r3) (by simp)) | (go_at_call 54; (with_reducible refine (St.call h2 (HE.out _)).mono ?_); rintro en w3 ⟨rfl, h3⟩; obtain ⟨_, _, _, _⟩ := St.rect h3 (b := b0 + 1) (x0 := r0) (x1 := r1) (x2 := r2) (x3 := r3) (by simp)) | (go_at_call 73; (with_reducible refine (St.call h3 (HW.out _)).mono ?_); rintro en w4 ⟨rfl, h4⟩))
    go_ret
    subst hb0
    exact ⟨rfl, by first | exact h4.below | exact h3.below | exact h2.below⟩
theorem corners_any (r0 r1 r2 r3 : Int) (w : World) : Calls Try.prog 56 #[rv r0 r1 r2 r3] w fun en w' => en = .returned (.agg #[.int .i64 r0, .int .i64 r1, .int .i64 r2, .int .i64 r1, .int .i64 r0, .int .i64 r3, .int .i64 r2, .int .i64 r3]) ∧ Below w.heap.size w w' := by
  go_enter Try.func56, Try.ntmps56
  go_wp2
  exact bodyPost_ret (v := .agg #[.int .i64 r0, .int .i64 r1, .int .i64 r2, .int .i64 r1, .int .i64 r0, .int .i64 r3, .int .i64 r2, .int .i64 r3]) (by simp [results, Try.results56, go_sem, *]) rfl ⟨rfl, below2⟩
def fCe (n den : Int) : Int := -(fl (den - 2 * n) (2 * den))
def lCe (n den : Int) : Int := fl (2 * n - den) (2 * den)
theorem firstC_any (n den : Int) (w : World) (hd : 1 ≤ den ∧ den ≤ 4096) (hn : -10000000000 ≤ n ∧ n ≤ 10000000000) : Calls Try.prog 59 #[.int .i64 n, .int .i64 den] w fun en w' => en = .returned (.int .i64 (fCe n den)) ∧ w = w' := by
  have e1 : wrap64 (2 * n) = 2 * n := w64 ⟨by omega, by omega⟩
  have e2 : wrap64 (den - 2 * n) = den - 2 * n := w64 ⟨by omega, by omega⟩
  have e3 : wrap64 (2 * den) = 2 * den := w64 ⟨by omega, by omega⟩
  have hf := flo_fl (n := den - 2 * n) (d := 2 * den) (by omega) ⟨by omega, by omega⟩
  have HF : Hid (∀ W, Calls Try.prog 72 #[.int .i64 (den - 2 * n), .int .i64 (2 * den)] W fun en w' => en = .returned (.int .i64 (fl (den - 2 * n) (2 * den))) ∧ W = w') := fun W => by
    have := floorA_any (den - 2 * n) (2 * den) W (by omega); rw [hf.1] at this; exact this
  have e4 : wrap64 (-(fl (den - 2 * n) (2 * den))) = -(fl (den - 2 * n) (2 * den)) := w64 ⟨by omega, by omega⟩
  unfold fCe
  clear hf hd hn
  generalize fl (den - 2 * n) (2 * den) = q at HF e4 ⊢
  go_enter Try.func59, Try.ntmps59
  go_wp2_with (go_at_call 72; (with_reducible refine (HF.out _).mono ?_); rintro en w2 ⟨rfl, rfl⟩)
  go_ret
  exact ⟨ret_int e4, rfl⟩
theorem lastC_any (n den : Int) (w : World) (hd : 1 ≤ den ∧ den ≤ 4096) (hn : -10000000000 ≤ n ∧ n ≤ 10000000000) : Calls Try.prog 60 #[.int .i64 n, .int .i64 den] w fun en w' => en = .returned (.int .i64 (lCe n den)) ∧ w = w' := by
  have e1 : wrap64 (2 * n) = 2 * n := w64 ⟨by omega, by omega⟩
  have e2 : wrap64 (2 * n - den) = 2 * n - den := w64 ⟨by omega, by omega⟩
  have e3 : wrap64 (2 * den) = 2 * den := w64 ⟨by omega, by omega⟩
  have hf := flo_fl (n := 2 * n - den) (d := 2 * den) (by omega) ⟨by omega, by omega⟩
  have HF : Hid (∀ W, Calls Try.prog 72 #[.int .i64 (2 * n - den), .int .i64 (2 * den)] W fun en w' => en = .returned (.int .i64 (fl (2 * n - den) (2 * den))) ∧ W = w') := fun W => by
    have := floorA_any (2 * n - den) (2 * den) W (by omega); rw [hf.1] at this; exact this
  unfold lCe
  clear hf hd hn
  generalize fl (2 * n - den) (2 * den) = q at HF ⊢
  go_enter Try.func60, Try.ntmps60
  go_wp2_with (go_at_call 72; (with_reducible refine (HF.out _).mono ?_); rintro en w2 ⟨rfl, rfl⟩)
  go_ret
  exact ⟨rfl, rfl⟩
set_option maxHeartbeats 4000000 in
theorem sourceT_any (p0 p1 p2 p3 p4 p5 p6 x y : Int) (w : World) : Calls Try.prog 30 #[av p0 p1 p2 p3 p4 p5 p6, tv x y] w fun en w' => en = .returned (srcT ⟨p0, p1, p2, p3, p4, p5, p6⟩ x y).v ∧ Below w.heap.size w w' := by
  have HV : Hid (∀ W, Calls Try.prog 16 #[av p0 p1 p2 p3 p4 p5 p6] W fun en w' => en = .returned ((.bool (okA ⟨p0, p1, p2, p3, p4, p5, p6⟩))) ∧ Below W.heap.size W w') := fun W => valid_any p0 p1 p2 p3 p4 p5 p6 W
  have HI : Hid (∀ W, Calls Try.prog 37 #[rv (-65536) (-65536) 65536 65536, tv x y] W fun en w' => en = .returned ((.bool (inC x y))) ∧ Below W.heap.size W w') := fun W => has_any (-65536) (-65536) 65536 65536 x y W
  have HS : Hid ((okA ⟨p0, p1, p2, p3, p4, p5, p6⟩ && inC x y) = true → ∀ W, Calls Try.prog 52 #[av p0 p1 p2 p3 p4 p5 p6, tv x y] W fun en w' => en = .returned (tv (sx ⟨p0, p1, p2, p3, p4, p5, p6⟩ x y) (sy ⟨p0, p1, p2, p3, p4, p5, p6⟩ x y)) ∧ Below W.heap.size W w') := fun h W => by
    rw [Bool.and_eq_true] at h
    have hc := inC_cb h.2
    exact source_any p0 p1 p2 p3 p4 p5 p6 x y W ((okA_iff _).1 h.1) hc.1 hc.2
  unfold srcT
  generalize sx ⟨p0, p1, p2, p3, p4, p5, p6⟩ x y = rx at HS ⊢
  generalize sy ⟨p0, p1, p2, p3, p4, p5, p6⟩ x y = ry at HS ⊢
  generalize okA ⟨p0, p1, p2, p3, p4, p5, p6⟩ = s1 at HV HS ⊢
  generalize inC x y = s2 at HI HS ⊢
  cases s1
  · go_enter Try.func30, Try.ntmps30
    go_upto_region 1 with fail
    have hs := (((St.start w).alloc (ao p0 p1 p2 p3 p4 p5 p6)).alloc (pob x y)).alloc (pob 0 0)
    simp only [World.size_alloc] at hs
    generalize hb0 : w.heap.size = b0 at hs ⊢
    generalize ((w.alloc (ao p0 p1 p2 p3 p4 p5 p6)).alloc (pob x y)).alloc (pob 0 0) = w1 at hs ⊢
    have HP : Hid (∀ V, St w [(b0 + 1 + 1, pob 0 0), (b0 + 1, pob x y), (b0, ao p0 p1 p2 p3 p4 p5 p6)] V → St w [(b0 + 1 + 1, pob 0 0), (b0 + 1, pob x y), (b0, ao p0 p1 p2 p3 p4 p5 p6)] V ∧ AB V b0 p0 p1 p2 p3 p4 p5 p6 ∧ TB V (b0 + 1) x y) := fun V hV => ⟨hV, St.aff hV (by simp), St.pt hV (by simp)⟩
    refine wp_region_held_drew (S := fun V9 => St w [(b0 + 1 + 1, pob 0 0), (b0 + 1, pob x y), (b0, ao p0 p1 p2 p3 p4 p5 p6)] V9 ∧ AB V9 b0 p0 p1 p2 p3 p4 p5 p6 ∧ TB V9 (b0 + 1) x y) (by kernel_rfl) ?_ (fun hHeld => ?_)
    · exact HP.out _ (hs.drew)
    have hs0 := hs.drew
    refine wpAnyH_take (i := 0) (oi := { dst := some 6, op := Op.load 23 (Operand.tmp 2), type := 23, pos := "sample.go:15", after := #[], guard := none }) (v := ?_) rfl (by kernel_rfl) (by kernel_rfl) (by kernel_rfl) (fun _ _ _ h => h) (Or.inl ⟨by kernel_rfl, ?_⟩) (by assumption) ?_
    rotate_left 1
    focus (intro w hSw; (try dsimp only at hSw); go_simp; (try with_reducible rfl))
    try simp only [Act.put, List.setIfInBounds_toArray, List.set_cons_zero, List.set_cons_succ]
    refine wpAnyH_ready (rs := [1]) (by kernel_rfl) (by simp) (AllReadyH.cons (o := { dst := some 7, op := Op.call { callee := Callee.value (Operand.func 16), args := #[Operand.tmp 6], argTypes := #[23] }, type := 4, pos := "sample.go:15", after := #[{ on := 0, ground := Ground.data }], guard := none }) rfl (fun K hK => ?_) AllReadyH.nil)
    (go_simp; (go_at_call 16; (refine (St.call hs0 (HV.out _)).mono ?_); rintro e V1r1 ⟨rfl, hs1r1⟩))
    refine hK.out _ _ ?_ (fun hHeld => ?_)
    · exact HP.out _ (hs1r1)
    clear hK K
    try simp only [Act.put, List.setIfInBounds_toArray, List.set_cons_zero, List.set_cons_succ]
    refine wpAnyH_take (i := 2) (oi := { dst := some 8, op := Op.unOp UnOp.not 4 (Operand.tmp 7), type := 4, pos := "sample.go:15", after := #[{ on := 1, ground := Ground.data }], guard := none }) (v := ?_) rfl (by kernel_rfl) (by kernel_rfl) (by kernel_rfl) (fun _ _ _ h => h) (Or.inl ⟨by kernel_rfl, ?_⟩) (by assumption) ?_
    rotate_left 1
    focus (intro w hSw; (try dsimp only at hSw); go_simp; (try with_reducible rfl))
    try simp only [Act.put, List.setIfInBounds_toArray, List.set_cons_zero, List.set_cons_succ]
    refine wpAnyH_take (i := 3) (oi := { dst := some 9, op := Op.move (Operand.tmp 8), type := 4, pos := "sample.go:15", after := #[{ on := 2, ground := Ground.data }, { on := 1, ground := Ground.chain }], guard := none }) (v := ?_) rfl (by kernel_rfl) (by kernel_rfl) (by kernel_rfl) (fun _ _ _ h => h) (Or.inl ⟨by kernel_rfl, ?_⟩) (by assumption) ?_
    rotate_left 1
    focus (intro w hSw; (try dsimp only at hSw); go_simp; (try with_reducible rfl))
    try simp only [Act.put, List.setIfInBounds_toArray, List.set_cons_zero, List.set_cons_succ]
    refine wpAnyH_take (i := 4) (oi := { dst := some 10, op := Op.call { callee := Callee.value (Operand.func 51), args := #[], argTypes := #[] }, type := 51, pos := "sample.go:15", after := #[{ on := 3, ground := Ground.chain }, { on := 3, ground := Ground.guard }], guard := some (3, false) }) rfl (by kernel_rfl) (by kernel_rfl) (by kernel_rfl) (fun _ _ _ h => h) (Or.inr ⟨by kernel_rfl, rfl⟩) (by assumption) ?_
    try simp only [Act.put, List.setIfInBounds_toArray, List.set_cons_zero, List.set_cons_succ]
    refine wpAnyH_take (i := 5) (oi := { dst := some 11, op := Op.load 49 (Operand.tmp 3), type := 49, pos := "sample.go:15", after := #[{ on := 3, ground := Ground.guard }], guard := some (3, false) }) rfl (by kernel_rfl) (by kernel_rfl) (by kernel_rfl) (fun _ _ _ h => h) (Or.inr ⟨by kernel_rfl, rfl⟩) (by assumption) ?_
    try simp only [Act.put, List.setIfInBounds_toArray, List.set_cons_zero, List.set_cons_succ]
    refine wpAnyH_take (i := 6) (oi := { dst := some 12, op := Op.call { callee := Callee.value (Operand.func 37), args := #[Operand.tmp 10, Operand.tmp 11], argTypes := #[51, 49] }, type := 4, pos := "sample.go:15", after := #[{ on := 4, ground := Ground.data }, { on := 5, ground := Ground.data }, { on := 4, ground := Ground.chain }, { on := 3, ground := Ground.guard }], guard := some (3, false) }) rfl (by kernel_rfl) (by kernel_rfl) (by kernel_rfl) (fun _ _ _ h => h) (Or.inr ⟨by kernel_rfl, rfl⟩) (by assumption) ?_
    try simp only [Act.put, List.setIfInBounds_toArray, List.set_cons_zero, List.set_cons_succ]
    refine wpAnyH_take (i := 7) (oi := { dst := some 13, op := Op.unOp UnOp.not 4 (Operand.tmp 12), type := 4, pos := "sample.go:15", after := #[{ on := 6, ground := Ground.data }, { on := 3, ground := Ground.guard }], guard := some (3, false) }) rfl (by kernel_rfl) (by kernel_rfl) (by kernel_rfl) (fun _ _ _ h => h) (Or.inr ⟨by kernel_rfl, rfl⟩) (by assumption) ?_
    try simp only [Act.put, List.setIfInBounds_toArray, List.set_cons_zero, List.set_cons_succ]
    refine wpAnyH_take (i := 8) (oi := { dst := some 14, op := Op.pick (Operand.tmp 9) (Operand.const (Value.bool true)) (Operand.tmp 13), type := 4, pos := "sample.go:15", after := #[{ on := 3, ground := Ground.data }, { on := 7, ground := Ground.data }], guard := none }) (v := ?_) rfl (by kernel_rfl) (by kernel_rfl) (by kernel_rfl) (fun _ _ _ h => h) (Or.inl ⟨by kernel_rfl, ?_⟩) (by assumption) ?_
    rotate_left 1
    focus (intro w hSw; (try dsimp only at hSw); go_simp; (try with_reducible rfl))
    try simp only [Act.put, List.setIfInBounds_toArray, List.set_cons_zero, List.set_cons_succ]
    refine wpAnyH_done (by kernel_rfl) ?_ _
    have h9 := hs1r1
    obtain ⟨_, _⟩ := St.pt h9 (b := b0 + 1 + 1) (x := 0) (y := 0) (by simp)
    have : ∀ j, _ = false := h9.frozen (b := b0 + 1 + 1) (cs := #[.int .i64 0, .int .i64 0]) (t := 49) (by simp)
    go_wp2
    subst hb0; exact bodyPost_ret (v := .tuple #[tv 0 0, .int .i64 1]) (by simp [results, Try.results30, go_sem, *]) rfl ⟨rfl, below_set2 h9.below (by omega) _ _⟩
  cases s2
  · go_enter Try.func30, Try.ntmps30
    go_upto_region 1 with fail
    have hs := (((St.start w).alloc (ao p0 p1 p2 p3 p4 p5 p6)).alloc (pob x y)).alloc (pob 0 0)
    simp only [World.size_alloc] at hs
    generalize hb0 : w.heap.size = b0 at hs ⊢
    generalize ((w.alloc (ao p0 p1 p2 p3 p4 p5 p6)).alloc (pob x y)).alloc (pob 0 0) = w1 at hs ⊢
    have HP : Hid (∀ V, St w [(b0 + 1 + 1, pob 0 0), (b0 + 1, pob x y), (b0, ao p0 p1 p2 p3 p4 p5 p6)] V → St w [(b0 + 1 + 1, pob 0 0), (b0 + 1, pob x y), (b0, ao p0 p1 p2 p3 p4 p5 p6)] V ∧ AB V b0 p0 p1 p2 p3 p4 p5 p6 ∧ TB V (b0 + 1) x y) := fun V hV => ⟨hV, St.aff hV (by simp), St.pt hV (by simp)⟩
    refine wp_region_held_drew (S := fun V9 => St w [(b0 + 1 + 1, pob 0 0), (b0 + 1, pob x y), (b0, ao p0 p1 p2 p3 p4 p5 p6)] V9 ∧ AB V9 b0 p0 p1 p2 p3 p4 p5 p6 ∧ TB V9 (b0 + 1) x y) (by kernel_rfl) ?_ (fun hHeld => ?_)
    · exact HP.out _ (hs.drew)
    have hs0 := hs.drew
    refine wpAnyH_take (i := 0) (oi := { dst := some 6, op := Op.load 23 (Operand.tmp 2), type := 23, pos := "sample.go:15", after := #[], guard := none }) (v := ?_) rfl (by kernel_rfl) (by kernel_rfl) (by kernel_rfl) (fun _ _ _ h => h) (Or.inl ⟨by kernel_rfl, ?_⟩) (by assumption) ?_
    rotate_left 1
    focus (intro w hSw; (try dsimp only at hSw); go_simp; (try with_reducible rfl))
    try simp only [Act.put, List.setIfInBounds_toArray, List.set_cons_zero, List.set_cons_succ]
    refine wpAnyH_ready (rs := [1]) (by kernel_rfl) (by simp) (AllReadyH.cons (o := { dst := some 7, op := Op.call { callee := Callee.value (Operand.func 16), args := #[Operand.tmp 6], argTypes := #[23] }, type := 4, pos := "sample.go:15", after := #[{ on := 0, ground := Ground.data }], guard := none }) rfl (fun K hK => ?_) AllReadyH.nil)
    (go_simp; (go_at_call 16; (refine (St.call hs0 (HV.out _)).mono ?_); rintro e V1r1 ⟨rfl, hs1r1⟩))
    refine hK.out _ _ ?_ (fun hHeld => ?_)
    · exact HP.out _ (hs1r1)
    clear hK K
    try simp only [Act.put, List.setIfInBounds_toArray, List.set_cons_zero, List.set_cons_succ]
    refine wpAnyH_take (i := 2) (oi := { dst := some 8, op := Op.unOp UnOp.not 4 (Operand.tmp 7), type := 4, pos := "sample.go:15", after := #[{ on := 1, ground := Ground.data }], guard := none }) (v := ?_) rfl (by kernel_rfl) (by kernel_rfl) (by kernel_rfl) (fun _ _ _ h => h) (Or.inl ⟨by kernel_rfl, ?_⟩) (by assumption) ?_
    rotate_left 1
    focus (intro w hSw; (try dsimp only at hSw); go_simp; (try with_reducible rfl))
    try simp only [Act.put, List.setIfInBounds_toArray, List.set_cons_zero, List.set_cons_succ]
    refine wpAnyH_take (i := 3) (oi := { dst := some 9, op := Op.move (Operand.tmp 8), type := 4, pos := "sample.go:15", after := #[{ on := 2, ground := Ground.data }, { on := 1, ground := Ground.chain }], guard := none }) (v := ?_) rfl (by kernel_rfl) (by kernel_rfl) (by kernel_rfl) (fun _ _ _ h => h) (Or.inl ⟨by kernel_rfl, ?_⟩) (by assumption) ?_
    rotate_left 1
    focus (intro w hSw; (try dsimp only at hSw); go_simp; (try with_reducible rfl))
    try simp only [Act.put, List.setIfInBounds_toArray, List.set_cons_zero, List.set_cons_succ]
    refine wpAnyH_take (i := 5) (oi := { dst := some 11, op := Op.load 49 (Operand.tmp 3), type := 49, pos := "sample.go:15", after := #[{ on := 3, ground := Ground.guard }], guard := some (3, false) }) (v := ?_) rfl (by kernel_rfl) (by kernel_rfl) (by kernel_rfl) (fun _ _ _ h => h) (Or.inl ⟨by kernel_rfl, ?_⟩) (by assumption) ?_
    rotate_left 1
    focus (intro w hSw; (try dsimp only at hSw); go_simp; (try with_reducible rfl))
    try simp only [Act.put, List.setIfInBounds_toArray, List.set_cons_zero, List.set_cons_succ]
    refine wpAnyH_ready (rs := [4]) (by kernel_rfl) (by simp) (AllReadyH.cons (o := { dst := some 10, op := Op.call { callee := Callee.value (Operand.func 51), args := #[], argTypes := #[] }, type := 51, pos := "sample.go:15", after := #[{ on := 3, ground := Ground.chain }, { on := 3, ground := Ground.guard }], guard := some (3, false) }) rfl (fun K hK => ?_) AllReadyH.nil)
    (go_simp; (go_at_call 51; (refine (St.call hs1r1 (canvas_any _)).mono ?_); rintro e V2r1 ⟨rfl, hs2r1⟩))
    refine hK.out _ _ ?_ (fun hHeld => ?_)
    · exact HP.out _ (hs2r1)
    clear hK K
    try simp only [Act.put, List.setIfInBounds_toArray, List.set_cons_zero, List.set_cons_succ]
    refine wpAnyH_ready (rs := [6]) (by kernel_rfl) (by simp) (AllReadyH.cons (o := { dst := some 12, op := Op.call { callee := Callee.value (Operand.func 37), args := #[Operand.tmp 10, Operand.tmp 11], argTypes := #[51, 49] }, type := 4, pos := "sample.go:15", after := #[{ on := 4, ground := Ground.data }, { on := 5, ground := Ground.data }, { on := 4, ground := Ground.chain }, { on := 3, ground := Ground.guard }], guard := some (3, false) }) rfl (fun K hK => ?_) AllReadyH.nil)
    (go_simp; (go_at_call 37; (refine (St.call hs2r1 (HI.out _)).mono ?_); rintro e V3r1 ⟨rfl, hs3r1⟩))
    refine hK.out _ _ ?_ (fun hHeld => ?_)
    · exact HP.out _ (hs3r1)
    clear hK K
    try simp only [Act.put, List.setIfInBounds_toArray, List.set_cons_zero, List.set_cons_succ]
    refine wpAnyH_take (i := 7) (oi := { dst := some 13, op := Op.unOp UnOp.not 4 (Operand.tmp 12), type := 4, pos := "sample.go:15", after := #[{ on := 6, ground := Ground.data }, { on := 3, ground := Ground.guard }], guard := some (3, false) }) (v := ?_) rfl (by kernel_rfl) (by kernel_rfl) (by kernel_rfl) (fun _ _ _ h => h) (Or.inl ⟨by kernel_rfl, ?_⟩) (by assumption) ?_
    rotate_left 1
    focus (intro w hSw; (try dsimp only at hSw); go_simp; (try with_reducible rfl))
    try simp only [Act.put, List.setIfInBounds_toArray, List.set_cons_zero, List.set_cons_succ]
    refine wpAnyH_take (i := 8) (oi := { dst := some 14, op := Op.pick (Operand.tmp 9) (Operand.const (Value.bool true)) (Operand.tmp 13), type := 4, pos := "sample.go:15", after := #[{ on := 3, ground := Ground.data }, { on := 7, ground := Ground.data }], guard := none }) (v := ?_) rfl (by kernel_rfl) (by kernel_rfl) (by kernel_rfl) (fun _ _ _ h => h) (Or.inl ⟨by kernel_rfl, ?_⟩) (by assumption) ?_
    rotate_left 1
    focus (intro w hSw; (try dsimp only at hSw); go_simp; (try with_reducible rfl))
    try simp only [Act.put, List.setIfInBounds_toArray, List.set_cons_zero, List.set_cons_succ]
    refine wpAnyH_done (by kernel_rfl) ?_ _
    have h9 := hs3r1
    obtain ⟨_, _⟩ := St.pt h9 (b := b0 + 1 + 1) (x := 0) (y := 0) (by simp)
    have : ∀ j, _ = false := h9.frozen (b := b0 + 1 + 1) (cs := #[.int .i64 0, .int .i64 0]) (t := 49) (by simp)
    go_wp2
    subst hb0; exact bodyPost_ret (v := .tuple #[tv 0 0, .int .i64 1]) (by simp [results, Try.results30, go_sem, *]) rfl ⟨rfl, below_set2 h9.below (by omega) _ _⟩
  have HS2 := Lib.hid (HS.out rfl)
  clear HS
  go_enter Try.func30, Try.ntmps30
  go_upto_region 1 with fail
  have hs := (((St.start w).alloc (ao p0 p1 p2 p3 p4 p5 p6)).alloc (pob x y)).alloc (pob 0 0)
  simp only [World.size_alloc] at hs
  generalize hb0 : w.heap.size = b0 at hs ⊢
  generalize ((w.alloc (ao p0 p1 p2 p3 p4 p5 p6)).alloc (pob x y)).alloc (pob 0 0) = w1 at hs ⊢
  have HP : Hid (∀ V, St w [(b0 + 1 + 1, pob 0 0), (b0 + 1, pob x y), (b0, ao p0 p1 p2 p3 p4 p5 p6)] V → St w [(b0 + 1 + 1, pob 0 0), (b0 + 1, pob x y), (b0, ao p0 p1 p2 p3 p4 p5 p6)] V ∧ AB V b0 p0 p1 p2 p3 p4 p5 p6 ∧ TB V (b0 + 1) x y) := fun V hV => ⟨hV, St.aff hV (by simp), St.pt hV (by simp)⟩
  refine wp_region_held_drew (S := fun V9 => St w [(b0 + 1 + 1, pob 0 0), (b0 + 1, pob x y), (b0, ao p0 p1 p2 p3 p4 p5 p6)] V9 ∧ AB V9 b0 p0 p1 p2 p3 p4 p5 p6 ∧ TB V9 (b0 + 1) x y) (by kernel_rfl) ?_ (fun hHeld => ?_)
  · exact HP.out _ (hs.drew)
  have hs0 := hs.drew
  refine wpAnyH_take (i := 0) (oi := { dst := some 6, op := Op.load 23 (Operand.tmp 2), type := 23, pos := "sample.go:15", after := #[], guard := none }) (v := ?_) rfl (by kernel_rfl) (by kernel_rfl) (by kernel_rfl) (fun _ _ _ h => h) (Or.inl ⟨by kernel_rfl, ?_⟩) (by assumption) ?_
  rotate_left 1
  focus (intro w hSw; (try dsimp only at hSw); go_simp; (try with_reducible rfl))
  try simp only [Act.put, List.setIfInBounds_toArray, List.set_cons_zero, List.set_cons_succ]
  refine wpAnyH_ready (rs := [1]) (by kernel_rfl) (by simp) (AllReadyH.cons (o := { dst := some 7, op := Op.call { callee := Callee.value (Operand.func 16), args := #[Operand.tmp 6], argTypes := #[23] }, type := 4, pos := "sample.go:15", after := #[{ on := 0, ground := Ground.data }], guard := none }) rfl (fun K hK => ?_) AllReadyH.nil)
  (go_simp; (go_at_call 16; (refine (St.call hs0 (HV.out _)).mono ?_); rintro e V1r1 ⟨rfl, hs1r1⟩))
  refine hK.out _ _ ?_ (fun hHeld => ?_)
  · exact HP.out _ (hs1r1)
  clear hK K
  try simp only [Act.put, List.setIfInBounds_toArray, List.set_cons_zero, List.set_cons_succ]
  refine wpAnyH_take (i := 2) (oi := { dst := some 8, op := Op.unOp UnOp.not 4 (Operand.tmp 7), type := 4, pos := "sample.go:15", after := #[{ on := 1, ground := Ground.data }], guard := none }) (v := ?_) rfl (by kernel_rfl) (by kernel_rfl) (by kernel_rfl) (fun _ _ _ h => h) (Or.inl ⟨by kernel_rfl, ?_⟩) (by assumption) ?_
  rotate_left 1
  focus (intro w hSw; (try dsimp only at hSw); go_simp; (try with_reducible rfl))
  try simp only [Act.put, List.setIfInBounds_toArray, List.set_cons_zero, List.set_cons_succ]
  refine wpAnyH_take (i := 3) (oi := { dst := some 9, op := Op.move (Operand.tmp 8), type := 4, pos := "sample.go:15", after := #[{ on := 2, ground := Ground.data }, { on := 1, ground := Ground.chain }], guard := none }) (v := ?_) rfl (by kernel_rfl) (by kernel_rfl) (by kernel_rfl) (fun _ _ _ h => h) (Or.inl ⟨by kernel_rfl, ?_⟩) (by assumption) ?_
  rotate_left 1
  focus (intro w hSw; (try dsimp only at hSw); go_simp; (try with_reducible rfl))
  try simp only [Act.put, List.setIfInBounds_toArray, List.set_cons_zero, List.set_cons_succ]
  refine wpAnyH_take (i := 5) (oi := { dst := some 11, op := Op.load 49 (Operand.tmp 3), type := 49, pos := "sample.go:15", after := #[{ on := 3, ground := Ground.guard }], guard := some (3, false) }) (v := ?_) rfl (by kernel_rfl) (by kernel_rfl) (by kernel_rfl) (fun _ _ _ h => h) (Or.inl ⟨by kernel_rfl, ?_⟩) (by assumption) ?_
  rotate_left 1
  focus (intro w hSw; (try dsimp only at hSw); go_simp; (try with_reducible rfl))
  try simp only [Act.put, List.setIfInBounds_toArray, List.set_cons_zero, List.set_cons_succ]
  refine wpAnyH_ready (rs := [4]) (by kernel_rfl) (by simp) (AllReadyH.cons (o := { dst := some 10, op := Op.call { callee := Callee.value (Operand.func 51), args := #[], argTypes := #[] }, type := 51, pos := "sample.go:15", after := #[{ on := 3, ground := Ground.chain }, { on := 3, ground := Ground.guard }], guard := some (3, false) }) rfl (fun K hK => ?_) AllReadyH.nil)
  (go_simp; (go_at_call 51; (refine (St.call hs1r1 (canvas_any _)).mono ?_); rintro e V2r1 ⟨rfl, hs2r1⟩))
  refine hK.out _ _ ?_ (fun hHeld => ?_)
  · exact HP.out _ (hs2r1)
  clear hK K
  try simp only [Act.put, List.setIfInBounds_toArray, List.set_cons_zero, List.set_cons_succ]
  refine wpAnyH_ready (rs := [6]) (by kernel_rfl) (by simp) (AllReadyH.cons (o := { dst := some 12, op := Op.call { callee := Callee.value (Operand.func 37), args := #[Operand.tmp 10, Operand.tmp 11], argTypes := #[51, 49] }, type := 4, pos := "sample.go:15", after := #[{ on := 4, ground := Ground.data }, { on := 5, ground := Ground.data }, { on := 4, ground := Ground.chain }, { on := 3, ground := Ground.guard }], guard := some (3, false) }) rfl (fun K hK => ?_) AllReadyH.nil)
  (go_simp; (go_at_call 37; (refine (St.call hs2r1 (HI.out _)).mono ?_); rintro e V3r1 ⟨rfl, hs3r1⟩))
  refine hK.out _ _ ?_ (fun hHeld => ?_)
  · exact HP.out _ (hs3r1)
  clear hK K
  try simp only [Act.put, List.setIfInBounds_toArray, List.set_cons_zero, List.set_cons_succ]
  refine wpAnyH_take (i := 7) (oi := { dst := some 13, op := Op.unOp UnOp.not 4 (Operand.tmp 12), type := 4, pos := "sample.go:15", after := #[{ on := 6, ground := Ground.data }, { on := 3, ground := Ground.guard }], guard := some (3, false) }) (v := ?_) rfl (by kernel_rfl) (by kernel_rfl) (by kernel_rfl) (fun _ _ _ h => h) (Or.inl ⟨by kernel_rfl, ?_⟩) (by assumption) ?_
  rotate_left 1
  focus (intro w hSw; (try dsimp only at hSw); go_simp; (try with_reducible rfl))
  try simp only [Act.put, List.setIfInBounds_toArray, List.set_cons_zero, List.set_cons_succ]
  refine wpAnyH_take (i := 8) (oi := { dst := some 14, op := Op.pick (Operand.tmp 9) (Operand.const (Value.bool true)) (Operand.tmp 13), type := 4, pos := "sample.go:15", after := #[{ on := 3, ground := Ground.data }, { on := 7, ground := Ground.data }], guard := none }) (v := ?_) rfl (by kernel_rfl) (by kernel_rfl) (by kernel_rfl) (fun _ _ _ h => h) (Or.inl ⟨by kernel_rfl, ?_⟩) (by assumption) ?_
  rotate_left 1
  focus (intro w hSw; (try dsimp only at hSw); go_simp; (try with_reducible rfl))
  try simp only [Act.put, List.setIfInBounds_toArray, List.set_cons_zero, List.set_cons_succ]
  refine wpAnyH_done (by kernel_rfl) ?_ _
  have h9 := hs3r1
  obtain ⟨_, _, _, _, _, _, _⟩ := St.aff h9 (b := b0) (a := p0) (b' := p1) (c := p2) (d := p3) (e := p4) (f := p5) (n := p6) (by simp)
  obtain ⟨_, _⟩ := St.pt h9 (b := b0 + 1) (x := x) (y := y) (by simp)
  go_wp2_with (first | (go_at_call 52; (with_reducible refine (St.call h9 (HS2.out _)).mono ?_); rintro en w8 ⟨rfl, h8⟩; obtain ⟨_, _⟩ := St.pt h8 (b := b0 + 1 + 1) (x := 0) (y := 0) (by simp); have : ∀ j, _ = false := h8.frozen (b := b0 + 1 + 1) (cs := #[.int .i64 0, .int .i64 0]) (t := 49) (by simp)))
  subst hb0; exact bodyPost_ret (v := .tuple #[tv rx ry, .int .i64 0]) (by simp [results, Try.results30, go_sem, *]) rfl ⟨rfl, below_set2 h8.below (by omega) _ _⟩
end Go.Proofs.Ytgipfcpkphmbpaa.F
