/-
  Halve of tile (contract).
-/
import Derived.Test.YtligojllbnahcaaDoorTSq
namespace Go.Proofs.YtligojllbnahcaaDoor.T
open Go.RowKit Go.Shelf
variable {W w w' : World} {L : List (Nat × Obj)}

/-- the four pixels of a square that make the pixel number i -/
def four (G : Nat → Px) (i : Nat) : Nat → Px := fun j => G (num (2 * (i % 8) + j % 2) (2 * (i / 8) + j / 2))
set_option maxRecDepth 100000 in
set_option maxHeartbeats 8000000 in
theorem halve1 (G : Nat → Px) (bf b i : Nat) (V : World) (hi : i < 64) (hG : ∀ k, k < 256 → Pc (G k)) (hf : V.heap[bf]? = some (vo (.func (.func 30) #[] #[ptrB b]) 61)) (h : V.heap[b]? = some (sqo G)) :
    Calls Tryd.prog 31 (#[.int .i64 i, ptv i] ++ #[ptrB bf]) V fun e w' => e = .returned (m4 (four G i)).v ∧ Below V.heap.size V w' := by
  have key : Calls Tryd.prog 31 #[.int .i64 i, ptv i, ptrB bf] V fun e w' => e = .returned (m4 (four G i)).v ∧ Below V.heap.size V w' := by
    have hP : ∀ j, j < 4 → Pc (four G i j) := fun j hj => hG _ (num_lt (by omega) (by omega))
    have hs := ((((St.start V).more h).more hf).alloc (pto i)).alloc (pxo zp)
    rw [World.size_alloc] at hs
    have hlb : b < V.heap.size := (Array.getElem?_eq_some_iff.1 h).1
    have hlf : bf < V.heap.size := (Array.getElem?_eq_some_iff.1 hf).1
    obtain ⟨M, hM⟩ : ∃ M : List (Nat × Obj), M = [(V.heap.size + 1, pxo zp), (bf, vo (.func (.func 30) #[] #[ptrB b]) 61), (b, sqo G)] := ⟨_, rfl⟩
    have HM1 : Hid (∀ V3, St V M V3 → V3.heap[b]? = some (sqo G)) := fun V3 h => h.row (by rw [hM]; simp)
    have HM2 : Hid (∀ V3, St V M V3 → V3.cell? ⟨bf, 0, none⟩ = some (.func (.func 30) #[] #[ptrB b])) := fun V3 h => h.var (t := 61) (by rw [hM]; simp)
    have HM3 : Hid (∀ V3, St V M V3 → V3.heap[V.heap.size + 1]? = some (pxo zp)) := fun V3 h => h.row (by rw [hM]; simp)
    obtain ⟨M', hM'⟩ : ∃ M' : List (Nat × Obj), M' = [(bf, vo (.func (.func 30) #[] #[ptrB b]) 61), (b, sqo G)] := ⟨_, rfl⟩
    have HL : Hid (∀ V3, St V M V3 → St V M' V3) := fun V3 h => h.sub (by rw [hM, hM']; intro x hx; exact List.mem_cons_of_mem _ hx)
    have HT : Hid (∀ V3 j v, St V M' V3 → St V M' (V3.setCell ⟨V.heap.size + 1, j, none⟩ v)) := fun V3 j v h => h.set (by omega) (by rw [hM']; simp; omega)
    have HF : Hid (∀ V3, St V M V3 → RB V3 (V.heap.size + 1) 0 0 0 0 ∧ ∀ j, V3.frozen? ⟨V.heap.size + 1, j, none⟩ = false) := fun V3 h =>
      ⟨h.pix (b := V.heap.size + 1) (x0 := 0) (x1 := 0) (x2 := 0) (x3 := 0) (by rw [hM]; exact List.mem_cons_self ..), h.frozen (cs := (pl zp).toArray) (t := 23) (by rw [hM]; simp)⟩
    have HQ : Hid (∀ V3, St V M' V3 → St V M' V3 ∧ V3.cell? ⟨bf, 0, none⟩ = some (.func (.func 30) #[] #[ptrB b])) := fun V3 h => ⟨h, h.var (t := 61) (by rw [hM']; simp)⟩
    have HA : Hid (∀ V3 o, St V M V3 → St V M (V3.alloc o)) := fun V3 o h => h.later below1
    have hp0 := hs.cell (b := V.heap.size) (cs := #[.int .i64 ((i : Int) % 8), .int .i64 ((i : Int) / 8)]) (t := 47) (by simp) 0
    have hp1 := hs.cell (b := V.heap.size) (cs := #[.int .i64 ((i : Int) % 8), .int .i64 ((i : Int) / 8)]) (t := 47) (by simp) 1
    have hs : St V M ((V.alloc (pto i)).alloc (pxo zp)) := hs.sub (by rw [hM]; intro x hx; simp at hx ⊢; rcases hx with rfl | rfl | rfl <;> simp)
    have HC : Hid (∀ V3 (x y : Int) (j : Nat), St V M V3 → x = 2 * ((i : Int) % 8) + ((j : Int) % 2) → y = 2 * ((i : Int) / 8) + ((j : Int) / 2) → j < 4 →
        Calls Tryd.prog 30 #[.int .i64 x, .int .i64 y, ptrB b] V3 fun e w' => e = .returned (four G i j).v ∧ St V M w') := fun V3 x y j hV hx hy hj =>
      (at1 G (2 * (i % 8) + j % 2) (2 * (i / 8) + j / 2) x y b V3 (by omega) (by omega) (by omega) (by omega) (HM1.out V3 hV)).mono fun _ _ ⟨h1, h2⟩ => ⟨h1, hV.later h2⟩
    have HX : Hid (∀ V3 n, St V M V3 → V3.heap[n]? = some (po4 (four G i)) → Calls Tryd.prog 32 #[.slice (some ⟨n, 0, none⟩) 4 4] V3 fun e w' => e = .returned (m4 (four G i)).v ∧ St V M w') := fun V3 n hV hn => hV.call (mean_any (four G i) n V3 hP hn)
    have hx0 : 0 ≤ (i : Int) % 8 ∧ (i : Int) % 8 < 8 := by omega
    have hy0 : 0 ≤ (i : Int) / 8 ∧ (i : Int) / 8 < 8 := by omega
    clear hP hM hG hf h hlb hlf
    unfold ptv
    have hV : (V.alloc (pto i)).alloc (pxo zp) = (V.alloc (.cells #[.int .i64 ((i : Int) % 8), .int .i64 ((i : Int) / 8)] 47)).alloc (po 0 0 0 0) := rfl
    rw [hV] at hs hp0 hp1
    clear hV
    generalize (i : Int) % 8 = x at *
    generalize (i : Int) / 8 = y at *
    generalize four G i = P at *
    have w0 : IntKind.i64.wrap (2 * x) = 2 * x := IntWalk.i64_in _ ⟨by omega, by omega⟩
    have w1 : IntKind.i64.wrap (2 * y) = 2 * y := IntWalk.i64_in _ ⟨by omega, by omega⟩
    have w2 : IntKind.i64.wrap (2 * x + 1) = 2 * x + 1 := IntWalk.i64_in _ ⟨by omega, by omega⟩
    have w3 : IntKind.i64.wrap (2 * y + 1) = 2 * y + 1 := IntWalk.i64_in _ ⟨by omega, by omega⟩
    have H0 : Hid (∀ V3, St V M V3 → Calls Tryd.prog 30 #[.int .i64 (2 * x), .int .i64 (2 * y), ptrB b] V3 fun e w' => e = .returned (P 0).v ∧ St V M w') := fun V3 h => HC.out V3 _ _ 0 h (by omega) (by omega) (by omega)
    have H1 : Hid (∀ V3, St V M V3 → Calls Tryd.prog 30 #[.int .i64 (2 * x + 1), .int .i64 (2 * y), ptrB b] V3 fun e w' => e = .returned (P 1).v ∧ St V M w') := fun V3 h => HC.out V3 _ _ 1 h (by omega) (by omega) (by omega)
    have H2 : Hid (∀ V3, St V M V3 → Calls Tryd.prog 30 #[.int .i64 (2 * x), .int .i64 (2 * y + 1), ptrB b] V3 fun e w' => e = .returned (P 2).v ∧ St V M w') := fun V3 h => HC.out V3 _ _ 2 h (by omega) (by omega) (by omega)
    have H3 : Hid (∀ V3, St V M V3 → Calls Tryd.prog 30 #[.int .i64 (2 * x + 1), .int .i64 (2 * y + 1), ptrB b] V3 fun e w' => e = .returned (P 3).v ∧ St V M w') := fun V3 h => HC.out V3 _ _ 3 h (by omega) (by omega) (by omega)
    have HS := Lib.hid hs
    have HP4 : Hid (∀ V3 : World, (V3.alloc (.cells #[.int .u8 (P 0).r, .int .u8 (P 0).g, .int .u8 (P 0).b, .int .u8 (P 0).a, .int .u8 (P 1).r, .int .u8 (P 1).g, .int .u8 (P 1).b, .int .u8 (P 1).a, .int .u8 (P 2).r, .int .u8 (P 2).g, .int .u8 (P 2).b, .int .u8 (P 2).a, .int .u8 (P 3).r, .int .u8 (P 3).g, .int .u8 (P 3).b, .int .u8 (P 3).a] 23)).heap[V3.heap.size]? = some (po4 P)) := fun V3 => World.alloc_heap_new V3 _
    clear hs hx0 hy0 HC
    generalize hqm : m4 P = q at HX ⊢
    clear hqm
    obtain ⟨qr, qg, qb, qa⟩ := q
    go_enter Tryd.func31, Tryd.ntmps31
    go_upto_region 1 with fail
    generalize (V.alloc (.cells #[.int .i64 x, .int .i64 y] 47)).alloc (po 0 0 0 0) = V2 at *
    go_quiet (fail)
    have h3 := Lib.hid (HS.out.drewN nq)
    clear HS hp0 hp1
    generalize V2.drewN nq = V3 at h3 ⊢
    go_upto_region 2 with fail
    have hd := h3.out.drew
    have hdl := HL.out _ hd
    clear h3
    -- by hand
    refine wp_region_held_drew (S := fun V3 => St V M' V3 ∧ V3.cell? ⟨bf, 0, none⟩ = some (.func (.func 30) #[] #[ptrB b])) (by kernel_rfl) ?_ (fun hHeld => ?_)
    · ((refine HQ.out _ ?_; repeat' (first | assumption | (exact HL.out _ (HA.out _ _ h3)) | refine HT.out _ _ _ ?_)))
    refine wpAnyH_take (i := 0) (oi := { dst := some 14, op := Op.load 61 (Operand.tmp 2), type := 61, pos := "halve.go:16", after := #[], guard := none }) (v := ?_) rfl (by kernel_rfl) (by kernel_rfl) (by kernel_rfl) (fun _ _ _ h => h) (Or.inl ⟨by kernel_rfl, ?_⟩) (by assumption) ?_
    rotate_left 1
    focus (intro w hSw; (try dsimp only at hSw); go_simp; (try with_reducible rfl))
    try simp only [Act.put, List.setIfInBounds_toArray, List.set_cons_zero, List.set_cons_succ]
    refine wpAnyH_take (i := 1) (oi := { dst := some 15, op := Op.move (Operand.tmp 6), type := 3, pos := "halve.go:16", after := #[], guard := none }) (v := ?_) rfl (by kernel_rfl) (by kernel_rfl) (by kernel_rfl) (fun _ _ _ h => h) (Or.inl ⟨by kernel_rfl, ?_⟩) (by assumption) ?_
    rotate_left 1
    focus (intro w hSw; (try dsimp only at hSw); go_simp; (try with_reducible rfl))
    try simp only [Act.put, List.setIfInBounds_toArray, List.set_cons_zero, List.set_cons_succ]
    refine wpAnyH_take (i := 2) (oi := { dst := some 16, op := Op.move (Operand.tmp 7), type := 3, pos := "halve.go:16", after := #[], guard := none }) (v := ?_) rfl (by kernel_rfl) (by kernel_rfl) (by kernel_rfl) (fun _ _ _ h => h) (Or.inl ⟨by kernel_rfl, ?_⟩) (by assumption) ?_
    rotate_left 1
    focus (intro w hSw; (try dsimp only at hSw); go_simp; (try with_reducible rfl))
    try simp only [Act.put, List.setIfInBounds_toArray, List.set_cons_zero, List.set_cons_succ]
    refine wpAnyH_take (i := 4) (oi := { dst := some 18, op := Op.load 61 (Operand.tmp 2), type := 61, pos := "halve.go:16", after := #[], guard := none }) (v := ?_) rfl (by kernel_rfl) (by kernel_rfl) (by kernel_rfl) (fun _ _ _ h => h) (Or.inl ⟨by kernel_rfl, ?_⟩) (by assumption) ?_
    rotate_left 1
    focus (intro w hSw; (try dsimp only at hSw); go_simp; (try with_reducible rfl))
    try simp only [Act.put, List.setIfInBounds_toArray, List.set_cons_zero, List.set_cons_succ]
    refine wpAnyH_take (i := 5) (oi := { dst := some 19, op := Op.move (Operand.tmp 6), type := 3, pos := "halve.go:16", after := #[], guard := none }) (v := ?_) rfl (by kernel_rfl) (by kernel_rfl) (by kernel_rfl) (fun _ _ _ h => h) (Or.inl ⟨by kernel_rfl, ?_⟩) (by assumption) ?_
    rotate_left 1
    focus (intro w hSw; (try dsimp only at hSw); go_simp; (try with_reducible rfl))
    try simp only [Act.put, List.setIfInBounds_toArray, List.set_cons_zero, List.set_cons_succ]
    refine wpAnyH_take (i := 6) (oi := { dst := some 20, op := Op.binOp BinOp.add 3 (Operand.tmp 19) (Operand.const (Value.int IntKind.i64 1)) 3, type := 3, pos := "halve.go:16", after := #[{ on := 5, ground := Ground.data }], guard := none }) (v := ?_) rfl (by kernel_rfl) (by kernel_rfl) (by kernel_rfl) (fun _ _ _ h => h) (Or.inl ⟨by kernel_rfl, ?_⟩) (by assumption) ?_
    rotate_left 1
    focus (intro w hSw; (try dsimp only at hSw); go_simp; (try with_reducible rfl))
    try simp only [Act.put, List.setIfInBounds_toArray, List.set_cons_zero, List.set_cons_succ]
    refine wpAnyH_take (i := 7) (oi := { dst := some 21, op := Op.move (Operand.tmp 7), type := 3, pos := "halve.go:16", after := #[], guard := none }) (v := ?_) rfl (by kernel_rfl) (by kernel_rfl) (by kernel_rfl) (fun _ _ _ h => h) (Or.inl ⟨by kernel_rfl, ?_⟩) (by assumption) ?_
    rotate_left 1
    focus (intro w hSw; (try dsimp only at hSw); go_simp; (try with_reducible rfl))
    try simp only [Act.put, List.setIfInBounds_toArray, List.set_cons_zero, List.set_cons_succ]
    refine wpAnyH_take (i := 9) (oi := { dst := some 23, op := Op.load 61 (Operand.tmp 2), type := 61, pos := "halve.go:16", after := #[], guard := none }) (v := ?_) rfl (by kernel_rfl) (by kernel_rfl) (by kernel_rfl) (fun _ _ _ h => h) (Or.inl ⟨by kernel_rfl, ?_⟩) (by assumption) ?_
    rotate_left 1
    focus (intro w hSw; (try dsimp only at hSw); go_simp; (try with_reducible rfl))
    try simp only [Act.put, List.setIfInBounds_toArray, List.set_cons_zero, List.set_cons_succ]
    refine wpAnyH_take (i := 10) (oi := { dst := some 24, op := Op.move (Operand.tmp 6), type := 3, pos := "halve.go:16", after := #[], guard := none }) (v := ?_) rfl (by kernel_rfl) (by kernel_rfl) (by kernel_rfl) (fun _ _ _ h => h) (Or.inl ⟨by kernel_rfl, ?_⟩) (by assumption) ?_
    rotate_left 1
    focus (intro w hSw; (try dsimp only at hSw); go_simp; (try with_reducible rfl))
    try simp only [Act.put, List.setIfInBounds_toArray, List.set_cons_zero, List.set_cons_succ]
    refine wpAnyH_take (i := 11) (oi := { dst := some 25, op := Op.move (Operand.tmp 7), type := 3, pos := "halve.go:16", after := #[], guard := none }) (v := ?_) rfl (by kernel_rfl) (by kernel_rfl) (by kernel_rfl) (fun _ _ _ h => h) (Or.inl ⟨by kernel_rfl, ?_⟩) (by assumption) ?_
    rotate_left 1
    focus (intro w hSw; (try dsimp only at hSw); go_simp; (try with_reducible rfl))
    try simp only [Act.put, List.setIfInBounds_toArray, List.set_cons_zero, List.set_cons_succ]
    refine wpAnyH_take (i := 12) (oi := { dst := some 26, op := Op.binOp BinOp.add 3 (Operand.tmp 25) (Operand.const (Value.int IntKind.i64 1)) 3, type := 3, pos := "halve.go:16", after := #[{ on := 11, ground := Ground.data }], guard := none }) (v := ?_) rfl (by kernel_rfl) (by kernel_rfl) (by kernel_rfl) (fun _ _ _ h => h) (Or.inl ⟨by kernel_rfl, ?_⟩) (by assumption) ?_
    rotate_left 1
    focus (intro w hSw; (try dsimp only at hSw); go_simp; (try with_reducible rfl))
    try simp only [Act.put, List.setIfInBounds_toArray, List.set_cons_zero, List.set_cons_succ]
    refine wpAnyH_take (i := 14) (oi := { dst := some 28, op := Op.load 61 (Operand.tmp 2), type := 61, pos := "halve.go:16", after := #[], guard := none }) (v := ?_) rfl (by kernel_rfl) (by kernel_rfl) (by kernel_rfl) (fun _ _ _ h => h) (Or.inl ⟨by kernel_rfl, ?_⟩) (by assumption) ?_
    rotate_left 1
    focus (intro w hSw; (try dsimp only at hSw); go_simp; (try with_reducible rfl))
    try simp only [Act.put, List.setIfInBounds_toArray, List.set_cons_zero, List.set_cons_succ]
    refine wpAnyH_take (i := 15) (oi := { dst := some 29, op := Op.move (Operand.tmp 6), type := 3, pos := "halve.go:16", after := #[], guard := none }) (v := ?_) rfl (by kernel_rfl) (by kernel_rfl) (by kernel_rfl) (fun _ _ _ h => h) (Or.inl ⟨by kernel_rfl, ?_⟩) (by assumption) ?_
    rotate_left 1
    focus (intro w hSw; (try dsimp only at hSw); go_simp; (try with_reducible rfl))
    try simp only [Act.put, List.setIfInBounds_toArray, List.set_cons_zero, List.set_cons_succ]
    refine wpAnyH_take (i := 16) (oi := { dst := some 30, op := Op.binOp BinOp.add 3 (Operand.tmp 29) (Operand.const (Value.int IntKind.i64 1)) 3, type := 3, pos := "halve.go:16", after := #[{ on := 15, ground := Ground.data }], guard := none }) (v := ?_) rfl (by kernel_rfl) (by kernel_rfl) (by kernel_rfl) (fun _ _ _ h => h) (Or.inl ⟨by kernel_rfl, ?_⟩) (by assumption) ?_
    rotate_left 1
    focus (intro w hSw; (try dsimp only at hSw); go_simp; (try with_reducible rfl))
    try simp only [Act.put, List.setIfInBounds_toArray, List.set_cons_zero, List.set_cons_succ]
    refine wpAnyH_take (i := 17) (oi := { dst := some 31, op := Op.move (Operand.tmp 7), type := 3, pos := "halve.go:16", after := #[], guard := none }) (v := ?_) rfl (by kernel_rfl) (by kernel_rfl) (by kernel_rfl) (fun _ _ _ h => h) (Or.inl ⟨by kernel_rfl, ?_⟩) (by assumption) ?_
    rotate_left 1
    focus (intro w hSw; (try dsimp only at hSw); go_simp; (try with_reducible rfl))
    try simp only [Act.put, List.setIfInBounds_toArray, List.set_cons_zero, List.set_cons_succ]
    refine wpAnyH_take (i := 18) (oi := { dst := some 32, op := Op.binOp BinOp.add 3 (Operand.tmp 31) (Operand.const (Value.int IntKind.i64 1)) 3, type := 3, pos := "halve.go:16", after := #[{ on := 17, ground := Ground.data }], guard := none }) (v := ?_) rfl (by kernel_rfl) (by kernel_rfl) (by kernel_rfl) (fun _ _ _ h => h) (Or.inl ⟨by kernel_rfl, ?_⟩) (by assumption) ?_
    rotate_left 1
    focus (intro w hSw; (try dsimp only at hSw); go_simp; (try with_reducible rfl))
    try simp only [Act.put, List.setIfInBounds_toArray, List.set_cons_zero, List.set_cons_succ]
    refine wpAnyH_ready (rs := [3]) (by kernel_rfl) (by simp) (AllReadyH.cons (o := { dst := some 17, op := Op.call { callee := Callee.value (Operand.tmp 14), args := #[Operand.tmp 15, Operand.tmp 16], argTypes := #[3, 3] }, type := 23, pos := "halve.go:16", after := #[{ on := 0, ground := Ground.data }, { on := 1, ground := Ground.data }, { on := 2, ground := Ground.data }], guard := none }) rfl (fun K hK => ?_) AllReadyH.nil)
    (go_simp; (refine (H0.out _ hd).mono ?_); rintro e w0 ⟨rfl, h0⟩; have l0 := HL.out _ h0)
    refine hK.out _ _ ?_ (fun hHeld => ?_)
    · ((refine HQ.out _ ?_; repeat' (first | assumption | (exact HL.out _ (HA.out _ _ h3)) | refine HT.out _ _ _ ?_)))
    clear hK K
    try simp only [Act.put, List.setIfInBounds_toArray, List.set_cons_zero, List.set_cons_succ]
    refine wpAnyH_ready (rs := [8]) (by kernel_rfl) (by simp) (AllReadyH.cons (o := { dst := some 22, op := Op.call { callee := Callee.value (Operand.tmp 18), args := #[Operand.tmp 20, Operand.tmp 21], argTypes := #[3, 3] }, type := 23, pos := "halve.go:16", after := #[{ on := 4, ground := Ground.data }, { on := 6, ground := Ground.data }, { on := 7, ground := Ground.data }, { on := 3, ground := Ground.chain }], guard := none }) rfl (fun K hK => ?_) AllReadyH.nil)
    (go_simp; (refine (H1.out _ h0).mono ?_); rintro e w1 ⟨rfl, h1⟩; have l1 := HL.out _ h1)
    refine hK.out _ _ ?_ (fun hHeld => ?_)
    · ((refine HQ.out _ ?_; repeat' (first | assumption | (exact HL.out _ (HA.out _ _ h3)) | refine HT.out _ _ _ ?_)))
    clear hK K
    try simp only [Act.put, List.setIfInBounds_toArray, List.set_cons_zero, List.set_cons_succ]
    refine wpAnyH_ready (rs := [13]) (by kernel_rfl) (by simp) (AllReadyH.cons (o := { dst := some 27, op := Op.call { callee := Callee.value (Operand.tmp 23), args := #[Operand.tmp 24, Operand.tmp 26], argTypes := #[3, 3] }, type := 23, pos := "halve.go:16", after := #[{ on := 9, ground := Ground.data }, { on := 10, ground := Ground.data }, { on := 12, ground := Ground.data }, { on := 8, ground := Ground.chain }], guard := none }) rfl (fun K hK => ?_) AllReadyH.nil)
    (go_simp; (refine (H2.out _ h1).mono ?_); rintro e w2 ⟨rfl, h2⟩; have l2 := HL.out _ h2)
    refine hK.out _ _ ?_ (fun hHeld => ?_)
    · ((refine HQ.out _ ?_; repeat' (first | assumption | (exact HL.out _ (HA.out _ _ h3)) | refine HT.out _ _ _ ?_)))
    clear hK K
    try simp only [Act.put, List.setIfInBounds_toArray, List.set_cons_zero, List.set_cons_succ]
    refine wpAnyH_ready (rs := [19]) (by kernel_rfl) (by simp) (AllReadyH.cons (o := { dst := some 33, op := Op.call { callee := Callee.value (Operand.tmp 28), args := #[Operand.tmp 30, Operand.tmp 32], argTypes := #[3, 3] }, type := 23, pos := "halve.go:16", after := #[{ on := 14, ground := Ground.data }, { on := 16, ground := Ground.data }, { on := 18, ground := Ground.data }, { on := 13, ground := Ground.chain }], guard := none }) rfl (fun K hK => ?_) AllReadyH.nil)
    (go_simp; (refine (H3.out _ h2).mono ?_); rintro e w3 ⟨rfl, h3⟩; have l3 := HL.out _ h3)
    refine hK.out _ _ ?_ (fun hHeld => ?_)
    · ((refine HQ.out _ ?_; repeat' (first | assumption | (exact HL.out _ (HA.out _ _ h3)) | refine HT.out _ _ _ ?_)))
    clear hK K
    try simp only [Act.put, List.setIfInBounds_toArray, List.set_cons_zero, List.set_cons_succ]
    refine wpAnyH_ready (rs := [20]) (by kernel_rfl) (by simp) (AllReadyH.cons (o := { dst := some 34, op := Op.buildSlice 81 4 #[(0, Operand.tmp 17), (1, Operand.tmp 22), (2, Operand.tmp 27), (3, Operand.tmp 33)], type := 81, pos := "halve.go:16", after := #[{ on := 3, ground := Ground.data }, { on := 8, ground := Ground.data }, { on := 13, ground := Ground.data }, { on := 19, ground := Ground.data }], guard := none }) rfl (fun K hK => ?_) AllReadyH.nil)
    (go_simp; skip)
    refine hK.out _ _ ?_ (fun hHeld => ?_)
    · ((refine HQ.out _ ?_; repeat' (first | assumption | (exact HL.out _ (HA.out _ _ h3)) | refine HT.out _ _ _ ?_)))
    clear hK K
    try simp only [Act.put, List.setIfInBounds_toArray, List.set_cons_zero, List.set_cons_succ]
    refine wpAnyH_ready (rs := [21]) (by kernel_rfl) (by simp) (AllReadyH.cons (o := { dst := some 35, op := Op.call { callee := Callee.value (Operand.func 32), args := #[Operand.tmp 34], argTypes := #[81] }, type := 23, pos := "halve.go:16", after := #[{ on := 20, ground := Ground.data }, { on := 19, ground := Ground.chain }], guard := none }) rfl (fun K hK => ?_) AllReadyH.nil)
    (go_simp; (go_at_call 32; (refine (HX.out _ _ (HA.out _ _ h3) (HP4.out w3)).mono ?_); rintro e w5 ⟨rfl, h5⟩; have l5 := HL.out _ h5; obtain ⟨⟨t0, t1, t2, t3⟩, f3⟩ := HF.out _ h5))
    refine hK.out _ _ ?_ (fun hHeld => ?_)
    · ((refine HQ.out _ ?_; repeat' (first | assumption | (exact HL.out _ (HA.out _ _ h3)) | refine HT.out _ _ _ ?_)))
    clear hK K
    try simp only [Act.put, List.setIfInBounds_toArray, List.set_cons_zero, List.set_cons_succ]
    refine wpAnyH_ready (rs := [22]) (by kernel_rfl) (by simp) (AllReadyH.cons (o := { dst := none, op := Op.store 23 (Operand.tmp 5) (Operand.tmp 35), type := 0, pos := "halve.go:16", after := #[{ on := 21, ground := Ground.data }, { on := 21, ground := Ground.chain }, { on := 0, ground := Ground.phase }, { on := 1, ground := Ground.phase }, { on := 2, ground := Ground.phase }, { on := 3, ground := Ground.phase }, { on := 4, ground := Ground.phase }, { on := 5, ground := Ground.phase }, { on := 6, ground := Ground.phase }, { on := 7, ground := Ground.phase }, { on := 8, ground := Ground.phase }, { on := 9, ground := Ground.phase }, { on := 10, ground := Ground.phase }, { on := 11, ground := Ground.phase }, { on := 12, ground := Ground.phase }, { on := 13, ground := Ground.phase }, { on := 14, ground := Ground.phase }, { on := 15, ground := Ground.phase }, { on := 16, ground := Ground.phase }, { on := 17, ground := Ground.phase }, { on := 18, ground := Ground.phase }, { on := 19, ground := Ground.phase }, { on := 20, ground := Ground.phase }, { on := 21, ground := Ground.phase }], guard := none }) rfl (fun K hK => ?_) AllReadyH.nil)
    (go_simp; skip)
    refine hK.out _ _ ?_ (fun hHeld => ?_)
    · ((refine HQ.out _ ?_; repeat' (first | assumption | (exact HL.out _ (HA.out _ _ h3)) | refine HT.out _ _ _ ?_)))
    clear hK K
    try simp only [Act.put, List.setIfInBounds_toArray, List.set_cons_zero, List.set_cons_succ]
    refine wpAnyH_done (by kernel_rfl) ?_ _
    go_wp2_with fail
    exact bodyPost_ret (v := pv qr qg qb qa) (by simp [results, Tryd.results31, go_sem, *]) rfl ⟨rfl, below_set4 h5.below (by omega) _ _ _ _⟩
  exact key
end Go.Proofs.YtligojllbnahcaaDoor.T
