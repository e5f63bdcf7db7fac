/-
  For every square of four tiles and every pixel, halving the flipped or turned square gives the flipped or turned result, and a square of equal solid tiles is halved to the same tile, cleaned.
-/
import Derived.Test.YtkomknhloimhcaaTLaw
namespace Go.Proofs.Ytkomknhloimhcaa.T.TLHalveSymmetry
open Go.ChangeShapes Go.WideShapes Go.ChangeAt Go.RowKit Go.Shelf

theorem sub_pc {G : Nat → Px} (hG : ∀ i, i < 256 → Pc (G i)) (q i : Nat) (hq : q < 4) (hi : i < 64) : Pc (sub4 G q i) := hG _ (by omega)
theorem sq_pcs {a b c d : Nat → Px} (ha : ∀ i, i < 64 → Pc (a i)) (hb : ∀ i, i < 64 → Pc (b i)) (hc : ∀ i, i < 64 → Pc (c i)) (hd : ∀ i, i < 64 → Pc (d i)) (k : Nat) (hk : k < 256) : Pc (sqG a b c d k) := by
  unfold sqG app
  by_cases h0 : k < 128
  · rw [if_pos h0]
    by_cases h1 : k < 64
    · rw [if_pos h1]; exact ha k h1
    · rw [if_neg h1]; exact hb _ (by omega)
  · rw [if_neg h0]
    by_cases h1 : k - 128 < 64
    · rw [if_pos h1]; exact hc _ h1
    · rw [if_neg h1]; exact hd _ (by omega)
theorem num_xy {x y : Nat} (hx : x < 16) (hy : y < 16) : num x y < 256 := num_lt hx hy
theorem sq_num (a b c d : Nat → Px) {x y : Nat} (hx : x < 16) (hy : y < 16) : sqG a b c d (num x y) = (if y < 8 then (if x < 8 then a else b) else (if x < 8 then c else d)) (8 * (y % 8) + x % 8) := by
  unfold sqG app num
  by_cases h0 : y < 8
  · rw [if_pos (by omega), if_pos h0]
    by_cases h1 : x < 8
    · rw [if_pos (by omega), if_pos h1]; exact congrArg _ (by omega)
    · rw [if_neg (by omega), if_neg h1]; exact congrArg _ (by omega)
  · rw [if_neg (by omega), if_neg h0]
    by_cases h1 : x < 8
    · rw [if_pos (by omega), if_pos h1]; exact congrArg _ (by omega)
    · rw [if_neg (by omega), if_neg h1]; exact congrArg _ (by omega)
theorem flip_at (f : Nat → Px) {x y : Nat} (hx : x < 8) (_hy : y < 8) : f (flipI (8 * y + x)) = f (8 * y + (7 - x)) := by unfold flipI; exact congrArg _ (by omega)
theorem turn_at (f : Nat → Px) {x y : Nat} (hx : x < 8) (_hy : y < 8) : f (turnI (8 * y + x)) = f (8 * (7 - x) + y) := by unfold turnI; exact congrArg _ (by omega)
/-- the square of the flipped tiles is the flipped square -/
theorem sq_flip (a b c d : Nat → Px) {x y : Nat} (hx : x < 16) (hy : y < 16) : sqG (fun i => b (flipI i)) (fun i => a (flipI i)) (fun i => d (flipI i)) (fun i => c (flipI i)) (num x y) = sqG a b c d (num (15 - x) y) := by
  rw [sq_num _ _ _ _ hx hy, sq_num _ _ _ _ (by omega) hy]
  by_cases h0 : y < 8
  · rw [if_pos h0, if_pos h0]
    by_cases h1 : x < 8
    · rw [if_pos h1, if_neg (by omega), flip_at b (by omega) (by omega)]; exact congrArg _ (by omega)
    · rw [if_neg h1, if_pos (by omega), flip_at a (by omega) (by omega)]; exact congrArg _ (by omega)
  · rw [if_neg h0, if_neg h0]
    by_cases h1 : x < 8
    · rw [if_pos h1, if_neg (by omega), flip_at d (by omega) (by omega)]; exact congrArg _ (by omega)
    · rw [if_neg h1, if_pos (by omega), flip_at c (by omega) (by omega)]; exact congrArg _ (by omega)
theorem sq_turn (a b c d : Nat → Px) {x y : Nat} (hx : x < 16) (hy : y < 16) : sqG (fun i => c (turnI i)) (fun i => a (turnI i)) (fun i => d (turnI i)) (fun i => b (turnI i)) (num x y) = sqG a b c d (num y (15 - x)) := by
  rw [sq_num _ _ _ _ hx hy, sq_num _ _ _ _ hy (by omega)]
  by_cases h0 : y < 8
  · rw [if_pos h0]
    by_cases h1 : x < 8
    · rw [if_pos h1, if_neg (by omega), if_pos h0, turn_at c (by omega) (by omega)]; exact congrArg _ (by omega)
    · rw [if_neg h1, if_pos (by omega), if_pos h0, turn_at a (by omega) (by omega)]; exact congrArg _ (by omega)
  · rw [if_neg h0]
    by_cases h1 : x < 8
    · rw [if_pos h1, if_neg (by omega), if_neg h0, turn_at d (by omega) (by omega)]; exact congrArg _ (by omega)
    · rw [if_neg h1, if_pos (by omega), if_neg h0, turn_at b (by omega) (by omega)]; exact congrArg _ (by omega)
theorem m4_perm1 (P : Nat → Px) : m4 (fun j => P (2 * (j / 2) + (1 - j % 2))) = m4 P := by
  have e : ∀ X Y Z U : Int, 0 + X + Y + Z + U = 0 + Y + X + U + Z := by intros; omega
  simp only [m4, ma, mx, my, mz]
  congr 1 <;> exact e _ _ _ _
theorem m4_perm2 (P : Nat → Px) : m4 (fun j => P (2 * (1 - j % 2) + j / 2)) = m4 P := by
  have e : ∀ X Y Z U : Int, 0 + X + Y + Z + U = 0 + Z + X + U + Y := by intros; omega
  simp only [m4, ma, mx, my, mz]
  congr 1 <;> exact (e _ _ _ _).symm
theorem hf_eq (a b c d : Nat → Px) (i : Nat) (hi : i < 64) : m4 (four (sqG (fun i => b (flipI i)) (fun i => a (flipI i)) (fun i => d (flipI i)) (fun i => c (flipI i))) i) = m4 (four (sqG a b c d) (flipI i)) := by
  rw [← m4_perm1 (four (sqG a b c d) (flipI i))]
  refine m4_congr fun j hj => ?_
  unfold four
  rw [sq_flip a b c d (by omega) (by omega)]
  have e1 : flipI i % 8 = 7 - i % 8 := by unfold flipI; omega
  have e2 : flipI i / 8 = i / 8 := by unfold flipI; omega
  rw [e1, e2]
  congr 2 <;> omega
theorem ht_eq (a b c d : Nat → Px) (i : Nat) (hi : i < 64) : m4 (four (sqG (fun i => c (turnI i)) (fun i => a (turnI i)) (fun i => d (turnI i)) (fun i => b (turnI i))) i) = m4 (four (sqG a b c d) (turnI i)) := by
  rw [← m4_perm2 (four (sqG a b c d) (turnI i))]
  refine m4_congr fun j hj => ?_
  unfold four
  rw [sq_turn a b c d (by omega) (by omega)]
  have e1 : turnI i % 8 = i / 8 := by unfold turnI; omega
  have e2 : turnI i / 8 = 7 - i % 8 := by unfold turnI; omega
  rw [e1, e2]
  congr 2 <;> omega
theorem m4_const (p : Px) (hp : Pc p) : m4 (fun _ => p) = cln p := by
  obtain ⟨r, g, b, a⟩ := p
  have h0 : 0 ≤ a := hp.2.2.2.1
  have e1 : ma (fun _ => ⟨r, g, b, a⟩) 4 = 4 * a := by simp only [ma, cnt_one]; omega
  have e2 : mx (fun _ => ⟨r, g, b, a⟩) 4 = 4 * a * r := by simp only [mx, cnt_one, Int.one_mul]; rw [Int.mul_assoc]; generalize a * r = t; omega
  have e3 : my (fun _ => ⟨r, g, b, a⟩) 4 = 4 * a * g := by simp only [my, cnt_one, Int.one_mul]; rw [Int.mul_assoc]; generalize a * g = t; omega
  have e4 : mz (fun _ => ⟨r, g, b, a⟩) 4 = 4 * a * b := by simp only [mz, cnt_one, Int.one_mul]; rw [Int.mul_assoc]; generalize a * b = t; omega
  unfold m4
  rw [e1, e2, e3, e4]
  unfold mpx cln
  rw [if_neg (by decide), rd_mul (by decide)]
  by_cases h : a = 0
  · subst h; simp [zp]
  · rw [if_neg h, rd_mul (by omega), rd_mul (by omega), rd_mul (by omega)]
    simp [h]
theorem s4_eq (p : Px) (hp : Pc p) (i : Nat) : m4 (four (sqG (fun _ => p) (fun _ => p) (fun _ => p) (fun _ => p)) i) = cln p := by
  rw [← m4_const p hp]
  refine m4_congr fun j _ => ?_
  unfold four sqG app
  split <;> split <;> rfl

set_option maxHeartbeats 8000000 in
set_option maxRecDepth 100000 in
theorem walk (G : Nat → Px) (p : Px) (w : World) (hG : ∀ i, i < 256 → Pc (G i)) (hp : Pc p) : Calls Try.prog 9 #[.agg (fc 256 G), p.v] w fun e w' => e = .returned (.bool true) ∧ Below w.heap.size w w' := by
  have hs := ((St.start w).alloc (sq4 G)).alloc (pxo p)
  simp only [World.size_alloc] at hs
  have HPC := Lib.hid (sq_pcs (sub_pc hG 0 · (by omega)) (sub_pc hG 1 · (by omega)) (sub_pc hG 2 · (by omega)) (sub_pc hG 3 · (by omega)))
  have HPF := Lib.hid (sq_pcs (a := fun i => sub4 G 1 (flipI i)) (b := fun i => sub4 G 0 (flipI i)) (c := fun i => sub4 G 3 (flipI i)) (d := fun i => sub4 G 2 (flipI i)) (fun i hi => sub_pc hG 1 _ (by omega) (flipI_lt hi)) (fun i hi => sub_pc hG 0 _ (by omega) (flipI_lt hi)) (fun i hi => sub_pc hG 3 _ (by omega) (flipI_lt hi)) (fun i hi => sub_pc hG 2 _ (by omega) (flipI_lt hi)))
  have HPT := Lib.hid (sq_pcs (a := fun i => sub4 G 2 (turnI i)) (b := fun i => sub4 G 0 (turnI i)) (c := fun i => sub4 G 3 (turnI i)) (d := fun i => sub4 G 1 (turnI i)) (fun i hi => sub_pc hG 2 _ (by omega) (turnI_lt hi)) (fun i hi => sub_pc hG 0 _ (by omega) (turnI_lt hi)) (fun i hi => sub_pc hG 3 _ (by omega) (turnI_lt hi)) (fun i hi => sub_pc hG 1 _ (by omega) (turnI_lt hi)))
  have HPS := Lib.hid (sq_pcs (a := fun _ => p) (b := fun _ => p) (c := fun _ => p) (d := fun _ => p) (fun _ _ => hp) (fun _ _ => hp) (fun _ _ => hp) (fun _ _ => hp))
  have HE1 := Lib.hid (eqlTT (f := fun i => m4 (four (sqG (fun i => sub4 G 1 (flipI i)) (fun i => sub4 G 0 (flipI i)) (fun i => sub4 G 3 (flipI i)) (fun i => sub4 G 2 (flipI i))) i)) (g := fun i => (fun i => m4 (four (sqG (sub4 G 0) (sub4 G 1) (sub4 G 2) (sub4 G 3)) i)) (flipI i)) (fun i hi => hf_eq (sub4 G 0) (sub4 G 1) (sub4 G 2) (sub4 G 3) i hi))
  have HE2 := Lib.hid (eqlTT (f := fun i => m4 (four (sqG (fun i => sub4 G 2 (turnI i)) (fun i => sub4 G 0 (turnI i)) (fun i => sub4 G 3 (turnI i)) (fun i => sub4 G 1 (turnI i))) i)) (g := fun i => (fun i => m4 (four (sqG (sub4 G 0) (sub4 G 1) (sub4 G 2) (sub4 G 3)) i)) (turnI i)) (fun i hi => ht_eq (sub4 G 0) (sub4 G 1) (sub4 G 2) (sub4 G 3) i hi))
  have HE3 := Lib.hid (eqlTT (f := fun i => m4 (four (sqG (fun _ => p) (fun _ => p) (fun _ => p) (fun _ => p)) i)) (g := fun i => cln ((fun _ => p) i)) (fun i _ => s4_eq p hp i))
  have hi0 : ∀ W, (Instr.indexAt 43 (.pointer (some ⟨w.heap.size, 0, none⟩)) (.int .i64 0)).run Try.prog W = .ok (.pointer (some ⟨w.heap.size, 0, none⟩)) W := fun W => index_at (t := 43) (n := 4) Try.underlying43 size_tile (w.heap.size) 0 0 0 (by omega) (by omega) W
  have hi1 : ∀ W, (Instr.indexAt 43 (.pointer (some ⟨w.heap.size, 0, none⟩)) (.int .i64 1)).run Try.prog W = .ok (.pointer (some ⟨w.heap.size, 256, none⟩)) W := fun W => index_at (t := 43) (n := 4) Try.underlying43 size_tile (w.heap.size) 0 1 1 (by omega) (by omega) W
  have hi2 : ∀ W, (Instr.indexAt 43 (.pointer (some ⟨w.heap.size, 0, none⟩)) (.int .i64 2)).run Try.prog W = .ok (.pointer (some ⟨w.heap.size, 512, none⟩)) W := fun W => index_at (t := 43) (n := 4) Try.underlying43 size_tile (w.heap.size) 0 2 2 (by omega) (by omega) W
  have hi3 : ∀ W, (Instr.indexAt 43 (.pointer (some ⟨w.heap.size, 0, none⟩)) (.int .i64 3)).run Try.prog W = .ok (.pointer (some ⟨w.heap.size, 768, none⟩)) W := fun W => index_at (t := 43) (n := 4) Try.underlying43 size_tile (w.heap.size) 0 3 3 (by omega) (by omega) W
  clear hG hp
  go_enter Try.func9, Try.ntmps9
  go_upto_region 2 with (go_at_call 11; (refine (St.call hs (sane_any _)).mono ?_); rintro e V1 ⟨rfl, h1⟩)
  have H1 := Lib.hid h1
  clear hs h1
  have hzt := zero_tile
  have HL0 := Lib.hid (load_tmid (w.heap.size) 0 G V1 (by omega) (H1.out.row (b := w.heap.size) (o := sq4 G) (by simp)))
  have HL1 := Lib.hid (load_tmid (w.heap.size) 1 G V1 (by omega) (H1.out.row (b := w.heap.size) (o := sq4 G) (by simp)))
  have HL2 := Lib.hid (load_tmid (w.heap.size) 2 G V1 (by omega) (H1.out.row (b := w.heap.size) (o := sq4 G) (by simp)))
  have HL3 := Lib.hid (load_tmid (w.heap.size) 3 G V1 (by omega) (H1.out.row (b := w.heap.size) (o := sq4 G) (by simp)))
  go_upto_region 3 with (first
    | (refine wpList_load_of rfl 25 (.tmp 11) rfl _ HL0.out ?_)
    | (refine wpList_load_of rfl 25 (.tmp 13) rfl _ HL1.out ?_)
    | (refine wpList_load_of rfl 25 (.tmp 15) rfl _ HL2.out ?_)
    | (refine wpList_load_of rfl 25 (.tmp 17) rfl _ HL3.out ?_)
    | (go_at_call 32; (refine (St.call H1.out (halve_any (sub4 G 0) (sub4 G 1) (sub4 G 2) (sub4 G 3) _ HPC.out)).mono ?_); rintro e V2 ⟨rfl, h⟩; have H2 := Lib.hid ((h.alloc (tob z0)).newT (fun i => m4 (four (sqG (sub4 G 0) (sub4 G 1) (sub4 G 2) (sub4 G 3)) i)) h.below.size h.ne); have HA := Lib.hid (h.alloc (tob z0)).hd; clear h)
    | (refine wpList_alloc_of rfl 25 rfl _ (zero_tile _) ?_)
    | (refine wpList_store_of rfl 25 _ _ rfl (store_tile _ z0 _ _ HA.out) ?_))
  clear HL0 HL1 HL2 HL3 H1
  have h2 := H2.out
  generalize V2.heap.size = b2 at *
  generalize (V2.alloc (.cells (tc z0) 25)).setRow b2 (tc (fun i => m4 (four (sqG (sub4 G 0) (sub4 G 1) (sub4 G 2) (sub4 G 3)) i))) = W2 at h2 ⊢
  clear H2 HA
  try simp only [Act.put, List.setIfInBounds_toArray, List.set_cons_zero, List.set_cons_succ]
  go_cut [7] (fun v wx => ∃ b3, v = ptrB b3 ∧ St w ((b3, tob (fun i => m4 (four (sqG (fun i => sub4 G 1 (flipI i)) (fun i => sub4 G 0 (flipI i)) (fun i => sub4 G 3 (flipI i)) (fun i => sub4 G 2 (flipI i))) i))) :: ((b2, tob (fun i => m4 (four (sqG (sub4 G 0) (sub4 G 1) (sub4 G 2) (sub4 G 3)) i))) :: [(w.heap.size + 1, pxo p), (w.heap.size, sq4 G)])) wx)
  case first =>
    refine wp_region_held_drew (S := fun V9 => St w ((b2, tob (fun i => m4 (four (sqG (sub4 G 0) (sub4 G 1) (sub4 G 2) (sub4 G 3)) i))) :: [(w.heap.size + 1, pxo p), (w.heap.size, sq4 G)]) V9) (by kernel_rfl) ?_ (fun hHeld => ?_)
    · exact h2.drew
    have h20 := h2.drew
    refine wpAnyH_take (i := 0) (oi := { dst := some 20, op := Op.indexAddr 43 (Operand.tmp 2) (Operand.const (Value.int IntKind.i64 1)), type := 0, pos := "law.go:125", after := #[], guard := none }) (v := ?_) rfl (by kernel_rfl) (by kernel_rfl) (by kernel_rfl) (fun _ _ _ h => h) (Or.inl ⟨by kernel_rfl, ?_⟩) (by assumption) ?_
    rotate_left 1
    focus (intro w hSw; (try dsimp only at hSw); go_simp; (try with_reducible rfl))
    try simp only [Act.put, List.setIfInBounds_toArray, List.set_cons_zero, List.set_cons_succ]
    refine wpAnyH_take (i := 1) (oi := { dst := some 21, op := Op.load 25 (Operand.tmp 20), type := 25, pos := "law.go:125", after := #[{ on := 0, ground := Ground.data }], guard := none }) rfl (by kernel_rfl) (by kernel_rfl) (by kernel_rfl) (fun _ _ _ h => h) (yields_load (by kernel_rfl) 25 (.tmp 20) rfl (tv (sub4 G 1)) (fun V hV => load_tmid (w.heap.size) 1 G V (by omega) (hV.row (b := w.heap.size) (o := sq4 G) (by simp)))) (by assumption) ?_
    try simp only [Act.put, List.setIfInBounds_toArray, List.set_cons_zero, List.set_cons_succ]
    refine wpAnyH_take (i := 3) (oi := { dst := some 23, op := Op.indexAddr 43 (Operand.tmp 2) (Operand.const (Value.int IntKind.i64 0)), type := 0, pos := "law.go:125", after := #[], guard := none }) (v := ?_) rfl (by kernel_rfl) (by kernel_rfl) (by kernel_rfl) (fun _ _ _ h => h) (Or.inl ⟨by kernel_rfl, ?_⟩) (by assumption) ?_
    rotate_left 1
    focus (intro w hSw; (try dsimp only at hSw); go_simp; (try with_reducible rfl))
    try simp only [Act.put, List.setIfInBounds_toArray, List.set_cons_zero, List.set_cons_succ]
    refine wpAnyH_take (i := 4) (oi := { dst := some 24, op := Op.load 25 (Operand.tmp 23), type := 25, pos := "law.go:125", after := #[{ on := 3, ground := Ground.data }], guard := none }) rfl (by kernel_rfl) (by kernel_rfl) (by kernel_rfl) (fun _ _ _ h => h) (yields_load (by kernel_rfl) 25 (.tmp 23) rfl (tv (sub4 G 0)) (fun V hV => load_tmid (w.heap.size) 0 G V (by omega) (hV.row (b := w.heap.size) (o := sq4 G) (by simp)))) (by assumption) ?_
    try simp only [Act.put, List.setIfInBounds_toArray, List.set_cons_zero, List.set_cons_succ]
    refine wpAnyH_take (i := 6) (oi := { dst := some 26, op := Op.indexAddr 43 (Operand.tmp 2) (Operand.const (Value.int IntKind.i64 3)), type := 0, pos := "law.go:125", after := #[], guard := none }) (v := ?_) rfl (by kernel_rfl) (by kernel_rfl) (by kernel_rfl) (fun _ _ _ h => h) (Or.inl ⟨by kernel_rfl, ?_⟩) (by assumption) ?_
    rotate_left 1
    focus (intro w hSw; (try dsimp only at hSw); go_simp; (try with_reducible rfl))
    try simp only [Act.put, List.setIfInBounds_toArray, List.set_cons_zero, List.set_cons_succ]
    refine wpAnyH_take (i := 7) (oi := { dst := some 27, op := Op.load 25 (Operand.tmp 26), type := 25, pos := "law.go:125", after := #[{ on := 6, ground := Ground.data }], guard := none }) rfl (by kernel_rfl) (by kernel_rfl) (by kernel_rfl) (fun _ _ _ h => h) (yields_load (by kernel_rfl) 25 (.tmp 26) rfl (tv (sub4 G 3)) (fun V hV => load_tmid (w.heap.size) 3 G V (by omega) (hV.row (b := w.heap.size) (o := sq4 G) (by simp)))) (by assumption) ?_
    try simp only [Act.put, List.setIfInBounds_toArray, List.set_cons_zero, List.set_cons_succ]
    refine wpAnyH_take (i := 9) (oi := { dst := some 29, op := Op.indexAddr 43 (Operand.tmp 2) (Operand.const (Value.int IntKind.i64 2)), type := 0, pos := "law.go:125", after := #[], guard := none }) (v := ?_) rfl (by kernel_rfl) (by kernel_rfl) (by kernel_rfl) (fun _ _ _ h => h) (Or.inl ⟨by kernel_rfl, ?_⟩) (by assumption) ?_
    rotate_left 1
    focus (intro w hSw; (try dsimp only at hSw); go_simp; (try with_reducible rfl))
    try simp only [Act.put, List.setIfInBounds_toArray, List.set_cons_zero, List.set_cons_succ]
    refine wpAnyH_take (i := 10) (oi := { dst := some 30, op := Op.load 25 (Operand.tmp 29), type := 25, pos := "law.go:125", after := #[{ on := 9, ground := Ground.data }], guard := none }) rfl (by kernel_rfl) (by kernel_rfl) (by kernel_rfl) (fun _ _ _ h => h) (yields_load (by kernel_rfl) 25 (.tmp 29) rfl (tv (sub4 G 2)) (fun V hV => load_tmid (w.heap.size) 2 G V (by omega) (hV.row (b := w.heap.size) (o := sq4 G) (by simp)))) (by assumption) ?_
    try simp only [Act.put, List.setIfInBounds_toArray, List.set_cons_zero, List.set_cons_succ]
    refine wpAnyH_ready (rs := [2, 13]) (by kernel_rfl) (by simp) (AllReadyH.cons (o := { dst := some 22, op := Op.call { callee := Callee.value (Operand.func 28), args := #[Operand.tmp 21], argTypes := #[25] }, type := 25, pos := "law.go:125", after := #[{ on := 1, ground := Ground.data }], guard := none }) rfl (fun K hK => ?_) (AllReadyH.cons (o := { dst := some 7, op := Op.alloc 25, type := 0, pos := "law.go:125", after := #[], guard := none }) rfl (fun K hK => ?_) AllReadyH.nil))
    · (go_simp; (go_at_call 28; (refine (St.call h20 (flip_any (sub4 G 1) _)).mono ?_); rintro e V1r3 ⟨rfl, h21r3⟩))
      refine hK.out _ _ ?_ (fun hHeld => ?_)
      · (first | exact h21r3 | exact h21r3.tl)
      clear hK K
      try simp only [Act.put, List.setIfInBounds_toArray, List.set_cons_zero, List.set_cons_succ]
      refine wpAnyH_ready (rs := [5, 13]) (by kernel_rfl) (by simp) (AllReadyH.cons (o := { dst := some 25, op := Op.call { callee := Callee.value (Operand.func 28), args := #[Operand.tmp 24], argTypes := #[25] }, type := 25, pos := "law.go:125", after := #[{ on := 4, ground := Ground.data }, { on := 2, ground := Ground.chain }], guard := none }) rfl (fun K hK => ?_) (AllReadyH.cons (o := { dst := some 7, op := Op.alloc 25, type := 0, pos := "law.go:125", after := #[], guard := none }) rfl (fun K hK => ?_) AllReadyH.nil))
      · (go_simp; (go_at_call 28; (refine (St.call h21r3 (flip_any (sub4 G 0) _)).mono ?_); rintro e V2r3 ⟨rfl, h22r3⟩))
        refine hK.out _ _ ?_ (fun hHeld => ?_)
        · (first | exact h22r3 | exact h22r3.tl)
        clear hK K
        try simp only [Act.put, List.setIfInBounds_toArray, List.set_cons_zero, List.set_cons_succ]
        refine wpAnyH_ready (rs := [8, 13]) (by kernel_rfl) (by simp) (AllReadyH.cons (o := { dst := some 28, op := Op.call { callee := Callee.value (Operand.func 28), args := #[Operand.tmp 27], argTypes := #[25] }, type := 25, pos := "law.go:125", after := #[{ on := 7, ground := Ground.data }, { on := 5, ground := Ground.chain }], guard := none }) rfl (fun K hK => ?_) (AllReadyH.cons (o := { dst := some 7, op := Op.alloc 25, type := 0, pos := "law.go:125", after := #[], guard := none }) rfl (fun K hK => ?_) AllReadyH.nil))
        · (go_simp; (go_at_call 28; (refine (St.call h22r3 (flip_any (sub4 G 3) _)).mono ?_); rintro e V3r3 ⟨rfl, h23r3⟩))
          refine hK.out _ _ ?_ (fun hHeld => ?_)
          · (first | exact h23r3 | exact h23r3.tl)
          clear hK K
          try simp only [Act.put, List.setIfInBounds_toArray, List.set_cons_zero, List.set_cons_succ]
          refine wpAnyH_ready (rs := [11, 13]) (by kernel_rfl) (by simp) (AllReadyH.cons (o := { dst := some 31, op := Op.call { callee := Callee.value (Operand.func 28), args := #[Operand.tmp 30], argTypes := #[25] }, type := 25, pos := "law.go:125", after := #[{ on := 10, ground := Ground.data }, { on := 8, ground := Ground.chain }], guard := none }) rfl (fun K hK => ?_) (AllReadyH.cons (o := { dst := some 7, op := Op.alloc 25, type := 0, pos := "law.go:125", after := #[], guard := none }) rfl (fun K hK => ?_) AllReadyH.nil))
          · (go_simp; (go_at_call 28; (refine (St.call h23r3 (flip_any (sub4 G 2) _)).mono ?_); rintro e V4r3 ⟨rfl, h24r3⟩))
            refine hK.out _ _ ?_ (fun hHeld => ?_)
            · (first | exact h24r3 | exact h24r3.tl)
            clear hK K
            try simp only [Act.put, List.setIfInBounds_toArray, List.set_cons_zero, List.set_cons_succ]
            refine wpAnyH_ready (rs := [12, 13]) (by kernel_rfl) (by simp) (AllReadyH.cons (o := { dst := some 32, op := Op.call { callee := Callee.value (Operand.func 32), args := #[Operand.tmp 22, Operand.tmp 25, Operand.tmp 28, Operand.tmp 31], argTypes := #[25, 25, 25, 25] }, type := 25, pos := "law.go:125", after := #[{ on := 2, ground := Ground.data }, { on := 5, ground := Ground.data }, { on := 8, ground := Ground.data }, { on := 11, ground := Ground.data }, { on := 11, ground := Ground.chain }], guard := none }) rfl (fun K hK => ?_) (AllReadyH.cons (o := { dst := some 7, op := Op.alloc 25, type := 0, pos := "law.go:125", after := #[], guard := none }) rfl (fun K hK => ?_) AllReadyH.nil))
            · (go_simp; (go_at_call 32; (refine (St.call h24r3 (halve_any (fun i => sub4 G 1 (flipI i)) (fun i => sub4 G 0 (flipI i)) (fun i => sub4 G 3 (flipI i)) (fun i => sub4 G 2 (flipI i)) _ HPF.out)).mono ?_); rintro e V5r3 ⟨rfl, h25r3⟩))
              refine hK.out _ _ ?_ (fun hHeld => ?_)
              · (first | exact h25r3 | exact h25r3.tl)
              clear hK K
              try simp only [Act.put, List.setIfInBounds_toArray, List.set_cons_zero, List.set_cons_succ]
              refine wpAnyH_ready (rs := [13]) (by kernel_rfl) (by simp) (AllReadyH.cons (o := { dst := some 7, op := Op.alloc 25, type := 0, pos := "law.go:125", after := #[], guard := none }) rfl (fun K hK => ?_) AllReadyH.nil)
              have hne3 := h25r3.ne
              have hle3 := h25r3.below.size
              have h26r3 := h25r3.alloc (tob z0)
              refine wp_alloc_of 25 rfl _ (zero_tile _) ?_
              refine hK.out _ _ ?_ (fun hHeld => ?_)
              · (first | exact h26r3 | exact h26r3.tl)
              clear hK K
              try simp only [Act.put, List.setIfInBounds_toArray, List.set_cons_zero, List.set_cons_succ]
              refine wpAnyH_ready (rs := [14]) (by kernel_rfl) (by simp) (AllReadyH.cons (o := { dst := none, op := Op.store 25 (Operand.tmp 7) (Operand.tmp 32), type := 0, pos := "law.go:125", after := #[{ on := 13, ground := Ground.data }, { on := 12, ground := Ground.data }, { on := 12, ground := Ground.chain }, { on := 0, ground := Ground.phase }, { on := 1, ground := Ground.phase }, { on := 2, ground := Ground.phase }, { on := 3, ground := Ground.phase }, { on := 4, ground := Ground.phase }, { on := 5, ground := Ground.phase }, { on := 6, ground := Ground.phase }, { on := 7, ground := Ground.phase }, { on := 8, ground := Ground.phase }, { on := 9, ground := Ground.phase }, { on := 10, ground := Ground.phase }, { on := 11, ground := Ground.phase }, { on := 12, ground := Ground.phase }, { on := 13, ground := Ground.phase }], guard := none }) rfl (fun K hK => ?_) AllReadyH.nil)
              have h27r3 := h26r3.newT (fun i => m4 (four (sqG (fun i => sub4 G 1 (flipI i)) (fun i => sub4 G 0 (flipI i)) (fun i => sub4 G 3 (flipI i)) (fun i => sub4 G 2 (flipI i))) i)) hle3 hne3
              refine wp_store_of 25 _ _ rfl (store_tile _ z0 (fun i => m4 (four (sqG (fun i => sub4 G 1 (flipI i)) (fun i => sub4 G 0 (flipI i)) (fun i => sub4 G 3 (flipI i)) (fun i => sub4 G 2 (flipI i))) i)) _ h26r3.hd) ?_
              refine hK.out _ _ ?_ (fun hHeld => ?_)
              · (first | exact h27r3 | exact h27r3.tl)
              clear hK K
              try simp only [Act.put]
              refine wpAnyH_done (by kernel_rfl) ?_ _
              go_wp2_with fail
              go_meet
              case rel => exact ⟨_, rfl, h27r3⟩
            · have hne3 := h24r3.ne
              have hle3 := h24r3.below.size
              have h28r3 := h24r3.alloc (tob z0)
              refine wp_alloc_of 25 rfl _ (zero_tile _) ?_
              refine hK.out _ _ ?_ (fun hHeld => ?_)
              · (first | exact h28r3 | exact h28r3.tl)
              clear hK K
              try simp only [Act.put, List.setIfInBounds_toArray, List.set_cons_zero, List.set_cons_succ]
              refine wpAnyH_ready (rs := [12]) (by kernel_rfl) (by simp) (AllReadyH.cons (o := { dst := some 32, op := Op.call { callee := Callee.value (Operand.func 32), args := #[Operand.tmp 22, Operand.tmp 25, Operand.tmp 28, Operand.tmp 31], argTypes := #[25, 25, 25, 25] }, type := 25, pos := "law.go:125", after := #[{ on := 2, ground := Ground.data }, { on := 5, ground := Ground.data }, { on := 8, ground := Ground.data }, { on := 11, ground := Ground.data }, { on := 11, ground := Ground.chain }], guard := none }) rfl (fun K hK => ?_) AllReadyH.nil)
              (go_simp; (go_at_call 32; (refine (St.call h28r3 (halve_any (fun i => sub4 G 1 (flipI i)) (fun i => sub4 G 0 (flipI i)) (fun i => sub4 G 3 (flipI i)) (fun i => sub4 G 2 (flipI i)) _ HPF.out)).mono ?_); rintro e V9r3 ⟨rfl, h29r3⟩))
              refine hK.out _ _ ?_ (fun hHeld => ?_)
              · (first | exact h29r3 | exact h29r3.tl)
              clear hK K
              try simp only [Act.put, List.setIfInBounds_toArray, List.set_cons_zero, List.set_cons_succ]
              refine wpAnyH_ready (rs := [14]) (by kernel_rfl) (by simp) (AllReadyH.cons (o := { dst := none, op := Op.store 25 (Operand.tmp 7) (Operand.tmp 32), type := 0, pos := "law.go:125", after := #[{ on := 13, ground := Ground.data }, { on := 12, ground := Ground.data }, { on := 12, ground := Ground.chain }, { on := 0, ground := Ground.phase }, { on := 1, ground := Ground.phase }, { on := 2, ground := Ground.phase }, { on := 3, ground := Ground.phase }, { on := 4, ground := Ground.phase }, { on := 5, ground := Ground.phase }, { on := 6, ground := Ground.phase }, { on := 7, ground := Ground.phase }, { on := 8, ground := Ground.phase }, { on := 9, ground := Ground.phase }, { on := 10, ground := Ground.phase }, { on := 11, ground := Ground.phase }, { on := 12, ground := Ground.phase }, { on := 13, ground := Ground.phase }], guard := none }) rfl (fun K hK => ?_) AllReadyH.nil)
              have h210r3 := h29r3.newT (fun i => m4 (four (sqG (fun i => sub4 G 1 (flipI i)) (fun i => sub4 G 0 (flipI i)) (fun i => sub4 G 3 (flipI i)) (fun i => sub4 G 2 (flipI i))) i)) hle3 hne3
              refine wp_store_of 25 _ _ rfl (store_tile _ z0 (fun i => m4 (four (sqG (fun i => sub4 G 1 (flipI i)) (fun i => sub4 G 0 (flipI i)) (fun i => sub4 G 3 (flipI i)) (fun i => sub4 G 2 (flipI i))) i)) _ h29r3.hd) ?_
              refine hK.out _ _ ?_ (fun hHeld => ?_)
              · (first | exact h210r3 | exact h210r3.tl)
              clear hK K
              try simp only [Act.put]
              refine wpAnyH_done (by kernel_rfl) ?_ _
              go_wp2_with fail
              go_meet
              case rel => exact ⟨_, rfl, h210r3⟩
          · have hne3 := h23r3.ne
            have hle3 := h23r3.below.size
            have h211r3 := h23r3.alloc (tob z0)
            refine wp_alloc_of 25 rfl _ (zero_tile _) ?_
            refine hK.out _ _ ?_ (fun hHeld => ?_)
            · (first | exact h211r3 | exact h211r3.tl)
            clear hK K
            try simp only [Act.put, List.setIfInBounds_toArray, List.set_cons_zero, List.set_cons_succ]
            refine wpAnyH_ready (rs := [11]) (by kernel_rfl) (by simp) (AllReadyH.cons (o := { dst := some 31, op := Op.call { callee := Callee.value (Operand.func 28), args := #[Operand.tmp 30], argTypes := #[25] }, type := 25, pos := "law.go:125", after := #[{ on := 10, ground := Ground.data }, { on := 8, ground := Ground.chain }], guard := none }) rfl (fun K hK => ?_) AllReadyH.nil)
            (go_simp; (go_at_call 28; (refine (St.call h211r3 (flip_any (sub4 G 2) _)).mono ?_); rintro e V12r3 ⟨rfl, h212r3⟩))
            refine hK.out _ _ ?_ (fun hHeld => ?_)
            · (first | exact h212r3 | exact h212r3.tl)
            clear hK K
            try simp only [Act.put, List.setIfInBounds_toArray, List.set_cons_zero, List.set_cons_succ]
            refine wpAnyH_ready (rs := [12]) (by kernel_rfl) (by simp) (AllReadyH.cons (o := { dst := some 32, op := Op.call { callee := Callee.value (Operand.func 32), args := #[Operand.tmp 22, Operand.tmp 25, Operand.tmp 28, Operand.tmp 31], argTypes := #[25, 25, 25, 25] }, type := 25, pos := "law.go:125", after := #[{ on := 2, ground := Ground.data }, { on := 5, ground := Ground.data }, { on := 8, ground := Ground.data }, { on := 11, ground := Ground.data }, { on := 11, ground := Ground.chain }], guard := none }) rfl (fun K hK => ?_) AllReadyH.nil)
            (go_simp; (go_at_call 32; (refine (St.call h212r3 (halve_any (fun i => sub4 G 1 (flipI i)) (fun i => sub4 G 0 (flipI i)) (fun i => sub4 G 3 (flipI i)) (fun i => sub4 G 2 (flipI i)) _ HPF.out)).mono ?_); rintro e V13r3 ⟨rfl, h213r3⟩))
            refine hK.out _ _ ?_ (fun hHeld => ?_)
            · (first | exact h213r3 | exact h213r3.tl)
            clear hK K
            try simp only [Act.put, List.setIfInBounds_toArray, List.set_cons_zero, List.set_cons_succ]
            refine wpAnyH_ready (rs := [14]) (by kernel_rfl) (by simp) (AllReadyH.cons (o := { dst := none, op := Op.store 25 (Operand.tmp 7) (Operand.tmp 32), type := 0, pos := "law.go:125", after := #[{ on := 13, ground := Ground.data }, { on := 12, ground := Ground.data }, { on := 12, ground := Ground.chain }, { on := 0, ground := Ground.phase }, { on := 1, ground := Ground.phase }, { on := 2, ground := Ground.phase }, { on := 3, ground := Ground.phase }, { on := 4, ground := Ground.phase }, { on := 5, ground := Ground.phase }, { on := 6, ground := Ground.phase }, { on := 7, ground := Ground.phase }, { on := 8, ground := Ground.phase }, { on := 9, ground := Ground.phase }, { on := 10, ground := Ground.phase }, { on := 11, ground := Ground.phase }, { on := 12, ground := Ground.phase }, { on := 13, ground := Ground.phase }], guard := none }) rfl (fun K hK => ?_) AllReadyH.nil)
            have h214r3 := h213r3.newT (fun i => m4 (four (sqG (fun i => sub4 G 1 (flipI i)) (fun i => sub4 G 0 (flipI i)) (fun i => sub4 G 3 (flipI i)) (fun i => sub4 G 2 (flipI i))) i)) hle3 hne3
            refine wp_store_of 25 _ _ rfl (store_tile _ z0 (fun i => m4 (four (sqG (fun i => sub4 G 1 (flipI i)) (fun i => sub4 G 0 (flipI i)) (fun i => sub4 G 3 (flipI i)) (fun i => sub4 G 2 (flipI i))) i)) _ h213r3.hd) ?_
            refine hK.out _ _ ?_ (fun hHeld => ?_)
            · (first | exact h214r3 | exact h214r3.tl)
            clear hK K
            try simp only [Act.put]
            refine wpAnyH_done (by kernel_rfl) ?_ _
            go_wp2_with fail
            go_meet
            case rel => exact ⟨_, rfl, h214r3⟩
        · have hne3 := h22r3.ne
          have hle3 := h22r3.below.size
          have h215r3 := h22r3.alloc (tob z0)
          refine wp_alloc_of 25 rfl _ (zero_tile _) ?_
          refine hK.out _ _ ?_ (fun hHeld => ?_)
          · (first | exact h215r3 | exact h215r3.tl)
          clear hK K
          try simp only [Act.put, List.setIfInBounds_toArray, List.set_cons_zero, List.set_cons_succ]
          refine wpAnyH_ready (rs := [8]) (by kernel_rfl) (by simp) (AllReadyH.cons (o := { dst := some 28, op := Op.call { callee := Callee.value (Operand.func 28), args := #[Operand.tmp 27], argTypes := #[25] }, type := 25, pos := "law.go:125", after := #[{ on := 7, ground := Ground.data }, { on := 5, ground := Ground.chain }], guard := none }) rfl (fun K hK => ?_) AllReadyH.nil)
          (go_simp; (go_at_call 28; (refine (St.call h215r3 (flip_any (sub4 G 3) _)).mono ?_); rintro e V16r3 ⟨rfl, h216r3⟩))
          refine hK.out _ _ ?_ (fun hHeld => ?_)
          · (first | exact h216r3 | exact h216r3.tl)
          clear hK K
          try simp only [Act.put, List.setIfInBounds_toArray, List.set_cons_zero, List.set_cons_succ]
          refine wpAnyH_ready (rs := [11]) (by kernel_rfl) (by simp) (AllReadyH.cons (o := { dst := some 31, op := Op.call { callee := Callee.value (Operand.func 28), args := #[Operand.tmp 30], argTypes := #[25] }, type := 25, pos := "law.go:125", after := #[{ on := 10, ground := Ground.data }, { on := 8, ground := Ground.chain }], guard := none }) rfl (fun K hK => ?_) AllReadyH.nil)
          (go_simp; (go_at_call 28; (refine (St.call h216r3 (flip_any (sub4 G 2) _)).mono ?_); rintro e V17r3 ⟨rfl, h217r3⟩))
          refine hK.out _ _ ?_ (fun hHeld => ?_)
          · (first | exact h217r3 | exact h217r3.tl)
          clear hK K
          try simp only [Act.put, List.setIfInBounds_toArray, List.set_cons_zero, List.set_cons_succ]
          refine wpAnyH_ready (rs := [12]) (by kernel_rfl) (by simp) (AllReadyH.cons (o := { dst := some 32, op := Op.call { callee := Callee.value (Operand.func 32), args := #[Operand.tmp 22, Operand.tmp 25, Operand.tmp 28, Operand.tmp 31], argTypes := #[25, 25, 25, 25] }, type := 25, pos := "law.go:125", after := #[{ on := 2, ground := Ground.data }, { on := 5, ground := Ground.data }, { on := 8, ground := Ground.data }, { on := 11, ground := Ground.data }, { on := 11, ground := Ground.chain }], guard := none }) rfl (fun K hK => ?_) AllReadyH.nil)
          (go_simp; (go_at_call 32; (refine (St.call h217r3 (halve_any (fun i => sub4 G 1 (flipI i)) (fun i => sub4 G 0 (flipI i)) (fun i => sub4 G 3 (flipI i)) (fun i => sub4 G 2 (flipI i)) _ HPF.out)).mono ?_); rintro e V18r3 ⟨rfl, h218r3⟩))
          refine hK.out _ _ ?_ (fun hHeld => ?_)
          · (first | exact h218r3 | exact h218r3.tl)
          clear hK K
          try simp only [Act.put, List.setIfInBounds_toArray, List.set_cons_zero, List.set_cons_succ]
          refine wpAnyH_ready (rs := [14]) (by kernel_rfl) (by simp) (AllReadyH.cons (o := { dst := none, op := Op.store 25 (Operand.tmp 7) (Operand.tmp 32), type := 0, pos := "law.go:125", after := #[{ on := 13, ground := Ground.data }, { on := 12, ground := Ground.data }, { on := 12, ground := Ground.chain }, { on := 0, ground := Ground.phase }, { on := 1, ground := Ground.phase }, { on := 2, ground := Ground.phase }, { on := 3, ground := Ground.phase }, { on := 4, ground := Ground.phase }, { on := 5, ground := Ground.phase }, { on := 6, ground := Ground.phase }, { on := 7, ground := Ground.phase }, { on := 8, ground := Ground.phase }, { on := 9, ground := Ground.phase }, { on := 10, ground := Ground.phase }, { on := 11, ground := Ground.phase }, { on := 12, ground := Ground.phase }, { on := 13, ground := Ground.phase }], guard := none }) rfl (fun K hK => ?_) AllReadyH.nil)
          have h219r3 := h218r3.newT (fun i => m4 (four (sqG (fun i => sub4 G 1 (flipI i)) (fun i => sub4 G 0 (flipI i)) (fun i => sub4 G 3 (flipI i)) (fun i => sub4 G 2 (flipI i))) i)) hle3 hne3
          refine wp_store_of 25 _ _ rfl (store_tile _ z0 (fun i => m4 (four (sqG (fun i => sub4 G 1 (flipI i)) (fun i => sub4 G 0 (flipI i)) (fun i => sub4 G 3 (flipI i)) (fun i => sub4 G 2 (flipI i))) i)) _ h218r3.hd) ?_
          refine hK.out _ _ ?_ (fun hHeld => ?_)
          · (first | exact h219r3 | exact h219r3.tl)
          clear hK K
          try simp only [Act.put]
          refine wpAnyH_done (by kernel_rfl) ?_ _
          go_wp2_with fail
          go_meet
          case rel => exact ⟨_, rfl, h219r3⟩
      · have hne3 := h21r3.ne
        have hle3 := h21r3.below.size
        have h220r3 := h21r3.alloc (tob z0)
        refine wp_alloc_of 25 rfl _ (zero_tile _) ?_
        refine hK.out _ _ ?_ (fun hHeld => ?_)
        · (first | exact h220r3 | exact h220r3.tl)
        clear hK K
        try simp only [Act.put, List.setIfInBounds_toArray, List.set_cons_zero, List.set_cons_succ]
        refine wpAnyH_ready (rs := [5]) (by kernel_rfl) (by simp) (AllReadyH.cons (o := { dst := some 25, op := Op.call { callee := Callee.value (Operand.func 28), args := #[Operand.tmp 24], argTypes := #[25] }, type := 25, pos := "law.go:125", after := #[{ on := 4, ground := Ground.data }, { on := 2, ground := Ground.chain }], guard := none }) rfl (fun K hK => ?_) AllReadyH.nil)
        (go_simp; (go_at_call 28; (refine (St.call h220r3 (flip_any (sub4 G 0) _)).mono ?_); rintro e V21r3 ⟨rfl, h221r3⟩))
        refine hK.out _ _ ?_ (fun hHeld => ?_)
        · (first | exact h221r3 | exact h221r3.tl)
        clear hK K
        try simp only [Act.put, List.setIfInBounds_toArray, List.set_cons_zero, List.set_cons_succ]
        refine wpAnyH_ready (rs := [8]) (by kernel_rfl) (by simp) (AllReadyH.cons (o := { dst := some 28, op := Op.call { callee := Callee.value (Operand.func 28), args := #[Operand.tmp 27], argTypes := #[25] }, type := 25, pos := "law.go:125", after := #[{ on := 7, ground := Ground.data }, { on := 5, ground := Ground.chain }], guard := none }) rfl (fun K hK => ?_) AllReadyH.nil)
        (go_simp; (go_at_call 28; (refine (St.call h221r3 (flip_any (sub4 G 3) _)).mono ?_); rintro e V22r3 ⟨rfl, h222r3⟩))
        refine hK.out _ _ ?_ (fun hHeld => ?_)
        · (first | exact h222r3 | exact h222r3.tl)
        clear hK K
        try simp only [Act.put, List.setIfInBounds_toArray, List.set_cons_zero, List.set_cons_succ]
        refine wpAnyH_ready (rs := [11]) (by kernel_rfl) (by simp) (AllReadyH.cons (o := { dst := some 31, op := Op.call { callee := Callee.value (Operand.func 28), args := #[Operand.tmp 30], argTypes := #[25] }, type := 25, pos := "law.go:125", after := #[{ on := 10, ground := Ground.data }, { on := 8, ground := Ground.chain }], guard := none }) rfl (fun K hK => ?_) AllReadyH.nil)
        (go_simp; (go_at_call 28; (refine (St.call h222r3 (flip_any (sub4 G 2) _)).mono ?_); rintro e V23r3 ⟨rfl, h223r3⟩))
        refine hK.out _ _ ?_ (fun hHeld => ?_)
        · (first | exact h223r3 | exact h223r3.tl)
        clear hK K
        try simp only [Act.put, List.setIfInBounds_toArray, List.set_cons_zero, List.set_cons_succ]
        refine wpAnyH_ready (rs := [12]) (by kernel_rfl) (by simp) (AllReadyH.cons (o := { dst := some 32, op := Op.call { callee := Callee.value (Operand.func 32), args := #[Operand.tmp 22, Operand.tmp 25, Operand.tmp 28, Operand.tmp 31], argTypes := #[25, 25, 25, 25] }, type := 25, pos := "law.go:125", after := #[{ on := 2, ground := Ground.data }, { on := 5, ground := Ground.data }, { on := 8, ground := Ground.data }, { on := 11, ground := Ground.data }, { on := 11, ground := Ground.chain }], guard := none }) rfl (fun K hK => ?_) AllReadyH.nil)
        (go_simp; (go_at_call 32; (refine (St.call h223r3 (halve_any (fun i => sub4 G 1 (flipI i)) (fun i => sub4 G 0 (flipI i)) (fun i => sub4 G 3 (flipI i)) (fun i => sub4 G 2 (flipI i)) _ HPF.out)).mono ?_); rintro e V24r3 ⟨rfl, h224r3⟩))
        refine hK.out _ _ ?_ (fun hHeld => ?_)
        · (first | exact h224r3 | exact h224r3.tl)
        clear hK K
        try simp only [Act.put, List.setIfInBounds_toArray, List.set_cons_zero, List.set_cons_succ]
        refine wpAnyH_ready (rs := [14]) (by kernel_rfl) (by simp) (AllReadyH.cons (o := { dst := none, op := Op.store 25 (Operand.tmp 7) (Operand.tmp 32), type := 0, pos := "law.go:125", after := #[{ on := 13, ground := Ground.data }, { on := 12, ground := Ground.data }, { on := 12, ground := Ground.chain }, { on := 0, ground := Ground.phase }, { on := 1, ground := Ground.phase }, { on := 2, ground := Ground.phase }, { on := 3, ground := Ground.phase }, { on := 4, ground := Ground.phase }, { on := 5, ground := Ground.phase }, { on := 6, ground := Ground.phase }, { on := 7, ground := Ground.phase }, { on := 8, ground := Ground.phase }, { on := 9, ground := Ground.phase }, { on := 10, ground := Ground.phase }, { on := 11, ground := Ground.phase }, { on := 12, ground := Ground.phase }, { on := 13, ground := Ground.phase }], guard := none }) rfl (fun K hK => ?_) AllReadyH.nil)
        have h225r3 := h224r3.newT (fun i => m4 (four (sqG (fun i => sub4 G 1 (flipI i)) (fun i => sub4 G 0 (flipI i)) (fun i => sub4 G 3 (flipI i)) (fun i => sub4 G 2 (flipI i))) i)) hle3 hne3
        refine wp_store_of 25 _ _ rfl (store_tile _ z0 (fun i => m4 (four (sqG (fun i => sub4 G 1 (flipI i)) (fun i => sub4 G 0 (flipI i)) (fun i => sub4 G 3 (flipI i)) (fun i => sub4 G 2 (flipI i))) i)) _ h224r3.hd) ?_
        refine hK.out _ _ ?_ (fun hHeld => ?_)
        · (first | exact h225r3 | exact h225r3.tl)
        clear hK K
        try simp only [Act.put]
        refine wpAnyH_done (by kernel_rfl) ?_ _
        go_wp2_with fail
        go_meet
        case rel => exact ⟨_, rfl, h225r3⟩
    · have hne3 := h20.ne
      have hle3 := h20.below.size
      have h226r3 := h20.alloc (tob z0)
      refine wp_alloc_of 25 rfl _ (zero_tile _) ?_
      refine hK.out _ _ ?_ (fun hHeld => ?_)
      · (first | exact h226r3 | exact h226r3.tl)
      clear hK K
      try simp only [Act.put, List.setIfInBounds_toArray, List.set_cons_zero, List.set_cons_succ]
      refine wpAnyH_ready (rs := [2]) (by kernel_rfl) (by simp) (AllReadyH.cons (o := { dst := some 22, op := Op.call { callee := Callee.value (Operand.func 28), args := #[Operand.tmp 21], argTypes := #[25] }, type := 25, pos := "law.go:125", after := #[{ on := 1, ground := Ground.data }], guard := none }) rfl (fun K hK => ?_) AllReadyH.nil)
      (go_simp; (go_at_call 28; (refine (St.call h226r3 (flip_any (sub4 G 1) _)).mono ?_); rintro e V27r3 ⟨rfl, h227r3⟩))
      refine hK.out _ _ ?_ (fun hHeld => ?_)
      · (first | exact h227r3 | exact h227r3.tl)
      clear hK K
      try simp only [Act.put, List.setIfInBounds_toArray, List.set_cons_zero, List.set_cons_succ]
      refine wpAnyH_ready (rs := [5]) (by kernel_rfl) (by simp) (AllReadyH.cons (o := { dst := some 25, op := Op.call { callee := Callee.value (Operand.func 28), args := #[Operand.tmp 24], argTypes := #[25] }, type := 25, pos := "law.go:125", after := #[{ on := 4, ground := Ground.data }, { on := 2, ground := Ground.chain }], guard := none }) rfl (fun K hK => ?_) AllReadyH.nil)
      (go_simp; (go_at_call 28; (refine (St.call h227r3 (flip_any (sub4 G 0) _)).mono ?_); rintro e V28r3 ⟨rfl, h228r3⟩))
      refine hK.out _ _ ?_ (fun hHeld => ?_)
      · (first | exact h228r3 | exact h228r3.tl)
      clear hK K
      try simp only [Act.put, List.setIfInBounds_toArray, List.set_cons_zero, List.set_cons_succ]
      refine wpAnyH_ready (rs := [8]) (by kernel_rfl) (by simp) (AllReadyH.cons (o := { dst := some 28, op := Op.call { callee := Callee.value (Operand.func 28), args := #[Operand.tmp 27], argTypes := #[25] }, type := 25, pos := "law.go:125", after := #[{ on := 7, ground := Ground.data }, { on := 5, ground := Ground.chain }], guard := none }) rfl (fun K hK => ?_) AllReadyH.nil)
      (go_simp; (go_at_call 28; (refine (St.call h228r3 (flip_any (sub4 G 3) _)).mono ?_); rintro e V29r3 ⟨rfl, h229r3⟩))
      refine hK.out _ _ ?_ (fun hHeld => ?_)
      · (first | exact h229r3 | exact h229r3.tl)
      clear hK K
      try simp only [Act.put, List.setIfInBounds_toArray, List.set_cons_zero, List.set_cons_succ]
      refine wpAnyH_ready (rs := [11]) (by kernel_rfl) (by simp) (AllReadyH.cons (o := { dst := some 31, op := Op.call { callee := Callee.value (Operand.func 28), args := #[Operand.tmp 30], argTypes := #[25] }, type := 25, pos := "law.go:125", after := #[{ on := 10, ground := Ground.data }, { on := 8, ground := Ground.chain }], guard := none }) rfl (fun K hK => ?_) AllReadyH.nil)
      (go_simp; (go_at_call 28; (refine (St.call h229r3 (flip_any (sub4 G 2) _)).mono ?_); rintro e V30r3 ⟨rfl, h230r3⟩))
      refine hK.out _ _ ?_ (fun hHeld => ?_)
      · (first | exact h230r3 | exact h230r3.tl)
      clear hK K
      try simp only [Act.put, List.setIfInBounds_toArray, List.set_cons_zero, List.set_cons_succ]
      refine wpAnyH_ready (rs := [12]) (by kernel_rfl) (by simp) (AllReadyH.cons (o := { dst := some 32, op := Op.call { callee := Callee.value (Operand.func 32), args := #[Operand.tmp 22, Operand.tmp 25, Operand.tmp 28, Operand.tmp 31], argTypes := #[25, 25, 25, 25] }, type := 25, pos := "law.go:125", after := #[{ on := 2, ground := Ground.data }, { on := 5, ground := Ground.data }, { on := 8, ground := Ground.data }, { on := 11, ground := Ground.data }, { on := 11, ground := Ground.chain }], guard := none }) rfl (fun K hK => ?_) AllReadyH.nil)
      (go_simp; (go_at_call 32; (refine (St.call h230r3 (halve_any (fun i => sub4 G 1 (flipI i)) (fun i => sub4 G 0 (flipI i)) (fun i => sub4 G 3 (flipI i)) (fun i => sub4 G 2 (flipI i)) _ HPF.out)).mono ?_); rintro e V31r3 ⟨rfl, h231r3⟩))
      refine hK.out _ _ ?_ (fun hHeld => ?_)
      · (first | exact h231r3 | exact h231r3.tl)
      clear hK K
      try simp only [Act.put, List.setIfInBounds_toArray, List.set_cons_zero, List.set_cons_succ]
      refine wpAnyH_ready (rs := [14]) (by kernel_rfl) (by simp) (AllReadyH.cons (o := { dst := none, op := Op.store 25 (Operand.tmp 7) (Operand.tmp 32), type := 0, pos := "law.go:125", after := #[{ on := 13, ground := Ground.data }, { on := 12, ground := Ground.data }, { on := 12, ground := Ground.chain }, { on := 0, ground := Ground.phase }, { on := 1, ground := Ground.phase }, { on := 2, ground := Ground.phase }, { on := 3, ground := Ground.phase }, { on := 4, ground := Ground.phase }, { on := 5, ground := Ground.phase }, { on := 6, ground := Ground.phase }, { on := 7, ground := Ground.phase }, { on := 8, ground := Ground.phase }, { on := 9, ground := Ground.phase }, { on := 10, ground := Ground.phase }, { on := 11, ground := Ground.phase }, { on := 12, ground := Ground.phase }, { on := 13, ground := Ground.phase }], guard := none }) rfl (fun K hK => ?_) AllReadyH.nil)
      have h232r3 := h231r3.newT (fun i => m4 (four (sqG (fun i => sub4 G 1 (flipI i)) (fun i => sub4 G 0 (flipI i)) (fun i => sub4 G 3 (flipI i)) (fun i => sub4 G 2 (flipI i))) i)) hle3 hne3
      refine wp_store_of 25 _ _ rfl (store_tile _ z0 (fun i => m4 (four (sqG (fun i => sub4 G 1 (flipI i)) (fun i => sub4 G 0 (flipI i)) (fun i => sub4 G 3 (flipI i)) (fun i => sub4 G 2 (flipI i))) i)) _ h231r3.hd) ?_
      refine hK.out _ _ ?_ (fun hHeld => ?_)
      · (first | exact h232r3 | exact h232r3.tl)
      clear hK K
      try simp only [Act.put]
      refine wpAnyH_done (by kernel_rfl) ?_ _
      go_wp2_with fail
      go_meet
      case rel => exact ⟨_, rfl, h232r3⟩
  case rest =>
    obtain ⟨b3, rfl, h3⟩ := hcut
    clear h2
    go_upto_region 4 with fail
    go_cut [8] (fun v wx => ∃ b4, v = ptrB b4 ∧ St w ((b4, tob (fun i => m4 (four (sqG (fun i => sub4 G 2 (turnI i)) (fun i => sub4 G 0 (turnI i)) (fun i => sub4 G 3 (turnI i)) (fun i => sub4 G 1 (turnI i))) i))) :: ((b3, tob (fun i => m4 (four (sqG (fun i => sub4 G 1 (flipI i)) (fun i => sub4 G 0 (flipI i)) (fun i => sub4 G 3 (flipI i)) (fun i => sub4 G 2 (flipI i))) i))) :: ((b2, tob (fun i => m4 (four (sqG (sub4 G 0) (sub4 G 1) (sub4 G 2) (sub4 G 3)) i))) :: [(w.heap.size + 1, pxo p), (w.heap.size, sq4 G)]))) wx)
    case first =>
      refine wp_region_held_drew (S := fun V9 => St w ((b3, tob (fun i => m4 (four (sqG (fun i => sub4 G 1 (flipI i)) (fun i => sub4 G 0 (flipI i)) (fun i => sub4 G 3 (flipI i)) (fun i => sub4 G 2 (flipI i))) i))) :: ((b2, tob (fun i => m4 (four (sqG (sub4 G 0) (sub4 G 1) (sub4 G 2) (sub4 G 3)) i))) :: [(w.heap.size + 1, pxo p), (w.heap.size, sq4 G)])) V9) (by kernel_rfl) ?_ (fun hHeld => ?_)
      · exact h3.drew
      have h30 := h3.drew
      refine wpAnyH_take (i := 0) (oi := { dst := some 33, op := Op.indexAddr 43 (Operand.tmp 2) (Operand.const (Value.int IntKind.i64 2)), type := 0, pos := "law.go:126", after := #[], guard := none }) (v := ?_) rfl (by kernel_rfl) (by kernel_rfl) (by kernel_rfl) (fun _ _ _ h => h) (Or.inl ⟨by kernel_rfl, ?_⟩) (by assumption) ?_
      rotate_left 1
      focus (intro w hSw; (try dsimp only at hSw); go_simp; (try with_reducible rfl))
      try simp only [Act.put, List.setIfInBounds_toArray, List.set_cons_zero, List.set_cons_succ]
      refine wpAnyH_take (i := 1) (oi := { dst := some 34, op := Op.load 25 (Operand.tmp 33), type := 25, pos := "law.go:126", after := #[{ on := 0, ground := Ground.data }], guard := none }) rfl (by kernel_rfl) (by kernel_rfl) (by kernel_rfl) (fun _ _ _ h => h) (yields_load (by kernel_rfl) 25 (.tmp 33) rfl (tv (sub4 G 2)) (fun V hV => load_tmid (w.heap.size) 2 G V (by omega) (hV.row (b := w.heap.size) (o := sq4 G) (by simp)))) (by assumption) ?_
      try simp only [Act.put, List.setIfInBounds_toArray, List.set_cons_zero, List.set_cons_succ]
      refine wpAnyH_take (i := 3) (oi := { dst := some 36, op := Op.indexAddr 43 (Operand.tmp 2) (Operand.const (Value.int IntKind.i64 0)), type := 0, pos := "law.go:126", after := #[], guard := none }) (v := ?_) rfl (by kernel_rfl) (by kernel_rfl) (by kernel_rfl) (fun _ _ _ h => h) (Or.inl ⟨by kernel_rfl, ?_⟩) (by assumption) ?_
      rotate_left 1
      focus (intro w hSw; (try dsimp only at hSw); go_simp; (try with_reducible rfl))
      try simp only [Act.put, List.setIfInBounds_toArray, List.set_cons_zero, List.set_cons_succ]
      refine wpAnyH_take (i := 4) (oi := { dst := some 37, op := Op.load 25 (Operand.tmp 36), type := 25, pos := "law.go:126", after := #[{ on := 3, ground := Ground.data }], guard := none }) rfl (by kernel_rfl) (by kernel_rfl) (by kernel_rfl) (fun _ _ _ h => h) (yields_load (by kernel_rfl) 25 (.tmp 36) rfl (tv (sub4 G 0)) (fun V hV => load_tmid (w.heap.size) 0 G V (by omega) (hV.row (b := w.heap.size) (o := sq4 G) (by simp)))) (by assumption) ?_
      try simp only [Act.put, List.setIfInBounds_toArray, List.set_cons_zero, List.set_cons_succ]
      refine wpAnyH_take (i := 6) (oi := { dst := some 39, op := Op.indexAddr 43 (Operand.tmp 2) (Operand.const (Value.int IntKind.i64 3)), type := 0, pos := "law.go:126", after := #[], guard := none }) (v := ?_) rfl (by kernel_rfl) (by kernel_rfl) (by kernel_rfl) (fun _ _ _ h => h) (Or.inl ⟨by kernel_rfl, ?_⟩) (by assumption) ?_
      rotate_left 1
      focus (intro w hSw; (try dsimp only at hSw); go_simp; (try with_reducible rfl))
      try simp only [Act.put, List.setIfInBounds_toArray, List.set_cons_zero, List.set_cons_succ]
      refine wpAnyH_take (i := 7) (oi := { dst := some 40, op := Op.load 25 (Operand.tmp 39), type := 25, pos := "law.go:126", after := #[{ on := 6, ground := Ground.data }], guard := none }) rfl (by kernel_rfl) (by kernel_rfl) (by kernel_rfl) (fun _ _ _ h => h) (yields_load (by kernel_rfl) 25 (.tmp 39) rfl (tv (sub4 G 3)) (fun V hV => load_tmid (w.heap.size) 3 G V (by omega) (hV.row (b := w.heap.size) (o := sq4 G) (by simp)))) (by assumption) ?_
      try simp only [Act.put, List.setIfInBounds_toArray, List.set_cons_zero, List.set_cons_succ]
      refine wpAnyH_take (i := 9) (oi := { dst := some 42, op := Op.indexAddr 43 (Operand.tmp 2) (Operand.const (Value.int IntKind.i64 1)), type := 0, pos := "law.go:126", after := #[], guard := none }) (v := ?_) rfl (by kernel_rfl) (by kernel_rfl) (by kernel_rfl) (fun _ _ _ h => h) (Or.inl ⟨by kernel_rfl, ?_⟩) (by assumption) ?_
      rotate_left 1
      focus (intro w hSw; (try dsimp only at hSw); go_simp; (try with_reducible rfl))
      try simp only [Act.put, List.setIfInBounds_toArray, List.set_cons_zero, List.set_cons_succ]
      refine wpAnyH_take (i := 10) (oi := { dst := some 43, op := Op.load 25 (Operand.tmp 42), type := 25, pos := "law.go:126", after := #[{ on := 9, ground := Ground.data }], guard := none }) rfl (by kernel_rfl) (by kernel_rfl) (by kernel_rfl) (fun _ _ _ h => h) (yields_load (by kernel_rfl) 25 (.tmp 42) rfl (tv (sub4 G 1)) (fun V hV => load_tmid (w.heap.size) 1 G V (by omega) (hV.row (b := w.heap.size) (o := sq4 G) (by simp)))) (by assumption) ?_
      try simp only [Act.put, List.setIfInBounds_toArray, List.set_cons_zero, List.set_cons_succ]
      refine wpAnyH_ready (rs := [2, 13]) (by kernel_rfl) (by simp) (AllReadyH.cons (o := { dst := some 35, op := Op.call { callee := Callee.value (Operand.func 30), args := #[Operand.tmp 34], argTypes := #[25] }, type := 25, pos := "law.go:126", after := #[{ on := 1, ground := Ground.data }], guard := none }) rfl (fun K hK => ?_) (AllReadyH.cons (o := { dst := some 8, op := Op.alloc 25, type := 0, pos := "law.go:126", after := #[], guard := none }) rfl (fun K hK => ?_) AllReadyH.nil))
      · (go_simp; (go_at_call 30; (refine (St.call h30 (turn_any (sub4 G 2) _)).mono ?_); rintro e V1r4 ⟨rfl, h31r4⟩))
        refine hK.out _ _ ?_ (fun hHeld => ?_)
        · (first | exact h31r4 | exact h31r4.tl)
        clear hK K
        try simp only [Act.put, List.setIfInBounds_toArray, List.set_cons_zero, List.set_cons_succ]
        refine wpAnyH_ready (rs := [5, 13]) (by kernel_rfl) (by simp) (AllReadyH.cons (o := { dst := some 38, op := Op.call { callee := Callee.value (Operand.func 30), args := #[Operand.tmp 37], argTypes := #[25] }, type := 25, pos := "law.go:126", after := #[{ on := 4, ground := Ground.data }, { on := 2, ground := Ground.chain }], guard := none }) rfl (fun K hK => ?_) (AllReadyH.cons (o := { dst := some 8, op := Op.alloc 25, type := 0, pos := "law.go:126", after := #[], guard := none }) rfl (fun K hK => ?_) AllReadyH.nil))
        · (go_simp; (go_at_call 30; (refine (St.call h31r4 (turn_any (sub4 G 0) _)).mono ?_); rintro e V2r4 ⟨rfl, h32r4⟩))
          refine hK.out _ _ ?_ (fun hHeld => ?_)
          · (first | exact h32r4 | exact h32r4.tl)
          clear hK K
          try simp only [Act.put, List.setIfInBounds_toArray, List.set_cons_zero, List.set_cons_succ]
          refine wpAnyH_ready (rs := [8, 13]) (by kernel_rfl) (by simp) (AllReadyH.cons (o := { dst := some 41, op := Op.call { callee := Callee.value (Operand.func 30), args := #[Operand.tmp 40], argTypes := #[25] }, type := 25, pos := "law.go:126", after := #[{ on := 7, ground := Ground.data }, { on := 5, ground := Ground.chain }], guard := none }) rfl (fun K hK => ?_) (AllReadyH.cons (o := { dst := some 8, op := Op.alloc 25, type := 0, pos := "law.go:126", after := #[], guard := none }) rfl (fun K hK => ?_) AllReadyH.nil))
          · (go_simp; (go_at_call 30; (refine (St.call h32r4 (turn_any (sub4 G 3) _)).mono ?_); rintro e V3r4 ⟨rfl, h33r4⟩))
            refine hK.out _ _ ?_ (fun hHeld => ?_)
            · (first | exact h33r4 | exact h33r4.tl)
            clear hK K
            try simp only [Act.put, List.setIfInBounds_toArray, List.set_cons_zero, List.set_cons_succ]
            refine wpAnyH_ready (rs := [11, 13]) (by kernel_rfl) (by simp) (AllReadyH.cons (o := { dst := some 44, op := Op.call { callee := Callee.value (Operand.func 30), args := #[Operand.tmp 43], argTypes := #[25] }, type := 25, pos := "law.go:126", after := #[{ on := 10, ground := Ground.data }, { on := 8, ground := Ground.chain }], guard := none }) rfl (fun K hK => ?_) (AllReadyH.cons (o := { dst := some 8, op := Op.alloc 25, type := 0, pos := "law.go:126", after := #[], guard := none }) rfl (fun K hK => ?_) AllReadyH.nil))
            · (go_simp; (go_at_call 30; (refine (St.call h33r4 (turn_any (sub4 G 1) _)).mono ?_); rintro e V4r4 ⟨rfl, h34r4⟩))
              refine hK.out _ _ ?_ (fun hHeld => ?_)
              · (first | exact h34r4 | exact h34r4.tl)
              clear hK K
              try simp only [Act.put, List.setIfInBounds_toArray, List.set_cons_zero, List.set_cons_succ]
              refine wpAnyH_ready (rs := [12, 13]) (by kernel_rfl) (by simp) (AllReadyH.cons (o := { dst := some 45, op := Op.call { callee := Callee.value (Operand.func 32), args := #[Operand.tmp 35, Operand.tmp 38, Operand.tmp 41, Operand.tmp 44], argTypes := #[25, 25, 25, 25] }, type := 25, pos := "law.go:126", after := #[{ on := 2, ground := Ground.data }, { on := 5, ground := Ground.data }, { on := 8, ground := Ground.data }, { on := 11, ground := Ground.data }, { on := 11, ground := Ground.chain }], guard := none }) rfl (fun K hK => ?_) (AllReadyH.cons (o := { dst := some 8, op := Op.alloc 25, type := 0, pos := "law.go:126", after := #[], guard := none }) rfl (fun K hK => ?_) AllReadyH.nil))
              · (go_simp; (go_at_call 32; (refine (St.call h34r4 (halve_any (fun i => sub4 G 2 (turnI i)) (fun i => sub4 G 0 (turnI i)) (fun i => sub4 G 3 (turnI i)) (fun i => sub4 G 1 (turnI i)) _ HPT.out)).mono ?_); rintro e V5r4 ⟨rfl, h35r4⟩))
                refine hK.out _ _ ?_ (fun hHeld => ?_)
                · (first | exact h35r4 | exact h35r4.tl)
                clear hK K
                try simp only [Act.put, List.setIfInBounds_toArray, List.set_cons_zero, List.set_cons_succ]
                refine wpAnyH_ready (rs := [13]) (by kernel_rfl) (by simp) (AllReadyH.cons (o := { dst := some 8, op := Op.alloc 25, type := 0, pos := "law.go:126", after := #[], guard := none }) rfl (fun K hK => ?_) AllReadyH.nil)
                have hne4 := h35r4.ne
                have hle4 := h35r4.below.size
                have h36r4 := h35r4.alloc (tob z0)
                refine wp_alloc_of 25 rfl _ (zero_tile _) ?_
                refine hK.out _ _ ?_ (fun hHeld => ?_)
                · (first | exact h36r4 | exact h36r4.tl)
                clear hK K
                try simp only [Act.put, List.setIfInBounds_toArray, List.set_cons_zero, List.set_cons_succ]
                refine wpAnyH_ready (rs := [14]) (by kernel_rfl) (by simp) (AllReadyH.cons (o := { dst := none, op := Op.store 25 (Operand.tmp 8) (Operand.tmp 45), type := 0, pos := "law.go:126", after := #[{ on := 13, ground := Ground.data }, { on := 12, ground := Ground.data }, { on := 12, ground := Ground.chain }, { on := 0, ground := Ground.phase }, { on := 1, ground := Ground.phase }, { on := 2, ground := Ground.phase }, { on := 3, ground := Ground.phase }, { on := 4, ground := Ground.phase }, { on := 5, ground := Ground.phase }, { on := 6, ground := Ground.phase }, { on := 7, ground := Ground.phase }, { on := 8, ground := Ground.phase }, { on := 9, ground := Ground.phase }, { on := 10, ground := Ground.phase }, { on := 11, ground := Ground.phase }, { on := 12, ground := Ground.phase }, { on := 13, ground := Ground.phase }], guard := none }) rfl (fun K hK => ?_) AllReadyH.nil)
                have h37r4 := h36r4.newT (fun i => m4 (four (sqG (fun i => sub4 G 2 (turnI i)) (fun i => sub4 G 0 (turnI i)) (fun i => sub4 G 3 (turnI i)) (fun i => sub4 G 1 (turnI i))) i)) hle4 hne4
                refine wp_store_of 25 _ _ rfl (store_tile _ z0 (fun i => m4 (four (sqG (fun i => sub4 G 2 (turnI i)) (fun i => sub4 G 0 (turnI i)) (fun i => sub4 G 3 (turnI i)) (fun i => sub4 G 1 (turnI i))) i)) _ h36r4.hd) ?_
                refine hK.out _ _ ?_ (fun hHeld => ?_)
                · (first | exact h37r4 | exact h37r4.tl)
                clear hK K
                try simp only [Act.put]
                refine wpAnyH_done (by kernel_rfl) ?_ _
                go_wp2_with fail
                go_meet
                case rel => exact ⟨_, rfl, h37r4⟩
              · have hne4 := h34r4.ne
                have hle4 := h34r4.below.size
                have h38r4 := h34r4.alloc (tob z0)
                refine wp_alloc_of 25 rfl _ (zero_tile _) ?_
                refine hK.out _ _ ?_ (fun hHeld => ?_)
                · (first | exact h38r4 | exact h38r4.tl)
                clear hK K
                try simp only [Act.put, List.setIfInBounds_toArray, List.set_cons_zero, List.set_cons_succ]
                refine wpAnyH_ready (rs := [12]) (by kernel_rfl) (by simp) (AllReadyH.cons (o := { dst := some 45, op := Op.call { callee := Callee.value (Operand.func 32), args := #[Operand.tmp 35, Operand.tmp 38, Operand.tmp 41, Operand.tmp 44], argTypes := #[25, 25, 25, 25] }, type := 25, pos := "law.go:126", after := #[{ on := 2, ground := Ground.data }, { on := 5, ground := Ground.data }, { on := 8, ground := Ground.data }, { on := 11, ground := Ground.data }, { on := 11, ground := Ground.chain }], guard := none }) rfl (fun K hK => ?_) AllReadyH.nil)
                (go_simp; (go_at_call 32; (refine (St.call h38r4 (halve_any (fun i => sub4 G 2 (turnI i)) (fun i => sub4 G 0 (turnI i)) (fun i => sub4 G 3 (turnI i)) (fun i => sub4 G 1 (turnI i)) _ HPT.out)).mono ?_); rintro e V9r4 ⟨rfl, h39r4⟩))
                refine hK.out _ _ ?_ (fun hHeld => ?_)
                · (first | exact h39r4 | exact h39r4.tl)
                clear hK K
                try simp only [Act.put, List.setIfInBounds_toArray, List.set_cons_zero, List.set_cons_succ]
                refine wpAnyH_ready (rs := [14]) (by kernel_rfl) (by simp) (AllReadyH.cons (o := { dst := none, op := Op.store 25 (Operand.tmp 8) (Operand.tmp 45), type := 0, pos := "law.go:126", after := #[{ on := 13, ground := Ground.data }, { on := 12, ground := Ground.data }, { on := 12, ground := Ground.chain }, { on := 0, ground := Ground.phase }, { on := 1, ground := Ground.phase }, { on := 2, ground := Ground.phase }, { on := 3, ground := Ground.phase }, { on := 4, ground := Ground.phase }, { on := 5, ground := Ground.phase }, { on := 6, ground := Ground.phase }, { on := 7, ground := Ground.phase }, { on := 8, ground := Ground.phase }, { on := 9, ground := Ground.phase }, { on := 10, ground := Ground.phase }, { on := 11, ground := Ground.phase }, { on := 12, ground := Ground.phase }, { on := 13, ground := Ground.phase }], guard := none }) rfl (fun K hK => ?_) AllReadyH.nil)
                have h310r4 := h39r4.newT (fun i => m4 (four (sqG (fun i => sub4 G 2 (turnI i)) (fun i => sub4 G 0 (turnI i)) (fun i => sub4 G 3 (turnI i)) (fun i => sub4 G 1 (turnI i))) i)) hle4 hne4
                refine wp_store_of 25 _ _ rfl (store_tile _ z0 (fun i => m4 (four (sqG (fun i => sub4 G 2 (turnI i)) (fun i => sub4 G 0 (turnI i)) (fun i => sub4 G 3 (turnI i)) (fun i => sub4 G 1 (turnI i))) i)) _ h39r4.hd) ?_
                refine hK.out _ _ ?_ (fun hHeld => ?_)
                · (first | exact h310r4 | exact h310r4.tl)
                clear hK K
                try simp only [Act.put]
                refine wpAnyH_done (by kernel_rfl) ?_ _
                go_wp2_with fail
                go_meet
                case rel => exact ⟨_, rfl, h310r4⟩
            · have hne4 := h33r4.ne
              have hle4 := h33r4.below.size
              have h311r4 := h33r4.alloc (tob z0)
              refine wp_alloc_of 25 rfl _ (zero_tile _) ?_
              refine hK.out _ _ ?_ (fun hHeld => ?_)
              · (first | exact h311r4 | exact h311r4.tl)
              clear hK K
              try simp only [Act.put, List.setIfInBounds_toArray, List.set_cons_zero, List.set_cons_succ]
              refine wpAnyH_ready (rs := [11]) (by kernel_rfl) (by simp) (AllReadyH.cons (o := { dst := some 44, op := Op.call { callee := Callee.value (Operand.func 30), args := #[Operand.tmp 43], argTypes := #[25] }, type := 25, pos := "law.go:126", after := #[{ on := 10, ground := Ground.data }, { on := 8, ground := Ground.chain }], guard := none }) rfl (fun K hK => ?_) AllReadyH.nil)
              (go_simp; (go_at_call 30; (refine (St.call h311r4 (turn_any (sub4 G 1) _)).mono ?_); rintro e V12r4 ⟨rfl, h312r4⟩))
              refine hK.out _ _ ?_ (fun hHeld => ?_)
              · (first | exact h312r4 | exact h312r4.tl)
              clear hK K
              try simp only [Act.put, List.setIfInBounds_toArray, List.set_cons_zero, List.set_cons_succ]
              refine wpAnyH_ready (rs := [12]) (by kernel_rfl) (by simp) (AllReadyH.cons (o := { dst := some 45, op := Op.call { callee := Callee.value (Operand.func 32), args := #[Operand.tmp 35, Operand.tmp 38, Operand.tmp 41, Operand.tmp 44], argTypes := #[25, 25, 25, 25] }, type := 25, pos := "law.go:126", after := #[{ on := 2, ground := Ground.data }, { on := 5, ground := Ground.data }, { on := 8, ground := Ground.data }, { on := 11, ground := Ground.data }, { on := 11, ground := Ground.chain }], guard := none }) rfl (fun K hK => ?_) AllReadyH.nil)
              (go_simp; (go_at_call 32; (refine (St.call h312r4 (halve_any (fun i => sub4 G 2 (turnI i)) (fun i => sub4 G 0 (turnI i)) (fun i => sub4 G 3 (turnI i)) (fun i => sub4 G 1 (turnI i)) _ HPT.out)).mono ?_); rintro e V13r4 ⟨rfl, h313r4⟩))
              refine hK.out _ _ ?_ (fun hHeld => ?_)
              · (first | exact h313r4 | exact h313r4.tl)
              clear hK K
              try simp only [Act.put, List.setIfInBounds_toArray, List.set_cons_zero, List.set_cons_succ]
              refine wpAnyH_ready (rs := [14]) (by kernel_rfl) (by simp) (AllReadyH.cons (o := { dst := none, op := Op.store 25 (Operand.tmp 8) (Operand.tmp 45), type := 0, pos := "law.go:126", after := #[{ on := 13, ground := Ground.data }, { on := 12, ground := Ground.data }, { on := 12, ground := Ground.chain }, { on := 0, ground := Ground.phase }, { on := 1, ground := Ground.phase }, { on := 2, ground := Ground.phase }, { on := 3, ground := Ground.phase }, { on := 4, ground := Ground.phase }, { on := 5, ground := Ground.phase }, { on := 6, ground := Ground.phase }, { on := 7, ground := Ground.phase }, { on := 8, ground := Ground.phase }, { on := 9, ground := Ground.phase }, { on := 10, ground := Ground.phase }, { on := 11, ground := Ground.phase }, { on := 12, ground := Ground.phase }, { on := 13, ground := Ground.phase }], guard := none }) rfl (fun K hK => ?_) AllReadyH.nil)
              have h314r4 := h313r4.newT (fun i => m4 (four (sqG (fun i => sub4 G 2 (turnI i)) (fun i => sub4 G 0 (turnI i)) (fun i => sub4 G 3 (turnI i)) (fun i => sub4 G 1 (turnI i))) i)) hle4 hne4
              refine wp_store_of 25 _ _ rfl (store_tile _ z0 (fun i => m4 (four (sqG (fun i => sub4 G 2 (turnI i)) (fun i => sub4 G 0 (turnI i)) (fun i => sub4 G 3 (turnI i)) (fun i => sub4 G 1 (turnI i))) i)) _ h313r4.hd) ?_
              refine hK.out _ _ ?_ (fun hHeld => ?_)
              · (first | exact h314r4 | exact h314r4.tl)
              clear hK K
              try simp only [Act.put]
              refine wpAnyH_done (by kernel_rfl) ?_ _
              go_wp2_with fail
              go_meet
              case rel => exact ⟨_, rfl, h314r4⟩
          · have hne4 := h32r4.ne
            have hle4 := h32r4.below.size
            have h315r4 := h32r4.alloc (tob z0)
            refine wp_alloc_of 25 rfl _ (zero_tile _) ?_
            refine hK.out _ _ ?_ (fun hHeld => ?_)
            · (first | exact h315r4 | exact h315r4.tl)
            clear hK K
            try simp only [Act.put, List.setIfInBounds_toArray, List.set_cons_zero, List.set_cons_succ]
            refine wpAnyH_ready (rs := [8]) (by kernel_rfl) (by simp) (AllReadyH.cons (o := { dst := some 41, op := Op.call { callee := Callee.value (Operand.func 30), args := #[Operand.tmp 40], argTypes := #[25] }, type := 25, pos := "law.go:126", after := #[{ on := 7, ground := Ground.data }, { on := 5, ground := Ground.chain }], guard := none }) rfl (fun K hK => ?_) AllReadyH.nil)
            (go_simp; (go_at_call 30; (refine (St.call h315r4 (turn_any (sub4 G 3) _)).mono ?_); rintro e V16r4 ⟨rfl, h316r4⟩))
            refine hK.out _ _ ?_ (fun hHeld => ?_)
            · (first | exact h316r4 | exact h316r4.tl)
            clear hK K
            try simp only [Act.put, List.setIfInBounds_toArray, List.set_cons_zero, List.set_cons_succ]
            refine wpAnyH_ready (rs := [11]) (by kernel_rfl) (by simp) (AllReadyH.cons (o := { dst := some 44, op := Op.call { callee := Callee.value (Operand.func 30), args := #[Operand.tmp 43], argTypes := #[25] }, type := 25, pos := "law.go:126", after := #[{ on := 10, ground := Ground.data }, { on := 8, ground := Ground.chain }], guard := none }) rfl (fun K hK => ?_) AllReadyH.nil)
            (go_simp; (go_at_call 30; (refine (St.call h316r4 (turn_any (sub4 G 1) _)).mono ?_); rintro e V17r4 ⟨rfl, h317r4⟩))
            refine hK.out _ _ ?_ (fun hHeld => ?_)
            · (first | exact h317r4 | exact h317r4.tl)
            clear hK K
            try simp only [Act.put, List.setIfInBounds_toArray, List.set_cons_zero, List.set_cons_succ]
            refine wpAnyH_ready (rs := [12]) (by kernel_rfl) (by simp) (AllReadyH.cons (o := { dst := some 45, op := Op.call { callee := Callee.value (Operand.func 32), args := #[Operand.tmp 35, Operand.tmp 38, Operand.tmp 41, Operand.tmp 44], argTypes := #[25, 25, 25, 25] }, type := 25, pos := "law.go:126", after := #[{ on := 2, ground := Ground.data }, { on := 5, ground := Ground.data }, { on := 8, ground := Ground.data }, { on := 11, ground := Ground.data }, { on := 11, ground := Ground.chain }], guard := none }) rfl (fun K hK => ?_) AllReadyH.nil)
            (go_simp; (go_at_call 32; (refine (St.call h317r4 (halve_any (fun i => sub4 G 2 (turnI i)) (fun i => sub4 G 0 (turnI i)) (fun i => sub4 G 3 (turnI i)) (fun i => sub4 G 1 (turnI i)) _ HPT.out)).mono ?_); rintro e V18r4 ⟨rfl, h318r4⟩))
            refine hK.out _ _ ?_ (fun hHeld => ?_)
            · (first | exact h318r4 | exact h318r4.tl)
            clear hK K
            try simp only [Act.put, List.setIfInBounds_toArray, List.set_cons_zero, List.set_cons_succ]
            refine wpAnyH_ready (rs := [14]) (by kernel_rfl) (by simp) (AllReadyH.cons (o := { dst := none, op := Op.store 25 (Operand.tmp 8) (Operand.tmp 45), type := 0, pos := "law.go:126", after := #[{ on := 13, ground := Ground.data }, { on := 12, ground := Ground.data }, { on := 12, ground := Ground.chain }, { on := 0, ground := Ground.phase }, { on := 1, ground := Ground.phase }, { on := 2, ground := Ground.phase }, { on := 3, ground := Ground.phase }, { on := 4, ground := Ground.phase }, { on := 5, ground := Ground.phase }, { on := 6, ground := Ground.phase }, { on := 7, ground := Ground.phase }, { on := 8, ground := Ground.phase }, { on := 9, ground := Ground.phase }, { on := 10, ground := Ground.phase }, { on := 11, ground := Ground.phase }, { on := 12, ground := Ground.phase }, { on := 13, ground := Ground.phase }], guard := none }) rfl (fun K hK => ?_) AllReadyH.nil)
            have h319r4 := h318r4.newT (fun i => m4 (four (sqG (fun i => sub4 G 2 (turnI i)) (fun i => sub4 G 0 (turnI i)) (fun i => sub4 G 3 (turnI i)) (fun i => sub4 G 1 (turnI i))) i)) hle4 hne4
            refine wp_store_of 25 _ _ rfl (store_tile _ z0 (fun i => m4 (four (sqG (fun i => sub4 G 2 (turnI i)) (fun i => sub4 G 0 (turnI i)) (fun i => sub4 G 3 (turnI i)) (fun i => sub4 G 1 (turnI i))) i)) _ h318r4.hd) ?_
            refine hK.out _ _ ?_ (fun hHeld => ?_)
            · (first | exact h319r4 | exact h319r4.tl)
            clear hK K
            try simp only [Act.put]
            refine wpAnyH_done (by kernel_rfl) ?_ _
            go_wp2_with fail
            go_meet
            case rel => exact ⟨_, rfl, h319r4⟩
        · have hne4 := h31r4.ne
          have hle4 := h31r4.below.size
          have h320r4 := h31r4.alloc (tob z0)
          refine wp_alloc_of 25 rfl _ (zero_tile _) ?_
          refine hK.out _ _ ?_ (fun hHeld => ?_)
          · (first | exact h320r4 | exact h320r4.tl)
          clear hK K
          try simp only [Act.put, List.setIfInBounds_toArray, List.set_cons_zero, List.set_cons_succ]
          refine wpAnyH_ready (rs := [5]) (by kernel_rfl) (by simp) (AllReadyH.cons (o := { dst := some 38, op := Op.call { callee := Callee.value (Operand.func 30), args := #[Operand.tmp 37], argTypes := #[25] }, type := 25, pos := "law.go:126", after := #[{ on := 4, ground := Ground.data }, { on := 2, ground := Ground.chain }], guard := none }) rfl (fun K hK => ?_) AllReadyH.nil)
          (go_simp; (go_at_call 30; (refine (St.call h320r4 (turn_any (sub4 G 0) _)).mono ?_); rintro e V21r4 ⟨rfl, h321r4⟩))
          refine hK.out _ _ ?_ (fun hHeld => ?_)
          · (first | exact h321r4 | exact h321r4.tl)
          clear hK K
          try simp only [Act.put, List.setIfInBounds_toArray, List.set_cons_zero, List.set_cons_succ]
          refine wpAnyH_ready (rs := [8]) (by kernel_rfl) (by simp) (AllReadyH.cons (o := { dst := some 41, op := Op.call { callee := Callee.value (Operand.func 30), args := #[Operand.tmp 40], argTypes := #[25] }, type := 25, pos := "law.go:126", after := #[{ on := 7, ground := Ground.data }, { on := 5, ground := Ground.chain }], guard := none }) rfl (fun K hK => ?_) AllReadyH.nil)
          (go_simp; (go_at_call 30; (refine (St.call h321r4 (turn_any (sub4 G 3) _)).mono ?_); rintro e V22r4 ⟨rfl, h322r4⟩))
          refine hK.out _ _ ?_ (fun hHeld => ?_)
          · (first | exact h322r4 | exact h322r4.tl)
          clear hK K
          try simp only [Act.put, List.setIfInBounds_toArray, List.set_cons_zero, List.set_cons_succ]
          refine wpAnyH_ready (rs := [11]) (by kernel_rfl) (by simp) (AllReadyH.cons (o := { dst := some 44, op := Op.call { callee := Callee.value (Operand.func 30), args := #[Operand.tmp 43], argTypes := #[25] }, type := 25, pos := "law.go:126", after := #[{ on := 10, ground := Ground.data }, { on := 8, ground := Ground.chain }], guard := none }) rfl (fun K hK => ?_) AllReadyH.nil)
          (go_simp; (go_at_call 30; (refine (St.call h322r4 (turn_any (sub4 G 1) _)).mono ?_); rintro e V23r4 ⟨rfl, h323r4⟩))
          refine hK.out _ _ ?_ (fun hHeld => ?_)
          · (first | exact h323r4 | exact h323r4.tl)
          clear hK K
          try simp only [Act.put, List.setIfInBounds_toArray, List.set_cons_zero, List.set_cons_succ]
          refine wpAnyH_ready (rs := [12]) (by kernel_rfl) (by simp) (AllReadyH.cons (o := { dst := some 45, op := Op.call { callee := Callee.value (Operand.func 32), args := #[Operand.tmp 35, Operand.tmp 38, Operand.tmp 41, Operand.tmp 44], argTypes := #[25, 25, 25, 25] }, type := 25, pos := "law.go:126", after := #[{ on := 2, ground := Ground.data }, { on := 5, ground := Ground.data }, { on := 8, ground := Ground.data }, { on := 11, ground := Ground.data }, { on := 11, ground := Ground.chain }], guard := none }) rfl (fun K hK => ?_) AllReadyH.nil)
          (go_simp; (go_at_call 32; (refine (St.call h323r4 (halve_any (fun i => sub4 G 2 (turnI i)) (fun i => sub4 G 0 (turnI i)) (fun i => sub4 G 3 (turnI i)) (fun i => sub4 G 1 (turnI i)) _ HPT.out)).mono ?_); rintro e V24r4 ⟨rfl, h324r4⟩))
          refine hK.out _ _ ?_ (fun hHeld => ?_)
          · (first | exact h324r4 | exact h324r4.tl)
          clear hK K
          try simp only [Act.put, List.setIfInBounds_toArray, List.set_cons_zero, List.set_cons_succ]
          refine wpAnyH_ready (rs := [14]) (by kernel_rfl) (by simp) (AllReadyH.cons (o := { dst := none, op := Op.store 25 (Operand.tmp 8) (Operand.tmp 45), type := 0, pos := "law.go:126", after := #[{ on := 13, ground := Ground.data }, { on := 12, ground := Ground.data }, { on := 12, ground := Ground.chain }, { on := 0, ground := Ground.phase }, { on := 1, ground := Ground.phase }, { on := 2, ground := Ground.phase }, { on := 3, ground := Ground.phase }, { on := 4, ground := Ground.phase }, { on := 5, ground := Ground.phase }, { on := 6, ground := Ground.phase }, { on := 7, ground := Ground.phase }, { on := 8, ground := Ground.phase }, { on := 9, ground := Ground.phase }, { on := 10, ground := Ground.phase }, { on := 11, ground := Ground.phase }, { on := 12, ground := Ground.phase }, { on := 13, ground := Ground.phase }], guard := none }) rfl (fun K hK => ?_) AllReadyH.nil)
          have h325r4 := h324r4.newT (fun i => m4 (four (sqG (fun i => sub4 G 2 (turnI i)) (fun i => sub4 G 0 (turnI i)) (fun i => sub4 G 3 (turnI i)) (fun i => sub4 G 1 (turnI i))) i)) hle4 hne4
          refine wp_store_of 25 _ _ rfl (store_tile _ z0 (fun i => m4 (four (sqG (fun i => sub4 G 2 (turnI i)) (fun i => sub4 G 0 (turnI i)) (fun i => sub4 G 3 (turnI i)) (fun i => sub4 G 1 (turnI i))) i)) _ h324r4.hd) ?_
          refine hK.out _ _ ?_ (fun hHeld => ?_)
          · (first | exact h325r4 | exact h325r4.tl)
          clear hK K
          try simp only [Act.put]
          refine wpAnyH_done (by kernel_rfl) ?_ _
          go_wp2_with fail
          go_meet
          case rel => exact ⟨_, rfl, h325r4⟩
      · have hne4 := h30.ne
        have hle4 := h30.below.size
        have h326r4 := h30.alloc (tob z0)
        refine wp_alloc_of 25 rfl _ (zero_tile _) ?_
        refine hK.out _ _ ?_ (fun hHeld => ?_)
        · (first | exact h326r4 | exact h326r4.tl)
        clear hK K
        try simp only [Act.put, List.setIfInBounds_toArray, List.set_cons_zero, List.set_cons_succ]
        refine wpAnyH_ready (rs := [2]) (by kernel_rfl) (by simp) (AllReadyH.cons (o := { dst := some 35, op := Op.call { callee := Callee.value (Operand.func 30), args := #[Operand.tmp 34], argTypes := #[25] }, type := 25, pos := "law.go:126", after := #[{ on := 1, ground := Ground.data }], guard := none }) rfl (fun K hK => ?_) AllReadyH.nil)
        (go_simp; (go_at_call 30; (refine (St.call h326r4 (turn_any (sub4 G 2) _)).mono ?_); rintro e V27r4 ⟨rfl, h327r4⟩))
        refine hK.out _ _ ?_ (fun hHeld => ?_)
        · (first | exact h327r4 | exact h327r4.tl)
        clear hK K
        try simp only [Act.put, List.setIfInBounds_toArray, List.set_cons_zero, List.set_cons_succ]
        refine wpAnyH_ready (rs := [5]) (by kernel_rfl) (by simp) (AllReadyH.cons (o := { dst := some 38, op := Op.call { callee := Callee.value (Operand.func 30), args := #[Operand.tmp 37], argTypes := #[25] }, type := 25, pos := "law.go:126", after := #[{ on := 4, ground := Ground.data }, { on := 2, ground := Ground.chain }], guard := none }) rfl (fun K hK => ?_) AllReadyH.nil)
        (go_simp; (go_at_call 30; (refine (St.call h327r4 (turn_any (sub4 G 0) _)).mono ?_); rintro e V28r4 ⟨rfl, h328r4⟩))
        refine hK.out _ _ ?_ (fun hHeld => ?_)
        · (first | exact h328r4 | exact h328r4.tl)
        clear hK K
        try simp only [Act.put, List.setIfInBounds_toArray, List.set_cons_zero, List.set_cons_succ]
        refine wpAnyH_ready (rs := [8]) (by kernel_rfl) (by simp) (AllReadyH.cons (o := { dst := some 41, op := Op.call { callee := Callee.value (Operand.func 30), args := #[Operand.tmp 40], argTypes := #[25] }, type := 25, pos := "law.go:126", after := #[{ on := 7, ground := Ground.data }, { on := 5, ground := Ground.chain }], guard := none }) rfl (fun K hK => ?_) AllReadyH.nil)
        (go_simp; (go_at_call 30; (refine (St.call h328r4 (turn_any (sub4 G 3) _)).mono ?_); rintro e V29r4 ⟨rfl, h329r4⟩))
        refine hK.out _ _ ?_ (fun hHeld => ?_)
        · (first | exact h329r4 | exact h329r4.tl)
        clear hK K
        try simp only [Act.put, List.setIfInBounds_toArray, List.set_cons_zero, List.set_cons_succ]
        refine wpAnyH_ready (rs := [11]) (by kernel_rfl) (by simp) (AllReadyH.cons (o := { dst := some 44, op := Op.call { callee := Callee.value (Operand.func 30), args := #[Operand.tmp 43], argTypes := #[25] }, type := 25, pos := "law.go:126", after := #[{ on := 10, ground := Ground.data }, { on := 8, ground := Ground.chain }], guard := none }) rfl (fun K hK => ?_) AllReadyH.nil)
        (go_simp; (go_at_call 30; (refine (St.call h329r4 (turn_any (sub4 G 1) _)).mono ?_); rintro e V30r4 ⟨rfl, h330r4⟩))
        refine hK.out _ _ ?_ (fun hHeld => ?_)
        · (first | exact h330r4 | exact h330r4.tl)
        clear hK K
        try simp only [Act.put, List.setIfInBounds_toArray, List.set_cons_zero, List.set_cons_succ]
        refine wpAnyH_ready (rs := [12]) (by kernel_rfl) (by simp) (AllReadyH.cons (o := { dst := some 45, op := Op.call { callee := Callee.value (Operand.func 32), args := #[Operand.tmp 35, Operand.tmp 38, Operand.tmp 41, Operand.tmp 44], argTypes := #[25, 25, 25, 25] }, type := 25, pos := "law.go:126", after := #[{ on := 2, ground := Ground.data }, { on := 5, ground := Ground.data }, { on := 8, ground := Ground.data }, { on := 11, ground := Ground.data }, { on := 11, ground := Ground.chain }], guard := none }) rfl (fun K hK => ?_) AllReadyH.nil)
        (go_simp; (go_at_call 32; (refine (St.call h330r4 (halve_any (fun i => sub4 G 2 (turnI i)) (fun i => sub4 G 0 (turnI i)) (fun i => sub4 G 3 (turnI i)) (fun i => sub4 G 1 (turnI i)) _ HPT.out)).mono ?_); rintro e V31r4 ⟨rfl, h331r4⟩))
        refine hK.out _ _ ?_ (fun hHeld => ?_)
        · (first | exact h331r4 | exact h331r4.tl)
        clear hK K
        try simp only [Act.put, List.setIfInBounds_toArray, List.set_cons_zero, List.set_cons_succ]
        refine wpAnyH_ready (rs := [14]) (by kernel_rfl) (by simp) (AllReadyH.cons (o := { dst := none, op := Op.store 25 (Operand.tmp 8) (Operand.tmp 45), type := 0, pos := "law.go:126", after := #[{ on := 13, ground := Ground.data }, { on := 12, ground := Ground.data }, { on := 12, ground := Ground.chain }, { on := 0, ground := Ground.phase }, { on := 1, ground := Ground.phase }, { on := 2, ground := Ground.phase }, { on := 3, ground := Ground.phase }, { on := 4, ground := Ground.phase }, { on := 5, ground := Ground.phase }, { on := 6, ground := Ground.phase }, { on := 7, ground := Ground.phase }, { on := 8, ground := Ground.phase }, { on := 9, ground := Ground.phase }, { on := 10, ground := Ground.phase }, { on := 11, ground := Ground.phase }, { on := 12, ground := Ground.phase }, { on := 13, ground := Ground.phase }], guard := none }) rfl (fun K hK => ?_) AllReadyH.nil)
        have h332r4 := h331r4.newT (fun i => m4 (four (sqG (fun i => sub4 G 2 (turnI i)) (fun i => sub4 G 0 (turnI i)) (fun i => sub4 G 3 (turnI i)) (fun i => sub4 G 1 (turnI i))) i)) hle4 hne4
        refine wp_store_of 25 _ _ rfl (store_tile _ z0 (fun i => m4 (four (sqG (fun i => sub4 G 2 (turnI i)) (fun i => sub4 G 0 (turnI i)) (fun i => sub4 G 3 (turnI i)) (fun i => sub4 G 1 (turnI i))) i)) _ h331r4.hd) ?_
        refine hK.out _ _ ?_ (fun hHeld => ?_)
        · (first | exact h332r4 | exact h332r4.tl)
        clear hK K
        try simp only [Act.put]
        refine wpAnyH_done (by kernel_rfl) ?_ _
        go_wp2_with fail
        go_meet
        case rel => exact ⟨_, rfl, h332r4⟩
    case rest =>
      obtain ⟨b4, rfl, h4⟩ := hcut
      clear h3
      have H4 := Lib.hid h4
      have HLP := Lib.hid (ldp (b := w.heap.size + 1) (p := p) h4 (by simp))
      have HX := Lib.hid (St.call h4 (fill_any p _))
      clear h4
      go_upto_region 6 with (first
        | (refine wpList_load_of rfl 23 _ rfl _ HLP.out ?_)
        | (go_at_call 23; (refine HX.out.mono ?_); rintro e V5 ⟨rfl, h⟩; have H5 := Lib.hid ((h.alloc (tob z0)).newT (fun _ => p) h.below.size h.ne); have HA := Lib.hid (h.alloc (tob z0)).hd; clear h)
        | (refine wpList_alloc_of rfl 25 rfl _ (zero_tile _) ?_)
        | (refine wpList_store_of rfl 25 _ _ rfl (store_tile _ z0 _ _ HA.out) ?_))
      have h5 := H5.out
      generalize V5.heap.size = b5 at *
      generalize (V5.alloc (.cells (tc z0) 25)).setRow b5 (tc (fun _ => p)) = W5 at h5 ⊢
      clear H5 HA HX HLP H4
      try simp only [Act.put, List.setIfInBounds_toArray, List.set_cons_zero, List.set_cons_succ]
      refine wp_region_held_drew (S := fun V9 => St w ((b5, tob (fun _ => p)) :: ((b4, tob (fun i => m4 (four (sqG (fun i => sub4 G 2 (turnI i)) (fun i => sub4 G 0 (turnI i)) (fun i => sub4 G 3 (turnI i)) (fun i => sub4 G 1 (turnI i))) i))) :: ((b3, tob (fun i => m4 (four (sqG (fun i => sub4 G 1 (flipI i)) (fun i => sub4 G 0 (flipI i)) (fun i => sub4 G 3 (flipI i)) (fun i => sub4 G 2 (flipI i))) i))) :: ((b2, tob (fun i => m4 (four (sqG (sub4 G 0) (sub4 G 1) (sub4 G 2) (sub4 G 3)) i))) :: [(w.heap.size + 1, pxo p), (w.heap.size, sq4 G)])))) V9) (by kernel_rfl) ?_ (fun hHeld => ?_)
      · exact h5.drew
      have h50 := h5.drew
      refine wpAnyH_take (i := 0) (oi := { dst := some 48, op := Op.move (Operand.tmp 5), type := 4, pos := "law.go:128", after := #[], guard := none }) (v := ?_) rfl (by kernel_rfl) (by kernel_rfl) (by kernel_rfl) (fun _ _ _ h => h) (Or.inl ⟨by kernel_rfl, ?_⟩) (by assumption) ?_
      rotate_left 1
      focus (intro w hSw; (try dsimp only at hSw); go_simp; (try with_reducible rfl))
      try simp only [Act.put, List.setIfInBounds_toArray, List.set_cons_zero, List.set_cons_succ]
      refine wpAnyH_take (i := 1) (oi := { dst := some 49, op := Op.move (Operand.tmp 48), type := 4, pos := "law.go:128", after := #[{ on := 0, ground := Ground.data }], guard := none }) (v := ?_) rfl (by kernel_rfl) (by kernel_rfl) (by kernel_rfl) (fun _ _ _ h => h) (Or.inl ⟨by kernel_rfl, ?_⟩) (by assumption) ?_
      rotate_left 1
      focus (intro w hSw; (try dsimp only at hSw); go_simp; (try with_reducible rfl))
      try simp only [Act.put, List.setIfInBounds_toArray, List.set_cons_zero, List.set_cons_succ]
      refine wpAnyH_take (i := 2) (oi := { dst := some 50, op := Op.load 25 (Operand.tmp 7), type := 25, pos := "law.go:128", after := #[{ on := 1, ground := Ground.guard }], guard := some (1, true) }) rfl (by kernel_rfl) (by kernel_rfl) (by kernel_rfl) (fun _ _ _ h => h) (yields_load (by kernel_rfl) 25 (.tmp 7) rfl (tv (fun i => m4 (four (sqG (fun i => sub4 G 1 (flipI i)) (fun i => sub4 G 0 (flipI i)) (fun i => sub4 G 3 (flipI i)) (fun i => sub4 G 2 (flipI i))) i))) (fun V hV => ld (b := b3) (f := fun i => m4 (four (sqG (fun i => sub4 G 1 (flipI i)) (fun i => sub4 G 0 (flipI i)) (fun i => sub4 G 3 (flipI i)) (fun i => sub4 G 2 (flipI i))) i)) hV (by simp))) (by assumption) ?_
      try simp only [Act.put, List.setIfInBounds_toArray, List.set_cons_zero, List.set_cons_succ]
      refine wpAnyH_take (i := 3) (oi := { dst := some 51, op := Op.load 25 (Operand.tmp 6), type := 25, pos := "law.go:128", after := #[{ on := 1, ground := Ground.guard }], guard := some (1, true) }) rfl (by kernel_rfl) (by kernel_rfl) (by kernel_rfl) (fun _ _ _ h => h) (yields_load (by kernel_rfl) 25 (.tmp 6) rfl (tv (fun i => m4 (four (sqG (sub4 G 0) (sub4 G 1) (sub4 G 2) (sub4 G 3)) i))) (fun V hV => ld (b := b2) (f := fun i => m4 (four (sqG (sub4 G 0) (sub4 G 1) (sub4 G 2) (sub4 G 3)) i)) hV (by simp))) (by assumption) ?_
      try simp only [Act.put, List.setIfInBounds_toArray, List.set_cons_zero, List.set_cons_succ]
      refine wpAnyH_ready (rs := [4]) (by kernel_rfl) (by simp) (AllReadyH.cons (o := { dst := some 52, op := Op.call { callee := Callee.value (Operand.func 28), args := #[Operand.tmp 51], argTypes := #[25] }, type := 25, pos := "law.go:128", after := #[{ on := 3, ground := Ground.data }, { on := 1, ground := Ground.chain }, { on := 1, ground := Ground.guard }], guard := some (1, true) }) rfl (fun K hK => ?_) AllReadyH.nil)
      (go_simp; (go_at_call 28; (refine (St.call h50 (flip_any (fun i => m4 (four (sqG (sub4 G 0) (sub4 G 1) (sub4 G 2) (sub4 G 3)) i)) _)).mono ?_); rintro e V1r6 ⟨rfl, h51r6⟩))
      refine hK.out _ _ ?_ (fun hHeld => ?_)
      · (first | exact h51r6 | exact h51r6.tl)
      clear hK K
      try simp only [Act.put, List.setIfInBounds_toArray, List.set_cons_zero, List.set_cons_succ]
      refine wpAnyH_take (i := 5) (oi := { dst := some 53, op := Op.binOp BinOp.eql 25 (Operand.tmp 50) (Operand.tmp 52) 25, type := 4, pos := "law.go:128", after := #[{ on := 2, ground := Ground.data }, { on := 4, ground := Ground.data }, { on := 1, ground := Ground.guard }], guard := some (1, true) }) rfl (by kernel_rfl) (by kernel_rfl) (by kernel_rfl) (fun _ _ _ h => h) (yields_bin (by kernel_rfl) .eql 25 (.tmp 50) (.tmp 52) 25 rfl _ _ rfl rfl guard_tile (.bool true) (fun V => HE1.out V)) (by assumption) ?_
      try simp only [Act.put, List.setIfInBounds_toArray, List.set_cons_zero, List.set_cons_succ]
      refine wpAnyH_take (i := 6) (oi := { dst := some 54, op := Op.pick (Operand.tmp 49) (Operand.tmp 53) (Operand.const (Value.bool false)), type := 4, pos := "law.go:128", after := #[{ on := 1, ground := Ground.data }, { on := 5, ground := Ground.data }], guard := none }) (v := ?_) rfl (by kernel_rfl) (by kernel_rfl) (by kernel_rfl) (fun _ _ _ h => h) (Or.inl ⟨by kernel_rfl, ?_⟩) (by assumption) ?_
      rotate_left 1
      focus (intro w hSw; (try dsimp only at hSw); go_simp; (try with_reducible rfl))
      try simp only [Act.put, List.setIfInBounds_toArray, List.set_cons_zero, List.set_cons_succ]
      refine wpAnyH_take (i := 7) (oi := { dst := some 55, op := Op.move (Operand.tmp 54), type := 4, pos := "law.go:128", after := #[{ on := 6, ground := Ground.data }, { on := 4, ground := Ground.chain }], guard := none }) (v := ?_) rfl (by kernel_rfl) (by kernel_rfl) (by kernel_rfl) (fun _ _ _ h => h) (Or.inl ⟨by kernel_rfl, ?_⟩) (by assumption) ?_
      rotate_left 1
      focus (intro w hSw; (try dsimp only at hSw); go_simp; (try with_reducible rfl))
      try simp only [Act.put, List.setIfInBounds_toArray, List.set_cons_zero, List.set_cons_succ]
      refine wpAnyH_take (i := 8) (oi := { dst := some 56, op := Op.load 25 (Operand.tmp 8), type := 25, pos := "law.go:128", after := #[{ on := 7, ground := Ground.guard }], guard := some (7, true) }) rfl (by kernel_rfl) (by kernel_rfl) (by kernel_rfl) (fun _ _ _ h => h) (yields_load (by kernel_rfl) 25 (.tmp 8) rfl (tv (fun i => m4 (four (sqG (fun i => sub4 G 2 (turnI i)) (fun i => sub4 G 0 (turnI i)) (fun i => sub4 G 3 (turnI i)) (fun i => sub4 G 1 (turnI i))) i))) (fun V hV => ld (b := b4) (f := fun i => m4 (four (sqG (fun i => sub4 G 2 (turnI i)) (fun i => sub4 G 0 (turnI i)) (fun i => sub4 G 3 (turnI i)) (fun i => sub4 G 1 (turnI i))) i)) hV (by simp))) (by assumption) ?_
      try simp only [Act.put, List.setIfInBounds_toArray, List.set_cons_zero, List.set_cons_succ]
      refine wpAnyH_take (i := 9) (oi := { dst := some 57, op := Op.load 25 (Operand.tmp 6), type := 25, pos := "law.go:128", after := #[{ on := 7, ground := Ground.guard }], guard := some (7, true) }) rfl (by kernel_rfl) (by kernel_rfl) (by kernel_rfl) (fun _ _ _ h => h) (yields_load (by kernel_rfl) 25 (.tmp 6) rfl (tv (fun i => m4 (four (sqG (sub4 G 0) (sub4 G 1) (sub4 G 2) (sub4 G 3)) i))) (fun V hV => ld (b := b2) (f := fun i => m4 (four (sqG (sub4 G 0) (sub4 G 1) (sub4 G 2) (sub4 G 3)) i)) hV (by simp))) (by assumption) ?_
      try simp only [Act.put, List.setIfInBounds_toArray, List.set_cons_zero, List.set_cons_succ]
      refine wpAnyH_ready (rs := [10]) (by kernel_rfl) (by simp) (AllReadyH.cons (o := { dst := some 58, op := Op.call { callee := Callee.value (Operand.func 30), args := #[Operand.tmp 57], argTypes := #[25] }, type := 25, pos := "law.go:128", after := #[{ on := 9, ground := Ground.data }, { on := 7, ground := Ground.chain }, { on := 7, ground := Ground.guard }], guard := some (7, true) }) rfl (fun K hK => ?_) AllReadyH.nil)
      (go_simp; (go_at_call 30; (refine (St.call h51r6 (turn_any (fun i => m4 (four (sqG (sub4 G 0) (sub4 G 1) (sub4 G 2) (sub4 G 3)) i)) _)).mono ?_); rintro e V2r6 ⟨rfl, h52r6⟩))
      refine hK.out _ _ ?_ (fun hHeld => ?_)
      · (first | exact h52r6 | exact h52r6.tl)
      clear hK K
      try simp only [Act.put, List.setIfInBounds_toArray, List.set_cons_zero, List.set_cons_succ]
      refine wpAnyH_take (i := 11) (oi := { dst := some 59, op := Op.binOp BinOp.eql 25 (Operand.tmp 56) (Operand.tmp 58) 25, type := 4, pos := "law.go:128", after := #[{ on := 8, ground := Ground.data }, { on := 10, ground := Ground.data }, { on := 7, ground := Ground.guard }], guard := some (7, true) }) rfl (by kernel_rfl) (by kernel_rfl) (by kernel_rfl) (fun _ _ _ h => h) (yields_bin (by kernel_rfl) .eql 25 (.tmp 56) (.tmp 58) 25 rfl _ _ rfl rfl guard_tile (.bool true) (fun V => HE2.out V)) (by assumption) ?_
      try simp only [Act.put, List.setIfInBounds_toArray, List.set_cons_zero, List.set_cons_succ]
      refine wpAnyH_take (i := 12) (oi := { dst := some 60, op := Op.pick (Operand.tmp 55) (Operand.tmp 59) (Operand.const (Value.bool false)), type := 4, pos := "law.go:128", after := #[{ on := 7, ground := Ground.data }, { on := 11, ground := Ground.data }], guard := none }) (v := ?_) rfl (by kernel_rfl) (by kernel_rfl) (by kernel_rfl) (fun _ _ _ h => h) (Or.inl ⟨by kernel_rfl, ?_⟩) (by assumption) ?_
      rotate_left 1
      focus (intro w hSw; (try dsimp only at hSw); go_simp; (try with_reducible rfl))
      try simp only [Act.put, List.setIfInBounds_toArray, List.set_cons_zero, List.set_cons_succ]
      refine wpAnyH_take (i := 13) (oi := { dst := some 61, op := Op.move (Operand.tmp 60), type := 4, pos := "law.go:128", after := #[{ on := 12, ground := Ground.data }, { on := 10, ground := Ground.chain }], guard := none }) (v := ?_) rfl (by kernel_rfl) (by kernel_rfl) (by kernel_rfl) (fun _ _ _ h => h) (Or.inl ⟨by kernel_rfl, ?_⟩) (by assumption) ?_
      rotate_left 1
      focus (intro w hSw; (try dsimp only at hSw); go_simp; (try with_reducible rfl))
      try simp only [Act.put, List.setIfInBounds_toArray, List.set_cons_zero, List.set_cons_succ]
      refine wpAnyH_take (i := 14) (oi := { dst := some 62, op := Op.load 25 (Operand.tmp 9), type := 25, pos := "law.go:128", after := #[{ on := 13, ground := Ground.guard }], guard := some (13, true) }) rfl (by kernel_rfl) (by kernel_rfl) (by kernel_rfl) (fun _ _ _ h => h) (yields_load (by kernel_rfl) 25 (.tmp 9) rfl (tv (fun _ => p)) (fun V hV => ld (b := b5) (f := fun _ => p) hV (by simp))) (by assumption) ?_
      try simp only [Act.put, List.setIfInBounds_toArray, List.set_cons_zero, List.set_cons_succ]
      refine wpAnyH_take (i := 15) (oi := { dst := some 63, op := Op.load 25 (Operand.tmp 9), type := 25, pos := "law.go:128", after := #[{ on := 13, ground := Ground.guard }], guard := some (13, true) }) rfl (by kernel_rfl) (by kernel_rfl) (by kernel_rfl) (fun _ _ _ h => h) (yields_load (by kernel_rfl) 25 (.tmp 9) rfl (tv (fun _ => p)) (fun V hV => ld (b := b5) (f := fun _ => p) hV (by simp))) (by assumption) ?_
      try simp only [Act.put, List.setIfInBounds_toArray, List.set_cons_zero, List.set_cons_succ]
      refine wpAnyH_take (i := 16) (oi := { dst := some 64, op := Op.load 25 (Operand.tmp 9), type := 25, pos := "law.go:128", after := #[{ on := 13, ground := Ground.guard }], guard := some (13, true) }) rfl (by kernel_rfl) (by kernel_rfl) (by kernel_rfl) (fun _ _ _ h => h) (yields_load (by kernel_rfl) 25 (.tmp 9) rfl (tv (fun _ => p)) (fun V hV => ld (b := b5) (f := fun _ => p) hV (by simp))) (by assumption) ?_
      try simp only [Act.put, List.setIfInBounds_toArray, List.set_cons_zero, List.set_cons_succ]
      refine wpAnyH_take (i := 17) (oi := { dst := some 65, op := Op.load 25 (Operand.tmp 9), type := 25, pos := "law.go:128", after := #[{ on := 13, ground := Ground.guard }], guard := some (13, true) }) rfl (by kernel_rfl) (by kernel_rfl) (by kernel_rfl) (fun _ _ _ h => h) (yields_load (by kernel_rfl) 25 (.tmp 9) rfl (tv (fun _ => p)) (fun V hV => ld (b := b5) (f := fun _ => p) hV (by simp))) (by assumption) ?_
      try simp only [Act.put, List.setIfInBounds_toArray, List.set_cons_zero, List.set_cons_succ]
      refine wpAnyH_take (i := 19) (oi := { dst := some 67, op := Op.load 25 (Operand.tmp 9), type := 25, pos := "law.go:128", after := #[{ on := 13, ground := Ground.guard }], guard := some (13, true) }) rfl (by kernel_rfl) (by kernel_rfl) (by kernel_rfl) (fun _ _ _ h => h) (yields_load (by kernel_rfl) 25 (.tmp 9) rfl (tv (fun _ => p)) (fun V hV => ld (b := b5) (f := fun _ => p) hV (by simp))) (by assumption) ?_
      try simp only [Act.put, List.setIfInBounds_toArray, List.set_cons_zero, List.set_cons_succ]
      refine wpAnyH_ready (rs := [18]) (by kernel_rfl) (by simp) (AllReadyH.cons (o := { dst := some 66, op := Op.call { callee := Callee.value (Operand.func 32), args := #[Operand.tmp 62, Operand.tmp 63, Operand.tmp 64, Operand.tmp 65], argTypes := #[25, 25, 25, 25] }, type := 25, pos := "law.go:128", after := #[{ on := 14, ground := Ground.data }, { on := 15, ground := Ground.data }, { on := 16, ground := Ground.data }, { on := 17, ground := Ground.data }, { on := 13, ground := Ground.chain }, { on := 13, ground := Ground.guard }], guard := some (13, true) }) rfl (fun K hK => ?_) AllReadyH.nil)
      (go_simp; (go_at_call 32; (refine (St.call h52r6 (halve_any (fun _ => p) (fun _ => p) (fun _ => p) (fun _ => p) _ HPS.out)).mono ?_); rintro e V3r6 ⟨rfl, h53r6⟩))
      refine hK.out _ _ ?_ (fun hHeld => ?_)
      · (first | exact h53r6 | exact h53r6.tl)
      clear hK K
      try simp only [Act.put, List.setIfInBounds_toArray, List.set_cons_zero, List.set_cons_succ]
      refine wpAnyH_ready (rs := [20]) (by kernel_rfl) (by simp) (AllReadyH.cons (o := { dst := some 68, op := Op.call { callee := Callee.value (Operand.func 17), args := #[Operand.tmp 67], argTypes := #[25] }, type := 25, pos := "law.go:128", after := #[{ on := 19, ground := Ground.data }, { on := 18, ground := Ground.chain }, { on := 13, ground := Ground.guard }], guard := some (13, true) }) rfl (fun K hK => ?_) AllReadyH.nil)
      (go_simp; (go_at_call 17; (refine (St.call h53r6 (tclean_any (fun _ => p) _)).mono ?_); rintro e V4r6 ⟨rfl, h54r6⟩))
      refine hK.out _ _ ?_ (fun hHeld => ?_)
      · (first | exact h54r6 | exact h54r6.tl)
      clear hK K
      try simp only [Act.put, List.setIfInBounds_toArray, List.set_cons_zero, List.set_cons_succ]
      refine wpAnyH_take (i := 21) (oi := { dst := some 69, op := Op.binOp BinOp.eql 25 (Operand.tmp 66) (Operand.tmp 68) 25, type := 4, pos := "law.go:128", after := #[{ on := 18, ground := Ground.data }, { on := 20, ground := Ground.data }, { on := 13, ground := Ground.guard }], guard := some (13, true) }) rfl (by kernel_rfl) (by kernel_rfl) (by kernel_rfl) (fun _ _ _ h => h) (yields_bin (by kernel_rfl) .eql 25 (.tmp 66) (.tmp 68) 25 rfl _ _ rfl rfl guard_tile (.bool true) (fun V => HE3.out V)) (by assumption) ?_
      try simp only [Act.put, List.setIfInBounds_toArray, List.set_cons_zero, List.set_cons_succ]
      refine wpAnyH_take (i := 22) (oi := { dst := some 70, op := Op.pick (Operand.tmp 61) (Operand.tmp 69) (Operand.const (Value.bool false)), type := 4, pos := "law.go:128", after := #[{ on := 13, ground := Ground.data }, { on := 21, ground := Ground.data }], guard := none }) (v := ?_) rfl (by kernel_rfl) (by kernel_rfl) (by kernel_rfl) (fun _ _ _ h => h) (Or.inl ⟨by kernel_rfl, ?_⟩) (by assumption) ?_
      rotate_left 1
      focus (intro w hSw; (try dsimp only at hSw); go_simp; (try with_reducible rfl))
      try simp only [Act.put, List.setIfInBounds_toArray, List.set_cons_zero, List.set_cons_succ]
      refine wpAnyH_take (i := 23) (oi := { dst := some 4, op := Op.assign (Operand.tmp 70), type := 4, pos := "law.go:128", after := #[{ on := 22, ground := Ground.data }, { on := 20, ground := Ground.chain }, { on := 0, ground := Ground.phase }, { on := 1, ground := Ground.phase }, { on := 2, ground := Ground.phase }, { on := 3, ground := Ground.phase }, { on := 4, ground := Ground.phase }, { on := 5, ground := Ground.phase }, { on := 6, ground := Ground.phase }, { on := 7, ground := Ground.phase }, { on := 8, ground := Ground.phase }, { on := 9, ground := Ground.phase }, { on := 10, ground := Ground.phase }, { on := 11, ground := Ground.phase }, { on := 12, ground := Ground.phase }, { on := 13, ground := Ground.phase }, { on := 14, ground := Ground.phase }, { on := 15, ground := Ground.phase }, { on := 16, ground := Ground.phase }, { on := 17, ground := Ground.phase }, { on := 18, ground := Ground.phase }, { on := 19, ground := Ground.phase }, { on := 20, ground := Ground.phase }, { on := 21, ground := Ground.phase }, { on := 22, ground := Ground.phase }], guard := none }) (v := ?_) rfl (by kernel_rfl) (by kernel_rfl) (by kernel_rfl) (fun _ _ _ h => h) (Or.inl ⟨by kernel_rfl, ?_⟩) (by assumption) ?_
      rotate_left 1
      focus (intro w hSw; (try dsimp only at hSw); go_simp; (try with_reducible rfl))
      try simp only [Act.put, List.setIfInBounds_toArray, List.set_cons_zero, List.set_cons_succ]
      refine wpAnyH_done (by kernel_rfl) ?_ _
      have HB := Lib.hid h54r6.below
      go_wp2_with fail
      go_ret
      exact ⟨rfl, HB.out⟩

theorem okin (W : World) (base : Nat) : Input.okWide Try.checked.prog W .any base 9 ⟨#[], #[.agg (fc 256 z0), zp.v], []⟩ := by
  refine ⟨by simp, by simp, by kernel_rfl, Try.f9, Try.func9, by kernel_rfl, by kernel_rfl, by kernel_rfl, by rw [Try.params9]; rfl, ?_⟩
  intro j t v ht hv
  rw [Try.params9] at ht
  match j with
  | 0 => cases (Option.some.inj ht); cases (Option.some.inj hv); exact ok_sq W base
  | 1 => cases (Option.some.inj ht); cases (Option.some.inj hv); exact ok_px W base
  | j + 2 => simp at ht
set_option maxRecDepth 100000 in
theorem lifted (os : Os) (started : os.Started) (H : Type) (enc : TypeId × Value → H) :
    ReturnsInHanded {} Try.checked os 9 .any (Rows.tileHalveSymmetrySpec.pre6 enc Try.prog Try.f9 Rows.tileHalveSymmetryRow.domain false) (Rows.tileHalveSymmetrySpec.post enc Try.prog Try.f9 false true false false) := by
  refine returnsInHanded_of_change_sized (C := Try.checked) own started (by kernel_rfl) Try.func9
    (witness7 (enc := enc) (C := Try.checked) false ⟨#[], #[.agg (fc 256 z0), zp.v], []⟩ 8 (by kernel_rfl) (by kernel_rfl) (fun W base => okin W base) (by kernel_rfl) (by kernel_rfl)) ?_
  intro W base args ds gs before hval0 hW _ _ _
  have hval : ∀ (j : Nat) t v, Try.f9.params[j]? = some t → args[j]? = some v → Value.okWide Try.prog W .any base t v := hval0
  have hW' := hW
  obtain ⟨p, q, hA0, hV, rfl, hfz, hnd⟩ := hW
  have hA : DataW.TrodAll enc Try.prog W 0 (fun _ => true) true Try.f9.params.toList args.toList ds p := hA0
  rw [Try.params9] at hA hval
  obtain ⟨v0, v1, d0, d1, p0, p1, rfl, rfl, rfl, h0, h1⟩ := trodAll_two hA
  obtain ⟨rfl, rfl⟩ := trodVars_none hV
  obtain ⟨G, rfl, hG⟩ := open_sq (hval 0 43 v0 rfl rfl)
  obtain ⟨p, rfl, hp⟩ := open_px (hval 1 23 v1 rfl rfl)
  refine (walk G p W hG hp).mono fun e W' ⟨he, hb⟩ => ?_
  subst he
  exact ⟨_, rfl, law_post hW' rfl (by kernel_rfl) rfl (by intro t ht; rw [Try.params9] at ht; simp at ht; rcases ht with rfl | rfl <;> exact ⟨by kernel_rfl, of_decide_eq_true (by kernel_rfl)⟩) hb⟩

theorem holds : Rows.TileHalveSymmetrySaid :=
  OpenClaim.holds_of_wide 9 Try.f9 rfl rfl rfl rfl rfl rfl rfl ⟨rfl, rfl, rfl, rfl, rfl⟩ rfl rfl rfl rfl rfl (by kernel_rfl) Try.func9 (by kernel_rfl)
    (of_decide_eq_true (by kernel_rfl)) (by unfold Func.isWrapper; first | (rw [if_pos (by decide +kernel)]; kernel_rfl) | (rw [if_neg (by decide +kernel)]; exact ⟨rfl, rfl⟩))
    (fun os started H enc _ => lifted os started H enc)
end Go.Proofs.Ytkomknhloimhcaa.T.TLHalveSymmetry
