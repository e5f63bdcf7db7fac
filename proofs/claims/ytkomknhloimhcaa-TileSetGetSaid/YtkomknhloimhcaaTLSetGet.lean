/-
  For every tile, pixel and position, after Set, Get returns the new pixel there and the old pixels elsewhere; setting every pixel in another order copies a tile.
-/
import Derived.Test.YtkomknhloimhcaaTLaw
namespace Go.Proofs.Ytkomknhloimhcaa.T.TLSetGet
open Go.ChangeShapes Go.WideShapes Go.ChangeAt Go.RowKit Go.Shelf

/-- the place visited at step j -/
def sg (A j : Nat) : Nat := (j * (2 * (A % 32) + 1) + A) % 64
theorem sg_lt (A j : Nat) : sg A j < 64 := Nat.mod_lt _ (by decide)
theorem sg_all' : ∀ A, A < 64 → ∀ i, i < 64 → sg A (((i + 256 - A) * (2 * (A % 32) + 1) ^ 15) % 64) = i := by decide +kernel
theorem sg_mod (A j : Nat) : sg (A % 64) j = sg A j := by
  unfold sg
  have h : A % 64 % 32 = A % 32 := by omega
  rw [h]
  generalize j * (2 * (A % 32) + 1) = t
  omega
theorem sg_all (A i : Nat) (hi : i < 64) : ∃ j, j < 64 ∧ sg A j = i := by
  refine ⟨((i + 256 - A % 64) * (2 * (A % 64 % 32) + 1) ^ 15) % 64, Nat.mod_lt _ (by decide), ?_⟩
  have h := sg_all' (A % 64) (Nat.mod_lt _ (by decide)) i hi
  rw [sg_mod] at h
  exact h
/-- the copy after k steps -/
def cp (f : Nat → Px) (p : Px) (A : Nat) : Nat → (Nat → Px)
  | 0 => fun _ => p
  | k + 1 => upd (cp f p A k) (sg A k) (f (sg A k))
theorem cp_at (f : Nat → Px) (p : Px) (A : Nat) (i : Nat) : ∀ k, (∃ j, j < k ∧ sg A j = i) → cp f p A k i = f i
  | 0, ⟨_, h, _⟩ => absurd h (Nat.not_lt_zero _)
  | k + 1, ⟨j, hj, e⟩ => by
    unfold cp upd
    by_cases h : i = sg A k
    · rw [if_pos h, ← h]
    · rw [if_neg h]
      refine cp_at f p A i k ⟨j, ?_, e⟩
      have : j ≠ k := fun h2 => h (by rw [← e, h2])
      omega
theorem cp_all (f : Nat → Px) (p : Px) (A : Nat) (i : Nat) (hi : i < 64) : cp f p A 64 i = f i := cp_at f p A i 64 (sg_all A i hi)
theorem gt_nat (f : Nat → Px) (k : Nat) (hk : k < 64) (x y : Int) (hx : x = (k : Int) % 8) (hy : y = (k : Int) / 8) : gt f x y = f k := by
  have h : ins x y = true := (ins_iff x y).2 (by omega)
  unfold gt
  rw [h, show (8 * y + x).toNat = k by omega]
  rfl
theorem st_nat (f : Nat → Px) (k : Nat) (hk : k < 64) (q : Px) (x y : Int) (hx : x = (k : Int) % 8) (hy : y = (k : Int) / 8) : st f x y q = upd f k q := by
  have h : ins x y = true := (ins_iff x y).2 (by omega)
  unfold st
  rw [h, show (8 * y + x).toNat = k by omega]
  rfl
theorem zero_pxl (w : World) : (zeroValue 23).run Try.prog w = .ok (.agg (pl zp).toArray) w := by kernel_rfl
theorem get_nat (f : Nat → Px) (k : Nat) (hk : k < 64) (x y : Int) (w : World) (hx : x = (k : Int) % 8) (hy : y = (k : Int) / 8) : Calls Try.prog 19 #[tv f, .int .i64 x, .int .i64 y] w fun e w' => e = .returned (f k).v ∧ Below w.heap.size w w' := by
  rw [← gt_nat f k hk x y hx hy]; exact get_any f x y w
theorem set_nat (f : Nat → Px) (k : Nat) (hk : k < 64) (q : Px) (x y : Int) (w : World) (hx : x = (k : Int) % 8) (hy : y = (k : Int) / 8) : Calls Try.prog 21 #[tv f, .int .i64 x, .int .i64 y, q.v] w fun e w' => e = .returned (tv (upd f k q)) ∧ Below w.heap.size w w' := by
  rw [← st_nat f k hk q x y hx hy]; exact set_any f x y q w

set_option maxHeartbeats 8000000 in
set_option maxRecDepth 100000 in
theorem walk (f : Nat → Px) (p : Px) (a : Int) (w : World) (_hf : ∀ i, i < 64 → Pc (f i)) (_hp : Pc p) (ha : Ch a) : Calls Try.prog 10 #[tv f, p.v, .int .u8 a] w fun e w' => e = .returned (.bool true) ∧ Below w.heap.size w w' := by
  have hs := ((St.start w).alloc (tob f)).alloc (pxo p)
  simp only [World.size_alloc] at hs
  have ha0 : 0 ≤ a ∧ a ≤ 255 := ha
  obtain ⟨A, rfl⟩ : ∃ A : Nat, a = A := ⟨a.toNat, by omega⟩
  go_enter Try.func10, Try.ntmps10
  go_upto_region 4 with (go_at_call 11; (refine (St.call hs (sane_any _)).mono ?_); rintro e V1 ⟨rfl, h1⟩)
  have H1 := Lib.hid h1
  clear hs h1
  have hxb : 0 ≤ (A : Int) % 8 ∧ (A : Int) % 8 < 8 := by omega
  have hyb : 0 ≤ (A : Int) / 8 % 8 ∧ (A : Int) / 8 % 8 < 8 := by omega
  obtain ⟨n0, hn0⟩ : ∃ n0 : Nat, 8 * ((A : Int) / 8 % 8) + (A : Int) % 8 = n0 := ⟨(8 * ((A : Int) / 8 % 8) + (A : Int) % 8).toNat, by omega⟩
  have hn : n0 < 64 := by omega
  have HXU := Lib.hid (fun V => set_nat f n0 hn p ((A : Int) % 8) ((A : Int) / 8 % 8) V (by omega) (by omega))
  generalize (A : Int) % 8 = x at *
  generalize (A : Int) / 8 % 8 = y at *
  have hzt := zero_tile
  have HL0 := Lib.hid (ld (b := w.heap.size) (f := f) H1.out (by simp))
  have HLP := Lib.hid (ldp (b := w.heap.size + 1) (p := p) H1.out (by simp))
  go_upto_region 5 with (first
    | (refine wpList_load_of rfl 25 _ rfl _ HL0.out ?_)
    | (refine wpList_load_of rfl 23 _ rfl _ HLP.out ?_)
    | (go_at_call 21; (refine (St.call H1.out (HXU.out _)).mono ?_); rintro e V2 ⟨rfl, h⟩; have H2 := Lib.hid ((h.alloc (tob z0)).newT (upd f n0 p) h.below.size h.ne); have HA := Lib.hid (h.alloc (tob z0)).hd; clear h)
    | (refine wpList_alloc_of rfl 25 rfl _ (zero_tile _) ?_)
    | (refine wpList_store_of rfl 25 _ _ rfl (store_tile _ z0 _ _ HA.out) ?_))
  generalize V2.heap.size = b10 at *
  generalize (V2.alloc (.cells (tc z0) 25)).setRow b10 (tc (upd f n0 p)) = W2 at H2 ⊢
  clear HA HL0 HLP HXU
  try simp only [Act.put, List.setIfInBounds_toArray, List.set_cons_zero, List.set_cons_succ]
  have HLP := Lib.hid (ldp (b := w.heap.size + 1) (p := p) H2.out (by simp))
  go_upto_region 6 with (first
    | (refine wpList_load_of rfl 23 _ rfl _ HLP.out ?_)
    | (go_at_call 23; (refine (St.call H2.out (fill_any p _)).mono ?_); rintro e V3 ⟨rfl, h⟩; have H3 := Lib.hid ((h.alloc (tob z0)).newT (fun _ => p) h.below.size h.ne); have HA := Lib.hid (h.alloc (tob z0)).hd; have HBC := Lib.hid h.below.size; have HNC := Lib.hid h.ne; clear h)
    | (refine wpList_alloc_of rfl 25 rfl _ (zero_tile _) ?_)
    | (refine wpList_store_of rfl 25 _ _ rfl (store_tile _ z0 _ _ HA.out) ?_))
  generalize V3.heap.size = b11 at *
  generalize (V3.alloc (.cells (tc z0) 25)).setRow b11 (tc (fun _ => p)) = W3 at H3 ⊢
  clear HA HLP H1 H2
  try simp only [Act.put, List.setIfInBounds_toArray, List.set_cons_zero, List.set_cons_succ]
  go_wp2
  go_loopw [12] (fun v wr => ∃ k : Nat, k ≤ 64 ∧ v = .int .i64 k ∧ Hid (St w ((b11, tob (cp f p A (k))) :: ((b10, tob (upd f n0 p)) :: [(w.heap.size + 1, pxo p), (w.heap.size, tob f)])) wr)) (fun i _ => 64 - (intOf i).toNat)
  case atStart => exact ⟨0, by omega, rfl, H3.out⟩
  case round =>
    obtain ⟨k, hk, rfl, HT⟩ := hrel
    by_cases hlt : k < 64
    · have hsl := sg_lt A k
      have HCP : Hid (cp f p A (k + 1) = upd (cp f p A (k)) (sg A k) (f (sg A k))) := Lib.hid rfl
      obtain ⟨r, z, HR, HRB, HZ, HZB, HK⟩ : ∃ r z : Int, Hid ((A : Int) % 32 = r) ∧ Hid (0 ≤ r ∧ r < 32) ∧ Hid ((k : Int) * (2 * r + 1) = z) ∧ Hid (0 ≤ z ∧ z ≤ 4032) ∧ Hid ((z + (A : Int)) % 64 = (sg A k : Nat)) := by
        have hrb : A % 32 < 32 := Nat.mod_lt _ (by decide)
        have hr : (A : Int) % 32 = ((A % 32 : Nat) : Int) := by omega
        have hzb : k * (2 * (A % 32) + 1) ≤ 4032 := Nat.le_trans (Nat.mul_le_mul (show k ≤ 63 by omega) (show 2 * (A % 32) + 1 ≤ 63 by omega)) (by decide)
        refine ⟨((A % 32 : Nat) : Int), ((k * (2 * (A % 32) + 1) : Nat) : Int), hr, ⟨by omega, by omega⟩, by rw [Int.natCast_mul]; rfl, ⟨by omega, by omega⟩, ?_⟩
        show ((k * (2 * (A % 32) + 1) : Nat) + (A : Int)) % 64 = (sg A k : Nat)
        unfold sg
        generalize k * (2 * (A % 32) + 1) = t
        omega
      generalize sg A k = s at *
      go_upto_region 9 with fail
      have hr := HR.out
      have hrb := HRB.out
      have hzz := HZ.out
      have hzb := HZB.out
      have hkz := HK.out
      clear HR HRB HZ HZB HK
      have hw1 : IntKind.i64.wrap ((k : Int) * (2 * r + 1)) = z := by rw [hzz]; exact IntWalk.i64_in _ ⟨by omega, by omega⟩
      go_upto_region 10 with fail
      rw [hkz]
      clear hr hrb hzz hzb hkz hw1
      have HGF := Lib.hid (fun V => get_nat f k hlt ((k : Int) % 8) ((k : Int) / 8) V rfl rfl)
      have HL0 := Lib.hid (ld (b := w.heap.size) (f := f) HT.out (by simp))
      have hzp := zero_pxl
      go_upto_region 11 with (first
        | (refine wpList_load_of rfl 25 _ rfl _ HL0.out ?_)
        | (go_at_call 19; (refine (St.call HT.out (HGF.out _)).mono ?_); rintro e V4 ⟨rfl, h⟩; have hne := h.ne; have hA := World.alloc_heap_new V4 (pxo zp); have h2 := St.rowset (ds := (pl (f k)).toArray) (h.alloc (pxo zp)) h.below.size hne; have H4 := Lib.hid h2; have HAP := Lib.hid hA; have HNE := Lib.hid hne; have HBN := Lib.hid h.below.size; clear h h2 hne hA)
        | (refine wpList_alloc_of rfl 23 rfl _ (zero_pxl _) ?_)
        | (refine wpList_store_of rfl 23 _ _ rfl (store_px0 _ zp (f k) _ HAP.out) ?_))
      generalize V4.heap.size = b14 at *
      generalize (V4.alloc (.cells (pl zp).toArray 23)).setRow b14 (pl (f k)).toArray = W4 at H4 ⊢
      clear HAP HL0 HGF
      try simp only [Act.put, List.setIfInBounds_toArray, List.set_cons_zero, List.set_cons_succ]
      have H4 : Hid (St w ((b14, pxo (f k)) :: ((b11, tob (cp f p A (k))) :: ((b10, tob (upd f n0 p)) :: [(w.heap.size + 1, pxo p), (w.heap.size, tob f)]))) W4) := H4
      go_upto_if 56 with fail
      go_cut [] (fun wx => Hid (St w ((b14, pxo ((upd f n0 p) k)) :: ((b11, tob (cp f p A (k))) :: ((b10, tob (upd f n0 p)) :: [(w.heap.size + 1, pxo p), (w.heap.size, tob f)]))) wx))
      case first =>
        by_cases he : k = n0
        · have eU : (upd f n0 p) k = p := if_pos he
          have heb : ((k : Int) == (n0 : Int)) = true := by rw [he]; simp
          have hek : (k : Int) = (n0 : Int) := by rw [he]
          have HST := Lib.hid (store_px0 b14 (f k) p W4 H4.out.hd)
          have HLP := Lib.hid (ldp (b := w.heap.size + 1) (p := p) H4.out (by simp))
          have h5 := St.rowset (ds := (pl p).toArray) H4.out HBN.out HNE.out
          have H5 : Hid (St w ((b14, pxo ((upd f n0 p) k)) :: ((b11, tob (cp f p A (k))) :: ((b10, tob (upd f n0 p)) :: [(w.heap.size + 1, pxo p), (w.heap.size, tob f)]))) (W4.setRow b14 (pl p).toArray)) := by rw [eU]; exact h5
          clear eU h5 he
          go_wp2_with (first
            | (refine wpList_load_of rfl 23 _ rfl _ HLP.out ?_)
            | (refine wpList_store_of rfl 23 _ _ rfl HST.out ?_))
          go_meet
          case rel => exact H5
        · have eU : (upd f n0 p) k = f k := if_neg he
          have hek : ¬ (k : Int) = (n0 : Int) := by omega
          have H5 : Hid (St w ((b14, pxo ((upd f n0 p) k)) :: ((b11, tob (cp f p A (k))) :: ((b10, tob (upd f n0 p)) :: [(w.heap.size + 1, pxo p), (w.heap.size, tob f)]))) W4) := by rw [eU]; exact H4
          clear eU he
          go_wp2
          go_meet
          case rel => exact H5
      case rest =>
        have h6 := hcut.out
        have hix := index_px b10 k hlt
        have HN1 := Lib.hid (neqT (p := (upd f n0 p) k) (q := (upd f n0 p) k) rfl)
        go_upto_region 13 with fail
        refine wp_region_held_drew (S := fun V9 => St w ((b14, pxo ((upd f n0 p) k)) :: ((b11, tob (cp f p A (k))) :: ((b10, tob (upd f n0 p)) :: [(w.heap.size + 1, pxo p), (w.heap.size, tob f)]))) V9) (by kernel_rfl) ?_ (fun hHeld => ?_)
        · first | exact h6.drew | exact h6.drew.tl
        have h60 := h6.drew
        refine wpAnyH_take (i := 0) (oi := { dst := some 58, op := Op.load 25 (Operand.tmp 10), type := 25, pos := "law.go:144", after := #[], guard := none }) rfl (by kernel_rfl) (by kernel_rfl) (by kernel_rfl) (fun _ _ _ h => h) (yields_load (by kernel_rfl) 25 (.tmp 10) rfl (tv (upd f n0 p)) (fun V hV => ld (b := b10) (f := upd f n0 p) hV (by simp))) (by assumption) ?_
        try simp only [Act.put, List.setIfInBounds_toArray, List.set_cons_zero, List.set_cons_succ]
        refine wpAnyH_take (i := 1) (oi := { dst := some 59, op := Op.move (Operand.tmp 12), type := 3, pos := "law.go:144", after := #[], guard := none }) (v := ?_) rfl (by kernel_rfl) (by kernel_rfl) (by kernel_rfl) (fun _ _ _ h => h) (Or.inl ⟨by kernel_rfl, ?_⟩) (by assumption) ?_
        rotate_left 1
        focus (intro w hSw; (try dsimp only at hSw); go_simp; (try with_reducible rfl))
        try simp only [Act.put, List.setIfInBounds_toArray, List.set_cons_zero, List.set_cons_succ]
        refine wpAnyH_take (i := 2) (oi := { dst := some 60, op := Op.binOp BinOp.rem 3 (Operand.tmp 59) (Operand.const (Value.int IntKind.i64 8)) 3, type := 3, pos := "law.go:144", after := #[{ on := 1, ground := Ground.data }], guard := none }) (v := ?_) rfl (by kernel_rfl) (by kernel_rfl) (by kernel_rfl) (fun _ _ _ h => h) (Or.inl ⟨by kernel_rfl, ?_⟩) (by assumption) ?_
        rotate_left 1
        focus (intro w hSw; (try dsimp only at hSw); go_simp; (try with_reducible rfl))
        try simp only [Act.put, List.setIfInBounds_toArray, List.set_cons_zero, List.set_cons_succ]
        refine wpAnyH_take (i := 3) (oi := { dst := some 61, op := Op.move (Operand.tmp 12), type := 3, pos := "law.go:144", after := #[], guard := none }) (v := ?_) rfl (by kernel_rfl) (by kernel_rfl) (by kernel_rfl) (fun _ _ _ h => h) (Or.inl ⟨by kernel_rfl, ?_⟩) (by assumption) ?_
        rotate_left 1
        focus (intro w hSw; (try dsimp only at hSw); go_simp; (try with_reducible rfl))
        try simp only [Act.put, List.setIfInBounds_toArray, List.set_cons_zero, List.set_cons_succ]
        refine wpAnyH_take (i := 4) (oi := { dst := some 62, op := Op.binOp BinOp.quo 3 (Operand.tmp 61) (Operand.const (Value.int IntKind.i64 8)) 3, type := 3, pos := "law.go:144", after := #[{ on := 3, ground := Ground.data }], guard := none }) (v := ?_) rfl (by kernel_rfl) (by kernel_rfl) (by kernel_rfl) (fun _ _ _ h => h) (Or.inl ⟨by kernel_rfl, ?_⟩) (by assumption) ?_
        rotate_left 1
        focus (intro w hSw; (try dsimp only at hSw); go_simp; (try with_reducible rfl))
        try simp only [Act.put, List.setIfInBounds_toArray, List.set_cons_zero, List.set_cons_succ]
        refine wpAnyH_take (i := 6) (oi := { dst := some 64, op := Op.load 23 (Operand.tmp 14), type := 23, pos := "law.go:144", after := #[], guard := none }) rfl (by kernel_rfl) (by kernel_rfl) (by kernel_rfl) (fun _ _ _ h => h) (yields_load (by kernel_rfl) 23 (.tmp 14) rfl ((upd f n0 p) k).v (fun V hV => ldp (b := b14) (p := (upd f n0 p) k) hV (by simp))) (by assumption) ?_
        try simp only [Act.put, List.setIfInBounds_toArray, List.set_cons_zero, List.set_cons_succ]
        refine wpAnyH_ready (rs := [5]) (by kernel_rfl) (by simp) (AllReadyH.cons (o := { dst := some 63, op := Op.call { callee := Callee.value (Operand.func 19), args := #[Operand.tmp 58, Operand.tmp 60, Operand.tmp 62], argTypes := #[25, 3, 3] }, type := 23, pos := "law.go:144", after := #[{ on := 0, ground := Ground.data }, { on := 2, ground := Ground.data }, { on := 4, ground := Ground.data }], guard := none }) rfl (fun K hK => ?_) AllReadyH.nil)
        (go_simp; (go_at_call 19; (refine (St.call h60 (get_nat (upd f n0 p) k hlt _ _ _ (by first | rfl | omega | exact IntWalk.i64_in _ ⟨by omega, by omega⟩) (by first | rfl | omega | exact IntWalk.i64_in _ ⟨by omega, by omega⟩))).mono ?_); rintro e V1r13 ⟨rfl, h61r13⟩))
        refine hK.out _ _ ?_ (fun hHeld => ?_)
        · (first | exact h61r13 | exact h61r13.tl)
        clear hK K
        try simp only [Act.put, List.setIfInBounds_toArray, List.set_cons_zero, List.set_cons_succ]
        refine wpAnyH_take (i := 7) (oi := { dst := some 65, op := Op.binOp BinOp.neq 23 (Operand.tmp 63) (Operand.tmp 64) 23, type := 4, pos := "law.go:144", after := #[{ on := 5, ground := Ground.data }, { on := 6, ground := Ground.data }], guard := none }) rfl (by kernel_rfl) (by kernel_rfl) (by kernel_rfl) (fun _ _ _ h => h) (yields_bin (by kernel_rfl) .neq 23 (.tmp 63) (.tmp 64) 23 rfl _ _ rfl rfl guard_px (.bool false) (fun V => HN1.out V)) (by assumption) ?_
        try simp only [Act.put, List.setIfInBounds_toArray, List.set_cons_zero, List.set_cons_succ]
        refine wpAnyH_take (i := 8) (oi := { dst := some 66, op := Op.move (Operand.tmp 65), type := 4, pos := "law.go:144", after := #[{ on := 7, ground := Ground.data }, { on := 5, ground := Ground.chain }], guard := none }) (v := ?_) rfl (by kernel_rfl) (by kernel_rfl) (by kernel_rfl) (fun _ _ _ h => h) (Or.inl ⟨by kernel_rfl, ?_⟩) (by assumption) ?_
        rotate_left 1
        focus (intro w hSw; (try dsimp only at hSw); go_simp; (try with_reducible rfl))
        try simp only [Act.put, List.setIfInBounds_toArray, List.set_cons_zero, List.set_cons_succ]
        refine wpAnyH_take (i := 9) (oi := { dst := some 67, op := Op.move (Operand.tmp 12), type := 3, pos := "law.go:144", after := #[{ on := 8, ground := Ground.guard }], guard := some (8, false) }) (v := ?_) rfl (by kernel_rfl) (by kernel_rfl) (by kernel_rfl) (fun _ _ _ h => h) (Or.inl ⟨by kernel_rfl, ?_⟩) (by assumption) ?_
        rotate_left 1
        focus (intro w hSw; (try dsimp only at hSw); go_simp; (try with_reducible rfl))
        try simp only [Act.put, List.setIfInBounds_toArray, List.set_cons_zero, List.set_cons_succ]
        refine wpAnyH_take (i := 10) (oi := { dst := some 68, op := Op.indexAddr 25 (Operand.tmp 10) (Operand.tmp 67), type := 0, pos := "law.go:144", after := #[{ on := 9, ground := Ground.data }, { on := 8, ground := Ground.guard }], guard := some (8, false) }) (v := ?_) rfl (by kernel_rfl) (by kernel_rfl) (by kernel_rfl) (fun _ _ _ h => h) (Or.inl ⟨by kernel_rfl, ?_⟩) (by assumption) ?_
        rotate_left 1
        focus (intro w hSw; (try dsimp only at hSw); go_simp; (try with_reducible rfl))
        try simp only [Act.put, List.setIfInBounds_toArray, List.set_cons_zero, List.set_cons_succ]
        refine wpAnyH_take (i := 11) (oi := { dst := some 69, op := Op.load 23 (Operand.tmp 68), type := 23, pos := "law.go:144", after := #[{ on := 10, ground := Ground.data }, { on := 8, ground := Ground.guard }], guard := some (8, false) }) rfl (by kernel_rfl) (by kernel_rfl) (by kernel_rfl) (fun _ _ _ h => h) (yields_load (by kernel_rfl) 23 (.tmp 68) rfl ((upd f n0 p) (k)).v (fun V hV => ldi (b := b10) (f := upd f n0 p) hV (by simp) (k) hlt)) (by assumption) ?_
        try simp only [Act.put, List.setIfInBounds_toArray, List.set_cons_zero, List.set_cons_succ]
        refine wpAnyH_take (i := 12) (oi := { dst := some 70, op := Op.load 23 (Operand.tmp 14), type := 23, pos := "law.go:144", after := #[{ on := 8, ground := Ground.guard }], guard := some (8, false) }) rfl (by kernel_rfl) (by kernel_rfl) (by kernel_rfl) (fun _ _ _ h => h) (yields_load (by kernel_rfl) 23 (.tmp 14) rfl ((upd f n0 p) k).v (fun V hV => ldp (b := b14) (p := (upd f n0 p) k) hV (by simp))) (by assumption) ?_
        try simp only [Act.put, List.setIfInBounds_toArray, List.set_cons_zero, List.set_cons_succ]
        refine wpAnyH_take (i := 13) (oi := { dst := some 71, op := Op.binOp BinOp.neq 23 (Operand.tmp 69) (Operand.tmp 70) 23, type := 4, pos := "law.go:144", after := #[{ on := 11, ground := Ground.data }, { on := 12, ground := Ground.data }, { on := 8, ground := Ground.guard }], guard := some (8, false) }) rfl (by kernel_rfl) (by kernel_rfl) (by kernel_rfl) (fun _ _ _ h => h) (yields_bin (by kernel_rfl) .neq 23 (.tmp 69) (.tmp 70) 23 rfl _ _ rfl rfl guard_px (.bool false) (fun V => HN1.out V)) (by assumption) ?_
        try simp only [Act.put, List.setIfInBounds_toArray, List.set_cons_zero, List.set_cons_succ]
        refine wpAnyH_take (i := 14) (oi := { dst := some 72, op := Op.pick (Operand.tmp 66) (Operand.const (Value.bool true)) (Operand.tmp 71), type := 4, pos := "law.go:144", after := #[{ on := 8, ground := Ground.data }, { on := 13, ground := Ground.data }], guard := none }) (v := ?_) rfl (by kernel_rfl) (by kernel_rfl) (by kernel_rfl) (fun _ _ _ h => h) (Or.inl ⟨by kernel_rfl, ?_⟩) (by assumption) ?_
        rotate_left 1
        focus (intro w hSw; (try dsimp only at hSw); go_simp; (try with_reducible rfl))
        try simp only [Act.put, List.setIfInBounds_toArray, List.set_cons_zero, List.set_cons_succ]
        refine wpAnyH_done (by kernel_rfl) ?_ _
        have H7 := Lib.hid h61r13.tl
        go_upto_region 15 with fail
        have h8 := H7.out
        refine wp_region_held_drew (S := fun V9 => St w ((b10, tob (upd f n0 p)) :: [(w.heap.size + 1, pxo p), (w.heap.size, tob f)]) V9) (by kernel_rfl) ?_ (fun hHeld => ?_)
        · first | exact h8.drew | exact h8.drew.tl
        have h80 := h8.drew
        refine wpAnyH_take (i := 1) (oi := { dst := some 74, op := Op.move (Operand.tmp 13), type := 3, pos := "law.go:147", after := #[], guard := none }) (v := ?_) rfl (by kernel_rfl) (by kernel_rfl) (by kernel_rfl) (fun _ _ _ h => h) (Or.inl ⟨by kernel_rfl, ?_⟩) (by assumption) ?_
        rotate_left 1
        focus (intro w hSw; (try dsimp only at hSw); go_simp; (try with_reducible rfl))
        try simp only [Act.put, List.setIfInBounds_toArray, List.set_cons_zero, List.set_cons_succ]
        refine wpAnyH_take (i := 2) (oi := { dst := some 75, op := Op.binOp BinOp.rem 3 (Operand.tmp 74) (Operand.const (Value.int IntKind.i64 8)) 3, type := 3, pos := "law.go:147", after := #[{ on := 1, ground := Ground.data }], guard := none }) (v := ?_) rfl (by kernel_rfl) (by kernel_rfl) (by kernel_rfl) (fun _ _ _ h => h) (Or.inl ⟨by kernel_rfl, ?_⟩) (by assumption) ?_
        rotate_left 1
        focus (intro w hSw; (try dsimp only at hSw); go_simp; (try with_reducible rfl))
        try simp only [Act.put, List.setIfInBounds_toArray, List.set_cons_zero, List.set_cons_succ]
        refine wpAnyH_take (i := 3) (oi := { dst := some 76, op := Op.move (Operand.tmp 13), type := 3, pos := "law.go:147", after := #[], guard := none }) (v := ?_) rfl (by kernel_rfl) (by kernel_rfl) (by kernel_rfl) (fun _ _ _ h => h) (Or.inl ⟨by kernel_rfl, ?_⟩) (by assumption) ?_
        rotate_left 1
        focus (intro w hSw; (try dsimp only at hSw); go_simp; (try with_reducible rfl))
        try simp only [Act.put, List.setIfInBounds_toArray, List.set_cons_zero, List.set_cons_succ]
        refine wpAnyH_take (i := 4) (oi := { dst := some 77, op := Op.binOp BinOp.quo 3 (Operand.tmp 76) (Operand.const (Value.int IntKind.i64 8)) 3, type := 3, pos := "law.go:147", after := #[{ on := 3, ground := Ground.data }], guard := none }) (v := ?_) rfl (by kernel_rfl) (by kernel_rfl) (by kernel_rfl) (fun _ _ _ h => h) (Or.inl ⟨by kernel_rfl, ?_⟩) (by assumption) ?_
        rotate_left 1
        focus (intro w hSw; (try dsimp only at hSw); go_simp; (try with_reducible rfl))
        try simp only [Act.put, List.setIfInBounds_toArray, List.set_cons_zero, List.set_cons_succ]
        refine wpAnyH_take (i := 5) (oi := { dst := some 78, op := Op.load 25 (Operand.tmp 3), type := 25, pos := "law.go:147", after := #[], guard := none }) rfl (by kernel_rfl) (by kernel_rfl) (by kernel_rfl) (fun _ _ _ h => h) (yields_load (by kernel_rfl) 25 (.tmp 3) rfl (tv (f)) (fun V hV => ld (b := w.heap.size) (f := f) hV (by simp))) (by assumption) ?_
        try simp only [Act.put, List.setIfInBounds_toArray, List.set_cons_zero, List.set_cons_succ]
        refine wpAnyH_take (i := 6) (oi := { dst := some 79, op := Op.move (Operand.tmp 13), type := 3, pos := "law.go:147", after := #[], guard := none }) (v := ?_) rfl (by kernel_rfl) (by kernel_rfl) (by kernel_rfl) (fun _ _ _ h => h) (Or.inl ⟨by kernel_rfl, ?_⟩) (by assumption) ?_
        rotate_left 1
        focus (intro w hSw; (try dsimp only at hSw); go_simp; (try with_reducible rfl))
        try simp only [Act.put, List.setIfInBounds_toArray, List.set_cons_zero, List.set_cons_succ]
        refine wpAnyH_take (i := 7) (oi := { dst := some 80, op := Op.binOp BinOp.rem 3 (Operand.tmp 79) (Operand.const (Value.int IntKind.i64 8)) 3, type := 3, pos := "law.go:147", after := #[{ on := 6, ground := Ground.data }], guard := none }) (v := ?_) rfl (by kernel_rfl) (by kernel_rfl) (by kernel_rfl) (fun _ _ _ h => h) (Or.inl ⟨by kernel_rfl, ?_⟩) (by assumption) ?_
        rotate_left 1
        focus (intro w hSw; (try dsimp only at hSw); go_simp; (try with_reducible rfl))
        try simp only [Act.put, List.setIfInBounds_toArray, List.set_cons_zero, List.set_cons_succ]
        refine wpAnyH_take (i := 8) (oi := { dst := some 81, op := Op.move (Operand.tmp 13), type := 3, pos := "law.go:147", after := #[], guard := none }) (v := ?_) rfl (by kernel_rfl) (by kernel_rfl) (by kernel_rfl) (fun _ _ _ h => h) (Or.inl ⟨by kernel_rfl, ?_⟩) (by assumption) ?_
        rotate_left 1
        focus (intro w hSw; (try dsimp only at hSw); go_simp; (try with_reducible rfl))
        try simp only [Act.put, List.setIfInBounds_toArray, List.set_cons_zero, List.set_cons_succ]
        refine wpAnyH_take (i := 9) (oi := { dst := some 82, op := Op.binOp BinOp.quo 3 (Operand.tmp 81) (Operand.const (Value.int IntKind.i64 8)) 3, type := 3, pos := "law.go:147", after := #[{ on := 8, ground := Ground.data }], guard := none }) (v := ?_) rfl (by kernel_rfl) (by kernel_rfl) (by kernel_rfl) (fun _ _ _ h => h) (Or.inl ⟨by kernel_rfl, ?_⟩) (by assumption) ?_
        rotate_left 1
        focus (intro w hSw; (try dsimp only at hSw); go_simp; (try with_reducible rfl))
        try simp only [Act.put, List.setIfInBounds_toArray, List.set_cons_zero, List.set_cons_succ]
        refine wpAnyH_ready (rs := [0, 10]) (by kernel_rfl) (by simp) (AllReadyH.cons (o := { dst := some 73, op := Op.load 25 (Operand.tmp 11), type := 25, pos := "law.go:147", after := #[], guard := none }) rfl (fun K hK => ?_) (AllReadyH.cons (o := { dst := some 83, op := Op.call { callee := Callee.value (Operand.func 19), args := #[Operand.tmp 78, Operand.tmp 80, Operand.tmp 82], argTypes := #[25, 3, 3] }, type := 23, pos := "law.go:147", after := #[{ on := 5, ground := Ground.data }, { on := 7, ground := Ground.data }, { on := 9, ground := Ground.data }], guard := none }) rfl (fun K hK => ?_) AllReadyH.nil))
        · refine wp_load_of 25 _ rfl (tv (cp f p A (k))) (ld (b := b11) (f := cp f p A (k)) h80 (by simp)) ?_
          refine hK.out _ _ ?_ (fun hHeld => ?_)
          · (first | exact h80 | exact h80.tl)
          clear hK K
          try simp only [Act.put, List.setIfInBounds_toArray, List.set_cons_zero, List.set_cons_succ]
          refine wpAnyH_ready (rs := [10]) (by kernel_rfl) (by simp) (AllReadyH.cons (o := { dst := some 83, op := Op.call { callee := Callee.value (Operand.func 19), args := #[Operand.tmp 78, Operand.tmp 80, Operand.tmp 82], argTypes := #[25, 3, 3] }, type := 23, pos := "law.go:147", after := #[{ on := 5, ground := Ground.data }, { on := 7, ground := Ground.data }, { on := 9, ground := Ground.data }], guard := none }) rfl (fun K hK => ?_) AllReadyH.nil)
          (go_simp; (go_at_call 19; (refine (St.call h80 (get_nat f s hsl _ _ _ (by first | rfl | omega | exact IntWalk.i64_in _ ⟨by omega, by omega⟩) (by first | rfl | omega | exact IntWalk.i64_in _ ⟨by omega, by omega⟩))).mono ?_); rintro e V2r15 ⟨rfl, h82r15⟩))
          refine hK.out _ _ ?_ (fun hHeld => ?_)
          · (first | exact h82r15 | exact h82r15.tl)
          clear hK K
          try simp only [Act.put, List.setIfInBounds_toArray, List.set_cons_zero, List.set_cons_succ]
          refine wpAnyH_ready (rs := [11]) (by kernel_rfl) (by simp) (AllReadyH.cons (o := { dst := some 84, op := Op.call { callee := Callee.value (Operand.func 21), args := #[Operand.tmp 73, Operand.tmp 75, Operand.tmp 77, Operand.tmp 83], argTypes := #[25, 3, 3, 23] }, type := 25, pos := "law.go:147", after := #[{ on := 0, ground := Ground.data }, { on := 2, ground := Ground.data }, { on := 4, ground := Ground.data }, { on := 10, ground := Ground.data }, { on := 10, ground := Ground.chain }], guard := none }) rfl (fun K hK => ?_) AllReadyH.nil)
          (go_simp; (go_at_call 21; (refine (St.call h82r15 (set_nat (cp f p A (k)) s hsl (f s) _ _ _ (by first | rfl | omega | exact IntWalk.i64_in _ ⟨by omega, by omega⟩) (by first | rfl | omega | exact IntWalk.i64_in _ ⟨by omega, by omega⟩))).mono ?_); rintro e V3r15 ⟨rfl, h83r15⟩))
          refine hK.out _ _ ?_ (fun hHeld => ?_)
          · (first | exact h83r15 | exact h83r15.tl)
          clear hK K
          try simp only [Act.put, List.setIfInBounds_toArray, List.set_cons_zero, List.set_cons_succ]
          refine wpAnyH_ready (rs := [12]) (by kernel_rfl) (by simp) (AllReadyH.cons (o := { dst := none, op := Op.store 25 (Operand.tmp 11) (Operand.tmp 84), type := 0, pos := "law.go:147", after := #[{ on := 11, ground := Ground.data }, { on := 11, ground := Ground.chain }, { on := 0, ground := Ground.phase }, { on := 1, ground := Ground.phase }, { on := 2, ground := Ground.phase }, { on := 3, ground := Ground.phase }, { on := 4, ground := Ground.phase }, { on := 5, ground := Ground.phase }, { on := 6, ground := Ground.phase }, { on := 7, ground := Ground.phase }, { on := 8, ground := Ground.phase }, { on := 9, ground := Ground.phase }, { on := 10, ground := Ground.phase }, { on := 11, ground := Ground.phase }], guard := none }) rfl (fun K hK => ?_) AllReadyH.nil)
          have h84r15 := St.rowset (ds := tc (upd (cp f p A (k)) s (f s))) h83r15 HBC.out HNC.out
          refine wp_store_of 25 _ _ rfl (store_tile b11 (cp f p A (k)) (upd (cp f p A (k)) s (f s)) _ h83r15.hd) ?_
          refine hK.out _ _ ?_ (fun hHeld => ?_)
          · (first | exact h84r15 | exact h84r15.tl)
          clear hK K
          try simp only [Act.put]
          refine wpAnyH_done (by kernel_rfl) ?_ _
          have H9 := Lib.hid h84r15
          go_wp2
          go_roundw
          case rel => exact ⟨k + 1, by omega, by go_num, by rw [HCP.out]; exact H9.out⟩
          case measure => simp [intOf]; omega
        · (go_simp; (go_at_call 19; (refine (St.call h80 (get_nat f s hsl _ _ _ (by first | rfl | omega | exact IntWalk.i64_in _ ⟨by omega, by omega⟩) (by first | rfl | omega | exact IntWalk.i64_in _ ⟨by omega, by omega⟩))).mono ?_); rintro e V5r15 ⟨rfl, h85r15⟩))
          refine hK.out _ _ ?_ (fun hHeld => ?_)
          · (first | exact h85r15 | exact h85r15.tl)
          clear hK K
          try simp only [Act.put, List.setIfInBounds_toArray, List.set_cons_zero, List.set_cons_succ]
          refine wpAnyH_ready (rs := [0]) (by kernel_rfl) (by simp) (AllReadyH.cons (o := { dst := some 73, op := Op.load 25 (Operand.tmp 11), type := 25, pos := "law.go:147", after := #[], guard := none }) rfl (fun K hK => ?_) AllReadyH.nil)
          refine wp_load_of 25 _ rfl (tv (cp f p A (k))) (ld (b := b11) (f := cp f p A (k)) h85r15 (by simp)) ?_
          refine hK.out _ _ ?_ (fun hHeld => ?_)
          · (first | exact h85r15 | exact h85r15.tl)
          clear hK K
          try simp only [Act.put, List.setIfInBounds_toArray, List.set_cons_zero, List.set_cons_succ]
          refine wpAnyH_ready (rs := [11]) (by kernel_rfl) (by simp) (AllReadyH.cons (o := { dst := some 84, op := Op.call { callee := Callee.value (Operand.func 21), args := #[Operand.tmp 73, Operand.tmp 75, Operand.tmp 77, Operand.tmp 83], argTypes := #[25, 3, 3, 23] }, type := 25, pos := "law.go:147", after := #[{ on := 0, ground := Ground.data }, { on := 2, ground := Ground.data }, { on := 4, ground := Ground.data }, { on := 10, ground := Ground.data }, { on := 10, ground := Ground.chain }], guard := none }) rfl (fun K hK => ?_) AllReadyH.nil)
          (go_simp; (go_at_call 21; (refine (St.call h85r15 (set_nat (cp f p A (k)) s hsl (f s) _ _ _ (by first | rfl | omega | exact IntWalk.i64_in _ ⟨by omega, by omega⟩) (by first | rfl | omega | exact IntWalk.i64_in _ ⟨by omega, by omega⟩))).mono ?_); rintro e V7r15 ⟨rfl, h87r15⟩))
          refine hK.out _ _ ?_ (fun hHeld => ?_)
          · (first | exact h87r15 | exact h87r15.tl)
          clear hK K
          try simp only [Act.put, List.setIfInBounds_toArray, List.set_cons_zero, List.set_cons_succ]
          refine wpAnyH_ready (rs := [12]) (by kernel_rfl) (by simp) (AllReadyH.cons (o := { dst := none, op := Op.store 25 (Operand.tmp 11) (Operand.tmp 84), type := 0, pos := "law.go:147", after := #[{ on := 11, ground := Ground.data }, { on := 11, ground := Ground.chain }, { on := 0, ground := Ground.phase }, { on := 1, ground := Ground.phase }, { on := 2, ground := Ground.phase }, { on := 3, ground := Ground.phase }, { on := 4, ground := Ground.phase }, { on := 5, ground := Ground.phase }, { on := 6, ground := Ground.phase }, { on := 7, ground := Ground.phase }, { on := 8, ground := Ground.phase }, { on := 9, ground := Ground.phase }, { on := 10, ground := Ground.phase }, { on := 11, ground := Ground.phase }], guard := none }) rfl (fun K hK => ?_) AllReadyH.nil)
          have h88r15 := St.rowset (ds := tc (upd (cp f p A (k)) s (f s))) h87r15 HBC.out HNC.out
          refine wp_store_of 25 _ _ rfl (store_tile b11 (cp f p A (k)) (upd (cp f p A (k)) s (f s)) _ h87r15.hd) ?_
          refine hK.out _ _ ?_ (fun hHeld => ?_)
          · (first | exact h88r15 | exact h88r15.tl)
          clear hK K
          try simp only [Act.put]
          refine wpAnyH_done (by kernel_rfl) ?_ _
          have H9 := Lib.hid h88r15
          go_wp2
          go_roundw
          case rel => exact ⟨k + 1, by omega, by go_num, by rw [HCP.out]; exact H9.out⟩
          case measure => simp [intOf]; omega
    · obtain rfl : k = 64 := by omega
      have HLC := Lib.hid (ld (b := b11) (f := cp f p A (64)) HT.out (by simp))
      have HL0 := Lib.hid (ld (b := w.heap.size) (f := f) HT.out (by simp))
      have HE := Lib.hid (eqlTT (f := cp f p A (64)) (g := f) (fun i hi => cp_all f p A i hi))
      have HB := Lib.hid HT.out.below
      go_wp2_with (first
        | (refine wpList_on (by kernel_rfl) (wp_load_of 25 (.tmp 11) rfl _ HLC.out ?_))
        | (refine wpList_on (by kernel_rfl) (wp_load_of 25 (.tmp 3) rfl _ HL0.out ?_))
        | (refine wpList_on (by kernel_rfl) (wp_bin_of .eql 25 (.tmp 87) (.tmp 88) _ rfl _ _ rfl rfl guard_tile _ (HE.out _) ?_)))
      go_ret
      exact ⟨rfl, HB.out⟩

theorem okin (W : World) (base : Nat) : Input.okWide Try.checked.prog W .any base 10 ⟨#[], #[tv z0, zp.v, .int .u8 0], []⟩ := by
  refine ⟨by simp, by simp, by kernel_rfl, Try.f10, Try.func10, by kernel_rfl, by kernel_rfl, by kernel_rfl, by rw [Try.params10]; rfl, ?_⟩
  intro j t v ht hv
  rw [Try.params10] at ht
  match j with
  | 0 => cases (Option.some.inj ht); cases (Option.some.inj hv); exact ok_tile W base
  | 1 => cases (Option.some.inj ht); cases (Option.some.inj hv); exact ok_px W base
  | 2 => cases (Option.some.inj ht); cases (Option.some.inj hv); exact ok_u8 W base
  | j + 3 => simp at ht
set_option maxRecDepth 100000 in
theorem lifted (os : Os) (started : os.Started) (H : Type) (enc : TypeId × Value → H) :
    ReturnsInHanded {} Try.checked os 10 .any (Rows.tileSetGetSpec.pre6 enc Try.prog Try.f10 Rows.tileSetGetRow.domain false) (Rows.tileSetGetSpec.post enc Try.prog Try.f10 false true false false) := by
  refine returnsInHanded_of_change_sized (C := Try.checked) own started (by kernel_rfl) Try.func10
    (witness7 (enc := enc) (C := Try.checked) false ⟨#[], #[tv z0, zp.v, .int .u8 0], []⟩ 8 (by kernel_rfl) (by kernel_rfl) (fun W base => okin W base) (by kernel_rfl) (by kernel_rfl)) ?_
  intro W base args ds gs before hval0 hW _ _ _
  have hval : ∀ (j : Nat) t v, Try.f10.params[j]? = some t → args[j]? = some v → Value.okWide Try.prog W .any base t v := hval0
  have hW' := hW
  obtain ⟨p, q, hA0, hV, rfl, hfz, hnd⟩ := hW
  have hA : DataW.TrodAll enc Try.prog W 0 (fun _ => true) true Try.f10.params.toList args.toList ds p := hA0
  rw [Try.params10] at hA hval
  obtain ⟨v0, v1, v2, d0, d1, d2, p0, p1, p2, rfl, rfl, rfl, h0, h1, h2⟩ := trodAll_three hA
  obtain ⟨rfl, rfl⟩ := trodVars_none hV
  obtain ⟨f, rfl, hf⟩ := open_tile (hval 0 25 v0 rfl rfl)
  obtain ⟨p, rfl, hp⟩ := open_px (hval 1 23 v1 rfl rfl)
  obtain ⟨a, rfl, ha⟩ := open_u8 (hval 2 5 v2 rfl rfl)
  refine (walk f p a W hf hp ha).mono fun e W' ⟨he, hb⟩ => ?_
  subst he
  exact ⟨_, rfl, law_post hW' rfl (by kernel_rfl) rfl (by intro t ht; rw [Try.params10] at ht; simp at ht; rcases ht with rfl | rfl | rfl <;> exact ⟨by kernel_rfl, of_decide_eq_true (by kernel_rfl)⟩) hb⟩

theorem holds : Rows.TileSetGetSaid :=
  OpenClaim.holds_of_wide 10 Try.f10 rfl rfl rfl rfl rfl rfl rfl ⟨rfl, rfl, rfl, rfl, rfl⟩ rfl rfl rfl rfl rfl (by kernel_rfl) Try.func10 (by kernel_rfl)
    (of_decide_eq_true (by kernel_rfl)) (by unfold Func.isWrapper; first | (rw [if_pos (by decide +kernel)]; kernel_rfl) | (rw [if_neg (by decide +kernel)]; exact ⟨rfl, rfl⟩))
    (fun os started H enc _ => lifted os started H enc)
end Go.Proofs.Ytkomknhloimhcaa.T.TLSetGet
