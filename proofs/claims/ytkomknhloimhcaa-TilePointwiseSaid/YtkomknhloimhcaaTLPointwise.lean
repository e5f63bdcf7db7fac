/-
  For all tiles, modes and coverages, each pixel of Over and of Mask is that of layer 4 at the same index, and both commute with turning all arguments, Mask with flipping as well.
-/
import Derived.Test.YtkomknhloimhcaaTLaw
import Derived.Test.YtkomknhloimhcaaTLay
import Derived.Test.YtkomknhloimhcaaTCov
namespace Go.Proofs.Ytkomknhloimhcaa.T.TLPointwise
open Go.ChangeShapes Go.WideShapes Go.ChangeAt Go.RowKit Go.Shelf


set_option maxHeartbeats 8000000 in
set_option maxRecDepth 100000 in
theorem walk (f g : Nat → Px) (m : Int) (c : Nat → Int) (w : World) (hf : ∀ i, i < 64 → Pc (f i)) (hg : ∀ i, i < 64 → Pc (g i)) (hc : ∀ i, i < 64 → Ch (c i)) : Calls Try.prog 8 #[.agg (lay f g m c)] w fun e w' => e = .returned (.bool true) ∧ Below w.heap.size w w' := by
  have hs := (St.start w).alloc (lob f g m c)
  have HF := Lib.hid hf
  have HG := Lib.hid hg
  have HC := Lib.hid hc
  have HFT : Hid (∀ i, i < 64 → Pc ((fun i => f (turnI i)) i)) := fun i hi => hf _ (turnI_lt hi)
  have HGT : Hid (∀ i, i < 64 → Pc ((fun i => g (turnI i)) i)) := fun i hi => hg _ (turnI_lt hi)
  have HCT : Hid (∀ i, i < 64 → Ch ((fun i => c (turnI i)) i)) := fun i hi => hc _ (turnI_lt hi)
  have HFF : Hid (∀ i, i < 64 → Pc ((fun i => f (flipI i)) i)) := fun i hi => hf _ (flipI_lt hi)
  have HGF : Hid (∀ i, i < 64 → Pc ((fun i => g (flipI i)) i)) := fun i hi => hg _ (flipI_lt hi)
  clear hf hg hc
  have HE1 := Lib.hid (eqlTT (f := fun i => (fun i => ovr (f i) (g i) m (c i)) (turnI i)) (g := fun i => ovr ((fun i => f (turnI i)) i) ((fun i => g (turnI i)) i) m ((fun i => c (turnI i)) i)) (fun _ _ => rfl))
  have HE2 := Lib.hid (eqlTT (f := fun i => (fun i => fad (f i) (g i).a) (turnI i)) (g := fun i => fad ((fun i => f (turnI i)) i) ((fun i => g (turnI i)) i).a) (fun _ _ => rfl))
  have HE3 := Lib.hid (eqlTT (f := fun i => (fun i => fad (f i) (g i).a) (flipI i)) (g := fun i => fad ((fun i => f (flipI i)) i) ((fun i => g (flipI i)) i).a) (fun _ _ => rfl))
  go_enter Try.func8, Try.ntmps8
  go_upto_region 2 with (go_at_call 11; (refine (St.call hs (sane_any _)).mono ?_); rintro e V1 ⟨rfl, h1⟩)
  have H1 := Lib.hid h1
  clear hs h1
  have hzt := zero_tile
  have HLback := Lib.hid (ld_back (b := w.heap.size) (f := f) (g := g) (m := m) (c := c) H1.out (by simp))
  have HLsrc := Lib.hid (ld_src (b := w.heap.size) (f := f) (g := g) (m := m) (c := c) H1.out (by simp))
  have HLmode := Lib.hid (ld_mode (b := w.heap.size) (f := f) (g := g) (m := m) (c := c) H1.out (by simp))
  have HLcov := Lib.hid (ld_cov (b := w.heap.size) (f := f) (g := g) (m := m) (c := c) H1.out (by simp))
  go_upto_region 3 with (first
    | (refine wpList_load_of rfl 25 (.tmp 8) rfl _ HLback.out ?_)
    | (refine wpList_load_of rfl 25 (.tmp 10) rfl _ HLsrc.out ?_)
    | (refine wpList_load_of rfl 3 (.tmp 12) rfl _ HLmode.out ?_)
    | (refine wpList_load_of rfl 37 (.tmp 14) rfl _ HLcov.out ?_)
    | (go_at_call 24; (refine (St.call H1.out (tover_any f g m c _ HF.out HG.out HC.out)).mono ?_); rintro e V2 ⟨rfl, h⟩; have H2 := Lib.hid ((h.alloc (tob z0)).newT (fun i => ovr (f i) (g i) m (c i)) h.below.size h.ne); have HA := Lib.hid (h.alloc (tob z0)).hd; clear h)
    | (refine wpList_alloc_of rfl 25 rfl _ (zero_tile _) ?_)
    | (refine wpList_store_of rfl 25 _ _ rfl (store_tile _ z0 _ _ HA.out) ?_))
  clear HLback HLsrc HLmode HLcov
  generalize V2.heap.size = b4 at *
  generalize (V2.alloc (.cells (tc z0) 25)).setRow b4 (tc (fun i => ovr (f i) (g i) m (c i))) = W2 at H2 ⊢
  clear HA H1
  try simp only [Act.put, List.setIfInBounds_toArray, List.set_cons_zero, List.set_cons_succ]
  have HLback := Lib.hid (ld_back (b := w.heap.size) (f := f) (g := g) (m := m) (c := c) H2.out (by simp))
  have HLsrc := Lib.hid (ld_src (b := w.heap.size) (f := f) (g := g) (m := m) (c := c) H2.out (by simp))
  go_upto_region 4 with (first
    | (refine wpList_load_of rfl 25 (.tmp 17) rfl _ HLback.out ?_)
    | (refine wpList_load_of rfl 25 (.tmp 19) rfl _ HLsrc.out ?_)
    | (go_at_call 26; (refine (St.call H2.out (mask_any f g _ HF.out HG.out)).mono ?_); rintro e V3 ⟨rfl, h⟩; have H3 := Lib.hid ((h.alloc (tob z0)).newT (fun i => fad (f i) (g i).a) h.below.size h.ne); have HA := Lib.hid (h.alloc (tob z0)).hd; clear h)
    | (refine wpList_alloc_of rfl 25 rfl _ (zero_tile _) ?_)
    | (refine wpList_store_of rfl 25 _ _ rfl (store_tile _ z0 _ _ HA.out) ?_))
  clear HLback HLsrc
  generalize V3.heap.size = b5 at *
  generalize (V3.alloc (.cells (tc z0) 25)).setRow b5 (tc (fun i => fad (f i) (g i).a)) = W3 at H3 ⊢
  clear HA H2
  try simp only [Act.put, List.setIfInBounds_toArray, List.set_cons_zero, List.set_cons_succ]
  go_wp2
  go_loopw [6] (fun v wr => ∃ k : Nat, k ≤ 64 ∧ v = .int .i64 k ∧ Hid (St w ((b5, tob (fun i => fad (f i) (g i).a)) :: ((b4, tob (fun i => ovr (f i) (g i) m (c i))) :: [(w.heap.size, lob f g m c)])) wr)) (fun i _ => 64 - (intOf i).toNat)
  case atStart => exact ⟨0, by omega, rfl, H3.out⟩
  case round =>
    obtain ⟨k, hk, rfl, HT⟩ := hrel
    by_cases hlt : k < 64
    · have h5 := HT.out
      have hf1 := HF.out k hlt
      have hg1 := HG.out k hlt
      have hix := index_px b4 k hlt
      have hiy := index_px b5 k hlt
      have hib := index_px (w.heap.size) k hlt
      have his := fun W => index_at (t := 25) (n := 64) Try.underlying25 size_px (w.heap.size) 256 k k rfl hlt W
      rw [show 256 + k * 4 = 256 + 4 * k by omega] at his
      have hic := fun W => index_at (t := 37) (n := 64) Try.underlying37 (fun w => (by kernel_rfl : (sizeOf 5).run Try.prog w = .ok 1 w)) (w.heap.size) 513 k k rfl hlt W
      rw [show 513 + k * 1 = 513 + k by omega] at hic
      have hw1 : IntKind.i64.wrap (c k) = c k := w64 (HC.out k hlt)
      have hw2 : IntKind.i64.wrap (g k).a = (g k).a := w64 hg1.2.2.2
      have HN1 := Lib.hid (neqT (p := (fun i => ovr (f i) (g i) m (c i)) k) (q := ovr (f k) (g k) m (c k)) rfl)
      have HN2 := Lib.hid (neqT (p := (fun i => fad (f i) (g i).a) k) (q := fad (f k) (g k).a) rfl)
      go_upto_region 7 with fail
      refine wp_region_held_drew (S := fun V9 => St w ((b5, tob (fun i => fad (f i) (g i).a)) :: ((b4, tob (fun i => ovr (f i) (g i) m (c i))) :: [(w.heap.size, lob f g m c)])) V9) (by kernel_rfl) ?_ (fun hHeld => ?_)
      · exact h5.drew
      have h50 := h5.drew
      refine wpAnyH_take (i := 0) (oi := { dst := some 26, op := Op.move (Operand.tmp 6), type := 3, pos := "law.go:114", after := #[], guard := none }) (v := ?_) rfl (by kernel_rfl) (by kernel_rfl) (by kernel_rfl) (fun _ _ _ h => h) (Or.inl ⟨by kernel_rfl, ?_⟩) (by assumption) ?_
      rotate_left 1
      focus (intro w hSw; (try dsimp only at hSw); go_simp; (try with_reducible rfl))
      try simp only [Act.put, List.setIfInBounds_toArray, List.set_cons_zero, List.set_cons_succ]
      refine wpAnyH_take (i := 1) (oi := { dst := some 27, op := Op.indexAddr 25 (Operand.tmp 4) (Operand.tmp 26), type := 0, pos := "law.go:114", after := #[{ on := 0, ground := Ground.data }], guard := none }) (v := ?_) rfl (by kernel_rfl) (by kernel_rfl) (by kernel_rfl) (fun _ _ _ h => h) (Or.inl ⟨by kernel_rfl, ?_⟩) (by assumption) ?_
      rotate_left 1
      focus (intro w hSw; (try dsimp only at hSw); go_simp; (try with_reducible rfl))
      try simp only [Act.put, List.setIfInBounds_toArray, List.set_cons_zero, List.set_cons_succ]
      refine wpAnyH_take (i := 2) (oi := { dst := some 28, op := Op.load 23 (Operand.tmp 27), type := 23, pos := "law.go:114", after := #[{ on := 1, ground := Ground.data }], guard := none }) rfl (by kernel_rfl) (by kernel_rfl) (by kernel_rfl) (fun _ _ _ h => h) (yields_load (by kernel_rfl) 23 (.tmp 27) rfl ((fun i => ovr (f i) (g i) m (c i)) (k)).v (fun V hV => ldi (b := b4) (f := fun i => ovr (f i) (g i) m (c i)) hV (by simp) (k) hlt)) (by assumption) ?_
      try simp only [Act.put, List.setIfInBounds_toArray, List.set_cons_zero, List.set_cons_succ]
      refine wpAnyH_take (i := 3) (oi := { dst := some 29, op := Op.move (Operand.tmp 6), type := 3, pos := "law.go:114", after := #[], guard := none }) (v := ?_) rfl (by kernel_rfl) (by kernel_rfl) (by kernel_rfl) (fun _ _ _ h => h) (Or.inl ⟨by kernel_rfl, ?_⟩) (by assumption) ?_
      rotate_left 1
      focus (intro w hSw; (try dsimp only at hSw); go_simp; (try with_reducible rfl))
      try simp only [Act.put, List.setIfInBounds_toArray, List.set_cons_zero, List.set_cons_succ]
      refine wpAnyH_take (i := 4) (oi := { dst := some 30, op := Op.fieldAddr 39 (Operand.tmp 1) 0, type := 0, pos := "law.go:114", after := #[], guard := none }) (v := ?_) rfl (by kernel_rfl) (by kernel_rfl) (by kernel_rfl) (fun _ _ _ h => h) (Or.inl ⟨by kernel_rfl, ?_⟩) (by assumption) ?_
      rotate_left 1
      focus (intro w hSw; (try dsimp only at hSw); go_simp; (try with_reducible rfl))
      try simp only [Act.put, List.setIfInBounds_toArray, List.set_cons_zero, List.set_cons_succ]
      refine wpAnyH_take (i := 5) (oi := { dst := some 31, op := Op.indexAddr 25 (Operand.tmp 30) (Operand.tmp 29), type := 0, pos := "law.go:114", after := #[{ on := 4, ground := Ground.data }, { on := 3, ground := Ground.data }], guard := none }) (v := ?_) rfl (by kernel_rfl) (by kernel_rfl) (by kernel_rfl) (fun _ _ _ h => h) (Or.inl ⟨by kernel_rfl, ?_⟩) (by assumption) ?_
      rotate_left 1
      focus (intro w hSw; (try dsimp only at hSw); go_simp; (try with_reducible rfl))
      try simp only [Act.put, List.setIfInBounds_toArray, List.set_cons_zero, List.set_cons_succ]
      refine wpAnyH_take (i := 6) (oi := { dst := some 32, op := Op.load 23 (Operand.tmp 31), type := 23, pos := "law.go:114", after := #[{ on := 5, ground := Ground.data }], guard := none }) rfl (by kernel_rfl) (by kernel_rfl) (by kernel_rfl) (fun _ _ _ h => h) (yields_load (by kernel_rfl) 23 (.tmp 31) rfl ((f k).v) (fun V hV => ld_bpx (b := w.heap.size) (f := f) (g := g) (m := m) (c := c) hV (by simp) k hlt)) (by assumption) ?_
      try simp only [Act.put, List.setIfInBounds_toArray, List.set_cons_zero, List.set_cons_succ]
      refine wpAnyH_take (i := 7) (oi := { dst := some 33, op := Op.move (Operand.tmp 6), type := 3, pos := "law.go:114", after := #[], guard := none }) (v := ?_) rfl (by kernel_rfl) (by kernel_rfl) (by kernel_rfl) (fun _ _ _ h => h) (Or.inl ⟨by kernel_rfl, ?_⟩) (by assumption) ?_
      rotate_left 1
      focus (intro w hSw; (try dsimp only at hSw); go_simp; (try with_reducible rfl))
      try simp only [Act.put, List.setIfInBounds_toArray, List.set_cons_zero, List.set_cons_succ]
      refine wpAnyH_take (i := 8) (oi := { dst := some 34, op := Op.fieldAddr 39 (Operand.tmp 1) 1, type := 0, pos := "law.go:114", after := #[], guard := none }) (v := ?_) rfl (by kernel_rfl) (by kernel_rfl) (by kernel_rfl) (fun _ _ _ h => h) (Or.inl ⟨by kernel_rfl, ?_⟩) (by assumption) ?_
      rotate_left 1
      focus (intro w hSw; (try dsimp only at hSw); go_simp; (try with_reducible rfl))
      try simp only [Act.put, List.setIfInBounds_toArray, List.set_cons_zero, List.set_cons_succ]
      refine wpAnyH_take (i := 9) (oi := { dst := some 35, op := Op.indexAddr 25 (Operand.tmp 34) (Operand.tmp 33), type := 0, pos := "law.go:114", after := #[{ on := 8, ground := Ground.data }, { on := 7, ground := Ground.data }], guard := none }) (v := ?_) rfl (by kernel_rfl) (by kernel_rfl) (by kernel_rfl) (fun _ _ _ h => h) (Or.inl ⟨by kernel_rfl, ?_⟩) (by assumption) ?_
      rotate_left 1
      focus (intro w hSw; (try dsimp only at hSw); go_simp; (try with_reducible rfl))
      try simp only [Act.put, List.setIfInBounds_toArray, List.set_cons_zero, List.set_cons_succ]
      refine wpAnyH_take (i := 10) (oi := { dst := some 36, op := Op.load 23 (Operand.tmp 35), type := 23, pos := "law.go:114", after := #[{ on := 9, ground := Ground.data }], guard := none }) rfl (by kernel_rfl) (by kernel_rfl) (by kernel_rfl) (fun _ _ _ h => h) (yields_load (by kernel_rfl) 23 (.tmp 35) rfl ((g k).v) (fun V hV => ld_spx (b := w.heap.size) (f := f) (g := g) (m := m) (c := c) hV (by simp) k hlt)) (by assumption) ?_
      try simp only [Act.put, List.setIfInBounds_toArray, List.set_cons_zero, List.set_cons_succ]
      refine wpAnyH_take (i := 11) (oi := { dst := some 37, op := Op.fieldAddr 39 (Operand.tmp 1) 2, type := 0, pos := "law.go:114", after := #[], guard := none }) (v := ?_) rfl (by kernel_rfl) (by kernel_rfl) (by kernel_rfl) (fun _ _ _ h => h) (Or.inl ⟨by kernel_rfl, ?_⟩) (by assumption) ?_
      rotate_left 1
      focus (intro w hSw; (try dsimp only at hSw); go_simp; (try with_reducible rfl))
      try simp only [Act.put, List.setIfInBounds_toArray, List.set_cons_zero, List.set_cons_succ]
      refine wpAnyH_take (i := 12) (oi := { dst := some 38, op := Op.load 3 (Operand.tmp 37), type := 3, pos := "law.go:114", after := #[{ on := 11, ground := Ground.data }], guard := none }) rfl (by kernel_rfl) (by kernel_rfl) (by kernel_rfl) (fun _ _ _ h => h) (yields_load (by kernel_rfl) 3 (.tmp 37) rfl (.int .i64 m) (fun V hV => ld_mode (b := w.heap.size) (f := f) (g := g) (m := m) (c := c) hV (by simp))) (by assumption) ?_
      try simp only [Act.put, List.setIfInBounds_toArray, List.set_cons_zero, List.set_cons_succ]
      refine wpAnyH_take (i := 13) (oi := { dst := some 39, op := Op.move (Operand.tmp 6), type := 3, pos := "law.go:114", after := #[], guard := none }) (v := ?_) rfl (by kernel_rfl) (by kernel_rfl) (by kernel_rfl) (fun _ _ _ h => h) (Or.inl ⟨by kernel_rfl, ?_⟩) (by assumption) ?_
      rotate_left 1
      focus (intro w hSw; (try dsimp only at hSw); go_simp; (try with_reducible rfl))
      try simp only [Act.put, List.setIfInBounds_toArray, List.set_cons_zero, List.set_cons_succ]
      refine wpAnyH_take (i := 14) (oi := { dst := some 40, op := Op.fieldAddr 39 (Operand.tmp 1) 3, type := 0, pos := "law.go:114", after := #[], guard := none }) (v := ?_) rfl (by kernel_rfl) (by kernel_rfl) (by kernel_rfl) (fun _ _ _ h => h) (Or.inl ⟨by kernel_rfl, ?_⟩) (by assumption) ?_
      rotate_left 1
      focus (intro w hSw; (try dsimp only at hSw); go_simp; (try with_reducible rfl))
      try simp only [Act.put, List.setIfInBounds_toArray, List.set_cons_zero, List.set_cons_succ]
      refine wpAnyH_take (i := 15) (oi := { dst := some 41, op := Op.indexAddr 37 (Operand.tmp 40) (Operand.tmp 39), type := 0, pos := "law.go:114", after := #[{ on := 14, ground := Ground.data }, { on := 13, ground := Ground.data }], guard := none }) (v := ?_) rfl (by kernel_rfl) (by kernel_rfl) (by kernel_rfl) (fun _ _ _ h => h) (Or.inl ⟨by kernel_rfl, ?_⟩) (by assumption) ?_
      rotate_left 1
      focus (intro w hSw; (try dsimp only at hSw); go_simp; (try with_reducible rfl))
      try simp only [Act.put, List.setIfInBounds_toArray, List.set_cons_zero, List.set_cons_succ]
      refine wpAnyH_take (i := 16) (oi := { dst := some 42, op := Op.load 5 (Operand.tmp 41), type := 5, pos := "law.go:114", after := #[{ on := 15, ground := Ground.data }], guard := none }) rfl (by kernel_rfl) (by kernel_rfl) (by kernel_rfl) (fun _ _ _ h => h) (yields_load (by kernel_rfl) 5 (.tmp 41) rfl (.int .u8 (c k)) (fun V hV => ld_c1 (b := w.heap.size) (f := f) (g := g) (m := m) (c := c) hV (by simp) k hlt)) (by assumption) ?_
      try simp only [Act.put, List.setIfInBounds_toArray, List.set_cons_zero, List.set_cons_succ]
      refine wpAnyH_take (i := 17) (oi := { dst := some 43, op := Op.convert 5 3 (Operand.tmp 42), type := 3, pos := "law.go:114", after := #[{ on := 16, ground := Ground.data }], guard := none }) (v := ?_) rfl (by kernel_rfl) (by kernel_rfl) (by kernel_rfl) (fun _ _ _ h => h) (Or.inl ⟨by kernel_rfl, ?_⟩) (by assumption) ?_
      rotate_left 1
      focus (intro w hSw; (try dsimp only at hSw); go_simp; (try with_reducible rfl))
      try simp only [Act.put, List.setIfInBounds_toArray, List.set_cons_zero, List.set_cons_succ]
      refine wpAnyH_ready (rs := [18]) (by kernel_rfl) (by simp) (AllReadyH.cons (o := { dst := some 44, op := Op.call { callee := Callee.value (Operand.func 34), args := #[Operand.tmp 32, Operand.tmp 36, Operand.tmp 38, Operand.tmp 43], argTypes := #[23, 23, 3, 3] }, type := 23, pos := "law.go:114", after := #[{ on := 6, ground := Ground.data }, { on := 10, ground := Ground.data }, { on := 12, ground := Ground.data }, { on := 17, ground := Ground.data }], guard := none }) rfl (fun K hK => ?_) AllReadyH.nil)
      (go_simp; (go_at_call 34; (refine (St.call h50 (over_any (f k).r (f k).g (f k).b (f k).a (g k).r (g k).g (g k).b (g k).a m (c k) _ hf1.1 hf1.2.1 hf1.2.2.1 hf1.2.2.2 hg1.1 hg1.2.1 hg1.2.2.1 hg1.2.2.2)).mono ?_); rintro e V1r7 ⟨rfl, h51r7⟩))
      refine hK.out _ _ ?_ (fun hHeld => ?_)
      · (first | exact h51r7 | exact h51r7.tl)
      clear hK K
      try simp only [Act.put, List.setIfInBounds_toArray, List.set_cons_zero, List.set_cons_succ]
      refine wpAnyH_take (i := 19) (oi := { dst := some 45, op := Op.binOp BinOp.neq 23 (Operand.tmp 28) (Operand.tmp 44) 23, type := 4, pos := "law.go:114", after := #[{ on := 2, ground := Ground.data }, { on := 18, ground := Ground.data }], guard := none }) rfl (by kernel_rfl) (by kernel_rfl) (by kernel_rfl) (fun _ _ _ h => h) (yields_bin (by kernel_rfl) .neq 23 (.tmp 28) (.tmp 44) 23 rfl _ _ rfl rfl guard_px (.bool false) (fun V => HN1.out V)) (by assumption) ?_
      try simp only [Act.put, List.setIfInBounds_toArray, List.set_cons_zero, List.set_cons_succ]
      refine wpAnyH_take (i := 20) (oi := { dst := some 46, op := Op.move (Operand.tmp 45), type := 4, pos := "law.go:114", after := #[{ on := 19, ground := Ground.data }, { on := 18, ground := Ground.chain }], guard := none }) (v := ?_) rfl (by kernel_rfl) (by kernel_rfl) (by kernel_rfl) (fun _ _ _ h => h) (Or.inl ⟨by kernel_rfl, ?_⟩) (by assumption) ?_
      rotate_left 1
      focus (intro w hSw; (try dsimp only at hSw); go_simp; (try with_reducible rfl))
      try simp only [Act.put, List.setIfInBounds_toArray, List.set_cons_zero, List.set_cons_succ]
      refine wpAnyH_take (i := 21) (oi := { dst := some 47, op := Op.move (Operand.tmp 6), type := 3, pos := "law.go:114", after := #[{ on := 20, ground := Ground.guard }], guard := some (20, false) }) (v := ?_) rfl (by kernel_rfl) (by kernel_rfl) (by kernel_rfl) (fun _ _ _ h => h) (Or.inl ⟨by kernel_rfl, ?_⟩) (by assumption) ?_
      rotate_left 1
      focus (intro w hSw; (try dsimp only at hSw); go_simp; (try with_reducible rfl))
      try simp only [Act.put, List.setIfInBounds_toArray, List.set_cons_zero, List.set_cons_succ]
      refine wpAnyH_take (i := 22) (oi := { dst := some 48, op := Op.indexAddr 25 (Operand.tmp 5) (Operand.tmp 47), type := 0, pos := "law.go:114", after := #[{ on := 21, ground := Ground.data }, { on := 20, ground := Ground.guard }], guard := some (20, false) }) (v := ?_) rfl (by kernel_rfl) (by kernel_rfl) (by kernel_rfl) (fun _ _ _ h => h) (Or.inl ⟨by kernel_rfl, ?_⟩) (by assumption) ?_
      rotate_left 1
      focus (intro w hSw; (try dsimp only at hSw); go_simp; (try with_reducible rfl))
      try simp only [Act.put, List.setIfInBounds_toArray, List.set_cons_zero, List.set_cons_succ]
      refine wpAnyH_take (i := 23) (oi := { dst := some 49, op := Op.load 23 (Operand.tmp 48), type := 23, pos := "law.go:114", after := #[{ on := 22, ground := Ground.data }, { on := 20, ground := Ground.guard }], guard := some (20, false) }) rfl (by kernel_rfl) (by kernel_rfl) (by kernel_rfl) (fun _ _ _ h => h) (yields_load (by kernel_rfl) 23 (.tmp 48) rfl ((fun i => fad (f i) (g i).a) (k)).v (fun V hV => ldi (b := b5) (f := fun i => fad (f i) (g i).a) hV (by simp) (k) hlt)) (by assumption) ?_
      try simp only [Act.put, List.setIfInBounds_toArray, List.set_cons_zero, List.set_cons_succ]
      refine wpAnyH_take (i := 24) (oi := { dst := some 50, op := Op.move (Operand.tmp 6), type := 3, pos := "law.go:114", after := #[{ on := 20, ground := Ground.guard }], guard := some (20, false) }) (v := ?_) rfl (by kernel_rfl) (by kernel_rfl) (by kernel_rfl) (fun _ _ _ h => h) (Or.inl ⟨by kernel_rfl, ?_⟩) (by assumption) ?_
      rotate_left 1
      focus (intro w hSw; (try dsimp only at hSw); go_simp; (try with_reducible rfl))
      try simp only [Act.put, List.setIfInBounds_toArray, List.set_cons_zero, List.set_cons_succ]
      refine wpAnyH_take (i := 25) (oi := { dst := some 51, op := Op.fieldAddr 39 (Operand.tmp 1) 0, type := 0, pos := "law.go:114", after := #[{ on := 20, ground := Ground.guard }], guard := some (20, false) }) (v := ?_) rfl (by kernel_rfl) (by kernel_rfl) (by kernel_rfl) (fun _ _ _ h => h) (Or.inl ⟨by kernel_rfl, ?_⟩) (by assumption) ?_
      rotate_left 1
      focus (intro w hSw; (try dsimp only at hSw); go_simp; (try with_reducible rfl))
      try simp only [Act.put, List.setIfInBounds_toArray, List.set_cons_zero, List.set_cons_succ]
      refine wpAnyH_take (i := 26) (oi := { dst := some 52, op := Op.indexAddr 25 (Operand.tmp 51) (Operand.tmp 50), type := 0, pos := "law.go:114", after := #[{ on := 25, ground := Ground.data }, { on := 24, ground := Ground.data }, { on := 20, ground := Ground.guard }], guard := some (20, false) }) (v := ?_) rfl (by kernel_rfl) (by kernel_rfl) (by kernel_rfl) (fun _ _ _ h => h) (Or.inl ⟨by kernel_rfl, ?_⟩) (by assumption) ?_
      rotate_left 1
      focus (intro w hSw; (try dsimp only at hSw); go_simp; (try with_reducible rfl))
      try simp only [Act.put, List.setIfInBounds_toArray, List.set_cons_zero, List.set_cons_succ]
      refine wpAnyH_take (i := 27) (oi := { dst := some 53, op := Op.load 23 (Operand.tmp 52), type := 23, pos := "law.go:114", after := #[{ on := 26, ground := Ground.data }, { on := 20, ground := Ground.guard }], guard := some (20, false) }) rfl (by kernel_rfl) (by kernel_rfl) (by kernel_rfl) (fun _ _ _ h => h) (yields_load (by kernel_rfl) 23 (.tmp 52) rfl ((f k).v) (fun V hV => ld_bpx (b := w.heap.size) (f := f) (g := g) (m := m) (c := c) hV (by simp) k hlt)) (by assumption) ?_
      try simp only [Act.put, List.setIfInBounds_toArray, List.set_cons_zero, List.set_cons_succ]
      refine wpAnyH_take (i := 28) (oi := { dst := some 54, op := Op.move (Operand.tmp 6), type := 3, pos := "law.go:114", after := #[{ on := 20, ground := Ground.guard }], guard := some (20, false) }) (v := ?_) rfl (by kernel_rfl) (by kernel_rfl) (by kernel_rfl) (fun _ _ _ h => h) (Or.inl ⟨by kernel_rfl, ?_⟩) (by assumption) ?_
      rotate_left 1
      focus (intro w hSw; (try dsimp only at hSw); go_simp; (try with_reducible rfl))
      try simp only [Act.put, List.setIfInBounds_toArray, List.set_cons_zero, List.set_cons_succ]
      refine wpAnyH_take (i := 29) (oi := { dst := some 55, op := Op.fieldAddr 39 (Operand.tmp 1) 1, type := 0, pos := "law.go:114", after := #[{ on := 20, ground := Ground.guard }], guard := some (20, false) }) (v := ?_) rfl (by kernel_rfl) (by kernel_rfl) (by kernel_rfl) (fun _ _ _ h => h) (Or.inl ⟨by kernel_rfl, ?_⟩) (by assumption) ?_
      rotate_left 1
      focus (intro w hSw; (try dsimp only at hSw); go_simp; (try with_reducible rfl))
      try simp only [Act.put, List.setIfInBounds_toArray, List.set_cons_zero, List.set_cons_succ]
      refine wpAnyH_take (i := 30) (oi := { dst := some 56, op := Op.indexAddr 25 (Operand.tmp 55) (Operand.tmp 54), type := 0, pos := "law.go:114", after := #[{ on := 29, ground := Ground.data }, { on := 28, ground := Ground.data }, { on := 20, ground := Ground.guard }], guard := some (20, false) }) (v := ?_) rfl (by kernel_rfl) (by kernel_rfl) (by kernel_rfl) (fun _ _ _ h => h) (Or.inl ⟨by kernel_rfl, ?_⟩) (by assumption) ?_
      rotate_left 1
      focus (intro w hSw; (try dsimp only at hSw); go_simp; (try with_reducible rfl))
      try simp only [Act.put, List.setIfInBounds_toArray, List.set_cons_zero, List.set_cons_succ]
      refine wpAnyH_take (i := 31) (oi := { dst := some 57, op := Op.fieldAddr 23 (Operand.tmp 56) 3, type := 0, pos := "law.go:114", after := #[{ on := 30, ground := Ground.data }, { on := 20, ground := Ground.guard }], guard := some (20, false) }) (v := ?_) rfl (by kernel_rfl) (by kernel_rfl) (by kernel_rfl) (fun _ _ _ h => h) (Or.inl ⟨by kernel_rfl, ?_⟩) (by assumption) ?_
      rotate_left 1
      focus (intro w hSw; (try dsimp only at hSw); go_simp; (try with_reducible rfl))
      try simp only [Act.put, List.setIfInBounds_toArray, List.set_cons_zero, List.set_cons_succ]
      refine wpAnyH_take (i := 32) (oi := { dst := some 58, op := Op.load 5 (Operand.tmp 57), type := 5, pos := "law.go:114", after := #[{ on := 31, ground := Ground.data }, { on := 20, ground := Ground.guard }], guard := some (20, false) }) rfl (by kernel_rfl) (by kernel_rfl) (by kernel_rfl) (fun _ _ _ h => h) (yields_load (by kernel_rfl) 5 (.tmp 57) rfl (.int .u8 (g k).a) (fun V hV => ld_salpha (b := w.heap.size) (f := f) (g := g) (m := m) (c := c) hV (by simp) k hlt)) (by assumption) ?_
      try simp only [Act.put, List.setIfInBounds_toArray, List.set_cons_zero, List.set_cons_succ]
      refine wpAnyH_take (i := 33) (oi := { dst := some 59, op := Op.convert 5 3 (Operand.tmp 58), type := 3, pos := "law.go:114", after := #[{ on := 32, ground := Ground.data }, { on := 20, ground := Ground.guard }], guard := some (20, false) }) (v := ?_) rfl (by kernel_rfl) (by kernel_rfl) (by kernel_rfl) (fun _ _ _ h => h) (Or.inl ⟨by kernel_rfl, ?_⟩) (by assumption) ?_
      rotate_left 1
      focus (intro w hSw; (try dsimp only at hSw); go_simp; (try with_reducible rfl))
      try simp only [Act.put, List.setIfInBounds_toArray, List.set_cons_zero, List.set_cons_succ]
      refine wpAnyH_ready (rs := [34]) (by kernel_rfl) (by simp) (AllReadyH.cons (o := { dst := some 60, op := Op.call { callee := Callee.value (Operand.func 35), args := #[Operand.tmp 53, Operand.tmp 59], argTypes := #[23, 3] }, type := 23, pos := "law.go:114", after := #[{ on := 27, ground := Ground.data }, { on := 33, ground := Ground.data }, { on := 20, ground := Ground.chain }, { on := 20, ground := Ground.guard }], guard := some (20, false) }) rfl (fun K hK => ?_) AllReadyH.nil)
      (go_simp; (go_at_call 35; (refine (St.call h51r7 (fade_any (f k).r (f k).g (f k).b (f k).a (g k).a _ hf1.2.2.2)).mono ?_); rintro e V2r7 ⟨rfl, h52r7⟩))
      refine hK.out _ _ ?_ (fun hHeld => ?_)
      · (first | exact h52r7 | exact h52r7.tl)
      clear hK K
      try simp only [Act.put, List.setIfInBounds_toArray, List.set_cons_zero, List.set_cons_succ]
      refine wpAnyH_take (i := 35) (oi := { dst := some 61, op := Op.binOp BinOp.neq 23 (Operand.tmp 49) (Operand.tmp 60) 23, type := 4, pos := "law.go:114", after := #[{ on := 23, ground := Ground.data }, { on := 34, ground := Ground.data }, { on := 20, ground := Ground.guard }], guard := some (20, false) }) rfl (by kernel_rfl) (by kernel_rfl) (by kernel_rfl) (fun _ _ _ h => h) (yields_bin (by kernel_rfl) .neq 23 (.tmp 49) (.tmp 60) 23 rfl _ _ rfl rfl guard_px (.bool false) (fun V => HN2.out V)) (by assumption) ?_
      try simp only [Act.put, List.setIfInBounds_toArray, List.set_cons_zero, List.set_cons_succ]
      refine wpAnyH_take (i := 36) (oi := { dst := some 62, op := Op.pick (Operand.tmp 46) (Operand.const (Value.bool true)) (Operand.tmp 61), type := 4, pos := "law.go:114", after := #[{ on := 20, ground := Ground.data }, { on := 35, ground := Ground.data }], guard := none }) (v := ?_) rfl (by kernel_rfl) (by kernel_rfl) (by kernel_rfl) (fun _ _ _ h => h) (Or.inl ⟨by kernel_rfl, ?_⟩) (by assumption) ?_
      rotate_left 1
      focus (intro w hSw; (try dsimp only at hSw); go_simp; (try with_reducible rfl))
      try simp only [Act.put, List.setIfInBounds_toArray, List.set_cons_zero, List.set_cons_succ]
      refine wpAnyH_done (by kernel_rfl) ?_ _
      have H8 := Lib.hid h52r7
      go_wp2
      go_roundw
      case rel => exact ⟨k + 1, by omega, by go_num, H8.out⟩
      case measure => simp [intOf]; omega
    · obtain rfl : k = 64 := by omega
      have h6 := HT.out
      go_upto_region 9 with fail
      refine wp_region_held_drew (S := fun V9 => St w ((b5, tob (fun i => fad (f i) (g i).a)) :: ((b4, tob (fun i => ovr (f i) (g i) m (c i))) :: [(w.heap.size, lob f g m c)])) V9) (by kernel_rfl) ?_ (fun hHeld => ?_)
      · exact h6.drew
      have h60 := h6.drew
      refine wpAnyH_take (i := 0) (oi := { dst := some 63, op := Op.move (Operand.tmp 3), type := 4, pos := "law.go:118", after := #[], guard := none }) (v := ?_) rfl (by kernel_rfl) (by kernel_rfl) (by kernel_rfl) (fun _ _ _ h => h) (Or.inl ⟨by kernel_rfl, ?_⟩) (by assumption) ?_
      rotate_left 1
      focus (intro w hSw; (try dsimp only at hSw); go_simp; (try with_reducible rfl))
      try simp only [Act.put, List.setIfInBounds_toArray, List.set_cons_zero, List.set_cons_succ]
      refine wpAnyH_take (i := 1) (oi := { dst := some 64, op := Op.move (Operand.tmp 63), type := 4, pos := "law.go:118", after := #[{ on := 0, ground := Ground.data }], guard := none }) (v := ?_) rfl (by kernel_rfl) (by kernel_rfl) (by kernel_rfl) (fun _ _ _ h => h) (Or.inl ⟨by kernel_rfl, ?_⟩) (by assumption) ?_
      rotate_left 1
      focus (intro w hSw; (try dsimp only at hSw); go_simp; (try with_reducible rfl))
      try simp only [Act.put, List.setIfInBounds_toArray, List.set_cons_zero, List.set_cons_succ]
      refine wpAnyH_take (i := 2) (oi := { dst := some 65, op := Op.load 25 (Operand.tmp 4), type := 25, pos := "law.go:118", after := #[{ on := 1, ground := Ground.guard }], guard := some (1, true) }) rfl (by kernel_rfl) (by kernel_rfl) (by kernel_rfl) (fun _ _ _ h => h) (yields_load (by kernel_rfl) 25 (.tmp 4) rfl (tv (fun i => ovr (f i) (g i) m (c i))) (fun V hV => ld (b := b4) (f := fun i => ovr (f i) (g i) m (c i)) hV (by simp))) (by assumption) ?_
      try simp only [Act.put, List.setIfInBounds_toArray, List.set_cons_zero, List.set_cons_succ]
      refine wpAnyH_take (i := 4) (oi := { dst := some 67, op := Op.fieldAddr 39 (Operand.tmp 1) 0, type := 0, pos := "law.go:118", after := #[{ on := 1, ground := Ground.guard }], guard := some (1, true) }) (v := ?_) rfl (by kernel_rfl) (by kernel_rfl) (by kernel_rfl) (fun _ _ _ h => h) (Or.inl ⟨by kernel_rfl, ?_⟩) (by assumption) ?_
      rotate_left 1
      focus (intro w hSw; (try dsimp only at hSw); go_simp; (try with_reducible rfl))
      try simp only [Act.put, List.setIfInBounds_toArray, List.set_cons_zero, List.set_cons_succ]
      refine wpAnyH_take (i := 5) (oi := { dst := some 68, op := Op.load 25 (Operand.tmp 67), type := 25, pos := "law.go:118", after := #[{ on := 4, ground := Ground.data }, { on := 1, ground := Ground.guard }], guard := some (1, true) }) rfl (by kernel_rfl) (by kernel_rfl) (by kernel_rfl) (fun _ _ _ h => h) (yields_load (by kernel_rfl) 25 (.tmp 67) rfl (tv f) (fun V hV => ld_back (b := w.heap.size) (f := f) (g := g) (m := m) (c := c) hV (by simp))) (by assumption) ?_
      try simp only [Act.put, List.setIfInBounds_toArray, List.set_cons_zero, List.set_cons_succ]
      refine wpAnyH_take (i := 7) (oi := { dst := some 70, op := Op.fieldAddr 39 (Operand.tmp 1) 1, type := 0, pos := "law.go:118", after := #[{ on := 1, ground := Ground.guard }], guard := some (1, true) }) (v := ?_) rfl (by kernel_rfl) (by kernel_rfl) (by kernel_rfl) (fun _ _ _ h => h) (Or.inl ⟨by kernel_rfl, ?_⟩) (by assumption) ?_
      rotate_left 1
      focus (intro w hSw; (try dsimp only at hSw); go_simp; (try with_reducible rfl))
      try simp only [Act.put, List.setIfInBounds_toArray, List.set_cons_zero, List.set_cons_succ]
      refine wpAnyH_take (i := 8) (oi := { dst := some 71, op := Op.load 25 (Operand.tmp 70), type := 25, pos := "law.go:118", after := #[{ on := 7, ground := Ground.data }, { on := 1, ground := Ground.guard }], guard := some (1, true) }) rfl (by kernel_rfl) (by kernel_rfl) (by kernel_rfl) (fun _ _ _ h => h) (yields_load (by kernel_rfl) 25 (.tmp 70) rfl (tv g) (fun V hV => ld_src (b := w.heap.size) (f := f) (g := g) (m := m) (c := c) hV (by simp))) (by assumption) ?_
      try simp only [Act.put, List.setIfInBounds_toArray, List.set_cons_zero, List.set_cons_succ]
      refine wpAnyH_take (i := 10) (oi := { dst := some 73, op := Op.fieldAddr 39 (Operand.tmp 1) 2, type := 0, pos := "law.go:118", after := #[{ on := 1, ground := Ground.guard }], guard := some (1, true) }) (v := ?_) rfl (by kernel_rfl) (by kernel_rfl) (by kernel_rfl) (fun _ _ _ h => h) (Or.inl ⟨by kernel_rfl, ?_⟩) (by assumption) ?_
      rotate_left 1
      focus (intro w hSw; (try dsimp only at hSw); go_simp; (try with_reducible rfl))
      try simp only [Act.put, List.setIfInBounds_toArray, List.set_cons_zero, List.set_cons_succ]
      refine wpAnyH_take (i := 11) (oi := { dst := some 74, op := Op.load 3 (Operand.tmp 73), type := 3, pos := "law.go:118", after := #[{ on := 10, ground := Ground.data }, { on := 1, ground := Ground.guard }], guard := some (1, true) }) rfl (by kernel_rfl) (by kernel_rfl) (by kernel_rfl) (fun _ _ _ h => h) (yields_load (by kernel_rfl) 3 (.tmp 73) rfl (.int .i64 m) (fun V hV => ld_mode (b := w.heap.size) (f := f) (g := g) (m := m) (c := c) hV (by simp))) (by assumption) ?_
      try simp only [Act.put, List.setIfInBounds_toArray, List.set_cons_zero, List.set_cons_succ]
      refine wpAnyH_take (i := 12) (oi := { dst := some 75, op := Op.fieldAddr 39 (Operand.tmp 1) 3, type := 0, pos := "law.go:118", after := #[{ on := 1, ground := Ground.guard }], guard := some (1, true) }) (v := ?_) rfl (by kernel_rfl) (by kernel_rfl) (by kernel_rfl) (fun _ _ _ h => h) (Or.inl ⟨by kernel_rfl, ?_⟩) (by assumption) ?_
      rotate_left 1
      focus (intro w hSw; (try dsimp only at hSw); go_simp; (try with_reducible rfl))
      try simp only [Act.put, List.setIfInBounds_toArray, List.set_cons_zero, List.set_cons_succ]
      refine wpAnyH_take (i := 13) (oi := { dst := some 76, op := Op.load 37 (Operand.tmp 75), type := 37, pos := "law.go:118", after := #[{ on := 12, ground := Ground.data }, { on := 1, ground := Ground.guard }], guard := some (1, true) }) rfl (by kernel_rfl) (by kernel_rfl) (by kernel_rfl) (fun _ _ _ h => h) (yields_load (by kernel_rfl) 37 (.tmp 75) rfl (.agg (cvc c)) (fun V hV => ld_cov (b := w.heap.size) (f := f) (g := g) (m := m) (c := c) hV (by simp))) (by assumption) ?_
      try simp only [Act.put, List.setIfInBounds_toArray, List.set_cons_zero, List.set_cons_succ]
      refine wpAnyH_ready (rs := [3]) (by kernel_rfl) (by simp) (AllReadyH.cons (o := { dst := some 66, op := Op.call { callee := Callee.value (Operand.func 30), args := #[Operand.tmp 65], argTypes := #[25] }, type := 25, pos := "law.go:118", after := #[{ on := 2, ground := Ground.data }, { on := 1, ground := Ground.chain }, { on := 1, ground := Ground.guard }], guard := some (1, true) }) rfl (fun K hK => ?_) AllReadyH.nil)
      (go_simp; (go_at_call 30; (refine (St.call h60 (turn_any (fun i => ovr (f i) (g i) m (c i)) _)).mono ?_); rintro e V1r9 ⟨rfl, h61r9⟩))
      refine hK.out _ _ ?_ (fun hHeld => ?_)
      · (first | exact h61r9 | exact h61r9.tl)
      clear hK K
      try simp only [Act.put, List.setIfInBounds_toArray, List.set_cons_zero, List.set_cons_succ]
      refine wpAnyH_ready (rs := [6]) (by kernel_rfl) (by simp) (AllReadyH.cons (o := { dst := some 69, op := Op.call { callee := Callee.value (Operand.func 30), args := #[Operand.tmp 68], argTypes := #[25] }, type := 25, pos := "law.go:118", after := #[{ on := 5, ground := Ground.data }, { on := 3, ground := Ground.chain }, { on := 1, ground := Ground.guard }], guard := some (1, true) }) rfl (fun K hK => ?_) AllReadyH.nil)
      (go_simp; (go_at_call 30; (refine (St.call h61r9 (turn_any f _)).mono ?_); rintro e V2r9 ⟨rfl, h62r9⟩))
      refine hK.out _ _ ?_ (fun hHeld => ?_)
      · (first | exact h62r9 | exact h62r9.tl)
      clear hK K
      try simp only [Act.put, List.setIfInBounds_toArray, List.set_cons_zero, List.set_cons_succ]
      refine wpAnyH_ready (rs := [9]) (by kernel_rfl) (by simp) (AllReadyH.cons (o := { dst := some 72, op := Op.call { callee := Callee.value (Operand.func 30), args := #[Operand.tmp 71], argTypes := #[25] }, type := 25, pos := "law.go:118", after := #[{ on := 8, ground := Ground.data }, { on := 6, ground := Ground.chain }, { on := 1, ground := Ground.guard }], guard := some (1, true) }) rfl (fun K hK => ?_) AllReadyH.nil)
      (go_simp; (go_at_call 30; (refine (St.call h62r9 (turn_any g _)).mono ?_); rintro e V3r9 ⟨rfl, h63r9⟩))
      refine hK.out _ _ ?_ (fun hHeld => ?_)
      · (first | exact h63r9 | exact h63r9.tl)
      clear hK K
      try simp only [Act.put, List.setIfInBounds_toArray, List.set_cons_zero, List.set_cons_succ]
      refine wpAnyH_ready (rs := [14]) (by kernel_rfl) (by simp) (AllReadyH.cons (o := { dst := some 77, op := Op.call { callee := Callee.value (Operand.func 36), args := #[Operand.tmp 76], argTypes := #[37] }, type := 37, pos := "law.go:118", after := #[{ on := 13, ground := Ground.data }, { on := 9, ground := Ground.chain }, { on := 1, ground := Ground.guard }], guard := some (1, true) }) rfl (fun K hK => ?_) AllReadyH.nil)
      (go_simp; (go_at_call 36; (refine (St.call h63r9 (turnCov_any c _)).mono ?_); rintro e V4r9 ⟨rfl, h64r9⟩))
      refine hK.out _ _ ?_ (fun hHeld => ?_)
      · (first | exact h64r9 | exact h64r9.tl)
      clear hK K
      try simp only [Act.put, List.setIfInBounds_toArray, List.set_cons_zero, List.set_cons_succ]
      refine wpAnyH_ready (rs := [15]) (by kernel_rfl) (by simp) (AllReadyH.cons (o := { dst := some 78, op := Op.call { callee := Callee.value (Operand.func 24), args := #[Operand.tmp 69, Operand.tmp 72, Operand.tmp 74, Operand.tmp 77], argTypes := #[25, 25, 3, 37] }, type := 25, pos := "law.go:118", after := #[{ on := 6, ground := Ground.data }, { on := 9, ground := Ground.data }, { on := 11, ground := Ground.data }, { on := 14, ground := Ground.data }, { on := 14, ground := Ground.chain }, { on := 1, ground := Ground.guard }], guard := some (1, true) }) rfl (fun K hK => ?_) AllReadyH.nil)
      (go_simp; (go_at_call 24; (refine (St.call h64r9 (tover_any (fun i => f (turnI i)) (fun i => g (turnI i)) m (fun i => c (turnI i)) _ HFT.out HGT.out HCT.out)).mono ?_); rintro e V5r9 ⟨rfl, h65r9⟩))
      refine hK.out _ _ ?_ (fun hHeld => ?_)
      · (first | exact h65r9 | exact h65r9.tl)
      clear hK K
      try simp only [Act.put, List.setIfInBounds_toArray, List.set_cons_zero, List.set_cons_succ]
      refine wpAnyH_take (i := 16) (oi := { dst := some 79, op := Op.binOp BinOp.eql 25 (Operand.tmp 66) (Operand.tmp 78) 25, type := 4, pos := "law.go:118", after := #[{ on := 3, ground := Ground.data }, { on := 15, ground := Ground.data }, { on := 1, ground := Ground.guard }], guard := some (1, true) }) rfl (by kernel_rfl) (by kernel_rfl) (by kernel_rfl) (fun _ _ _ h => h) (yields_bin (by kernel_rfl) .eql 25 (.tmp 66) (.tmp 78) 25 rfl _ _ rfl rfl guard_tile (.bool true) (fun V => HE1.out V)) (by assumption) ?_
      try simp only [Act.put, List.setIfInBounds_toArray, List.set_cons_zero, List.set_cons_succ]
      refine wpAnyH_take (i := 17) (oi := { dst := some 80, op := Op.pick (Operand.tmp 64) (Operand.tmp 79) (Operand.const (Value.bool false)), type := 4, pos := "law.go:118", after := #[{ on := 1, ground := Ground.data }, { on := 16, ground := Ground.data }], guard := none }) (v := ?_) rfl (by kernel_rfl) (by kernel_rfl) (by kernel_rfl) (fun _ _ _ h => h) (Or.inl ⟨by kernel_rfl, ?_⟩) (by assumption) ?_
      rotate_left 1
      focus (intro w hSw; (try dsimp only at hSw); go_simp; (try with_reducible rfl))
      try simp only [Act.put, List.setIfInBounds_toArray, List.set_cons_zero, List.set_cons_succ]
      refine wpAnyH_take (i := 18) (oi := { dst := some 81, op := Op.move (Operand.tmp 80), type := 4, pos := "law.go:118", after := #[{ on := 17, ground := Ground.data }, { on := 15, ground := Ground.chain }], guard := none }) (v := ?_) rfl (by kernel_rfl) (by kernel_rfl) (by kernel_rfl) (fun _ _ _ h => h) (Or.inl ⟨by kernel_rfl, ?_⟩) (by assumption) ?_
      rotate_left 1
      focus (intro w hSw; (try dsimp only at hSw); go_simp; (try with_reducible rfl))
      try simp only [Act.put, List.setIfInBounds_toArray, List.set_cons_zero, List.set_cons_succ]
      refine wpAnyH_take (i := 19) (oi := { dst := some 82, op := Op.load 25 (Operand.tmp 5), type := 25, pos := "law.go:118", after := #[{ on := 18, ground := Ground.guard }], guard := some (18, true) }) rfl (by kernel_rfl) (by kernel_rfl) (by kernel_rfl) (fun _ _ _ h => h) (yields_load (by kernel_rfl) 25 (.tmp 5) rfl (tv (fun i => fad (f i) (g i).a)) (fun V hV => ld (b := b5) (f := fun i => fad (f i) (g i).a) hV (by simp))) (by assumption) ?_
      try simp only [Act.put, List.setIfInBounds_toArray, List.set_cons_zero, List.set_cons_succ]
      refine wpAnyH_take (i := 21) (oi := { dst := some 84, op := Op.fieldAddr 39 (Operand.tmp 1) 0, type := 0, pos := "law.go:118", after := #[{ on := 18, ground := Ground.guard }], guard := some (18, true) }) (v := ?_) rfl (by kernel_rfl) (by kernel_rfl) (by kernel_rfl) (fun _ _ _ h => h) (Or.inl ⟨by kernel_rfl, ?_⟩) (by assumption) ?_
      rotate_left 1
      focus (intro w hSw; (try dsimp only at hSw); go_simp; (try with_reducible rfl))
      try simp only [Act.put, List.setIfInBounds_toArray, List.set_cons_zero, List.set_cons_succ]
      refine wpAnyH_take (i := 22) (oi := { dst := some 85, op := Op.load 25 (Operand.tmp 84), type := 25, pos := "law.go:118", after := #[{ on := 21, ground := Ground.data }, { on := 18, ground := Ground.guard }], guard := some (18, true) }) rfl (by kernel_rfl) (by kernel_rfl) (by kernel_rfl) (fun _ _ _ h => h) (yields_load (by kernel_rfl) 25 (.tmp 84) rfl (tv f) (fun V hV => ld_back (b := w.heap.size) (f := f) (g := g) (m := m) (c := c) hV (by simp))) (by assumption) ?_
      try simp only [Act.put, List.setIfInBounds_toArray, List.set_cons_zero, List.set_cons_succ]
      refine wpAnyH_take (i := 24) (oi := { dst := some 87, op := Op.fieldAddr 39 (Operand.tmp 1) 1, type := 0, pos := "law.go:118", after := #[{ on := 18, ground := Ground.guard }], guard := some (18, true) }) (v := ?_) rfl (by kernel_rfl) (by kernel_rfl) (by kernel_rfl) (fun _ _ _ h => h) (Or.inl ⟨by kernel_rfl, ?_⟩) (by assumption) ?_
      rotate_left 1
      focus (intro w hSw; (try dsimp only at hSw); go_simp; (try with_reducible rfl))
      try simp only [Act.put, List.setIfInBounds_toArray, List.set_cons_zero, List.set_cons_succ]
      refine wpAnyH_take (i := 25) (oi := { dst := some 88, op := Op.load 25 (Operand.tmp 87), type := 25, pos := "law.go:118", after := #[{ on := 24, ground := Ground.data }, { on := 18, ground := Ground.guard }], guard := some (18, true) }) rfl (by kernel_rfl) (by kernel_rfl) (by kernel_rfl) (fun _ _ _ h => h) (yields_load (by kernel_rfl) 25 (.tmp 87) rfl (tv g) (fun V hV => ld_src (b := w.heap.size) (f := f) (g := g) (m := m) (c := c) hV (by simp))) (by assumption) ?_
      try simp only [Act.put, List.setIfInBounds_toArray, List.set_cons_zero, List.set_cons_succ]
      refine wpAnyH_ready (rs := [20]) (by kernel_rfl) (by simp) (AllReadyH.cons (o := { dst := some 83, op := Op.call { callee := Callee.value (Operand.func 30), args := #[Operand.tmp 82], argTypes := #[25] }, type := 25, pos := "law.go:118", after := #[{ on := 19, ground := Ground.data }, { on := 18, ground := Ground.chain }, { on := 18, ground := Ground.guard }], guard := some (18, true) }) rfl (fun K hK => ?_) AllReadyH.nil)
      (go_simp; (go_at_call 30; (refine (St.call h65r9 (turn_any (fun i => fad (f i) (g i).a) _)).mono ?_); rintro e V6r9 ⟨rfl, h66r9⟩))
      refine hK.out _ _ ?_ (fun hHeld => ?_)
      · (first | exact h66r9 | exact h66r9.tl)
      clear hK K
      try simp only [Act.put, List.setIfInBounds_toArray, List.set_cons_zero, List.set_cons_succ]
      refine wpAnyH_ready (rs := [23]) (by kernel_rfl) (by simp) (AllReadyH.cons (o := { dst := some 86, op := Op.call { callee := Callee.value (Operand.func 30), args := #[Operand.tmp 85], argTypes := #[25] }, type := 25, pos := "law.go:118", after := #[{ on := 22, ground := Ground.data }, { on := 20, ground := Ground.chain }, { on := 18, ground := Ground.guard }], guard := some (18, true) }) rfl (fun K hK => ?_) AllReadyH.nil)
      (go_simp; (go_at_call 30; (refine (St.call h66r9 (turn_any f _)).mono ?_); rintro e V7r9 ⟨rfl, h67r9⟩))
      refine hK.out _ _ ?_ (fun hHeld => ?_)
      · (first | exact h67r9 | exact h67r9.tl)
      clear hK K
      try simp only [Act.put, List.setIfInBounds_toArray, List.set_cons_zero, List.set_cons_succ]
      refine wpAnyH_ready (rs := [26]) (by kernel_rfl) (by simp) (AllReadyH.cons (o := { dst := some 89, op := Op.call { callee := Callee.value (Operand.func 30), args := #[Operand.tmp 88], argTypes := #[25] }, type := 25, pos := "law.go:118", after := #[{ on := 25, ground := Ground.data }, { on := 23, ground := Ground.chain }, { on := 18, ground := Ground.guard }], guard := some (18, true) }) rfl (fun K hK => ?_) AllReadyH.nil)
      (go_simp; (go_at_call 30; (refine (St.call h67r9 (turn_any g _)).mono ?_); rintro e V8r9 ⟨rfl, h68r9⟩))
      refine hK.out _ _ ?_ (fun hHeld => ?_)
      · (first | exact h68r9 | exact h68r9.tl)
      clear hK K
      try simp only [Act.put, List.setIfInBounds_toArray, List.set_cons_zero, List.set_cons_succ]
      refine wpAnyH_ready (rs := [27]) (by kernel_rfl) (by simp) (AllReadyH.cons (o := { dst := some 90, op := Op.call { callee := Callee.value (Operand.func 26), args := #[Operand.tmp 86, Operand.tmp 89], argTypes := #[25, 25] }, type := 25, pos := "law.go:118", after := #[{ on := 23, ground := Ground.data }, { on := 26, ground := Ground.data }, { on := 26, ground := Ground.chain }, { on := 18, ground := Ground.guard }], guard := some (18, true) }) rfl (fun K hK => ?_) AllReadyH.nil)
      (go_simp; (go_at_call 26; (refine (St.call h68r9 (mask_any (fun i => f (turnI i)) (fun i => g (turnI i)) _ HFT.out HGT.out)).mono ?_); rintro e V9r9 ⟨rfl, h69r9⟩))
      refine hK.out _ _ ?_ (fun hHeld => ?_)
      · (first | exact h69r9 | exact h69r9.tl)
      clear hK K
      try simp only [Act.put, List.setIfInBounds_toArray, List.set_cons_zero, List.set_cons_succ]
      refine wpAnyH_take (i := 28) (oi := { dst := some 91, op := Op.binOp BinOp.eql 25 (Operand.tmp 83) (Operand.tmp 90) 25, type := 4, pos := "law.go:118", after := #[{ on := 20, ground := Ground.data }, { on := 27, ground := Ground.data }, { on := 18, ground := Ground.guard }], guard := some (18, true) }) rfl (by kernel_rfl) (by kernel_rfl) (by kernel_rfl) (fun _ _ _ h => h) (yields_bin (by kernel_rfl) .eql 25 (.tmp 83) (.tmp 90) 25 rfl _ _ rfl rfl guard_tile (.bool true) (fun V => HE2.out V)) (by assumption) ?_
      try simp only [Act.put, List.setIfInBounds_toArray, List.set_cons_zero, List.set_cons_succ]
      refine wpAnyH_take (i := 29) (oi := { dst := some 92, op := Op.pick (Operand.tmp 81) (Operand.tmp 91) (Operand.const (Value.bool false)), type := 4, pos := "law.go:118", after := #[{ on := 18, ground := Ground.data }, { on := 28, ground := Ground.data }], guard := none }) (v := ?_) rfl (by kernel_rfl) (by kernel_rfl) (by kernel_rfl) (fun _ _ _ h => h) (Or.inl ⟨by kernel_rfl, ?_⟩) (by assumption) ?_
      rotate_left 1
      focus (intro w hSw; (try dsimp only at hSw); go_simp; (try with_reducible rfl))
      try simp only [Act.put, List.setIfInBounds_toArray, List.set_cons_zero, List.set_cons_succ]
      refine wpAnyH_take (i := 30) (oi := { dst := some 93, op := Op.move (Operand.tmp 92), type := 4, pos := "law.go:118", after := #[{ on := 29, ground := Ground.data }, { on := 27, ground := Ground.chain }], guard := none }) (v := ?_) rfl (by kernel_rfl) (by kernel_rfl) (by kernel_rfl) (fun _ _ _ h => h) (Or.inl ⟨by kernel_rfl, ?_⟩) (by assumption) ?_
      rotate_left 1
      focus (intro w hSw; (try dsimp only at hSw); go_simp; (try with_reducible rfl))
      try simp only [Act.put, List.setIfInBounds_toArray, List.set_cons_zero, List.set_cons_succ]
      refine wpAnyH_take (i := 31) (oi := { dst := some 94, op := Op.load 25 (Operand.tmp 5), type := 25, pos := "law.go:118", after := #[{ on := 30, ground := Ground.guard }], guard := some (30, true) }) rfl (by kernel_rfl) (by kernel_rfl) (by kernel_rfl) (fun _ _ _ h => h) (yields_load (by kernel_rfl) 25 (.tmp 5) rfl (tv (fun i => fad (f i) (g i).a)) (fun V hV => ld (b := b5) (f := fun i => fad (f i) (g i).a) hV (by simp))) (by assumption) ?_
      try simp only [Act.put, List.setIfInBounds_toArray, List.set_cons_zero, List.set_cons_succ]
      refine wpAnyH_take (i := 33) (oi := { dst := some 96, op := Op.fieldAddr 39 (Operand.tmp 1) 0, type := 0, pos := "law.go:118", after := #[{ on := 30, ground := Ground.guard }], guard := some (30, true) }) (v := ?_) rfl (by kernel_rfl) (by kernel_rfl) (by kernel_rfl) (fun _ _ _ h => h) (Or.inl ⟨by kernel_rfl, ?_⟩) (by assumption) ?_
      rotate_left 1
      focus (intro w hSw; (try dsimp only at hSw); go_simp; (try with_reducible rfl))
      try simp only [Act.put, List.setIfInBounds_toArray, List.set_cons_zero, List.set_cons_succ]
      refine wpAnyH_take (i := 34) (oi := { dst := some 97, op := Op.load 25 (Operand.tmp 96), type := 25, pos := "law.go:118", after := #[{ on := 33, ground := Ground.data }, { on := 30, ground := Ground.guard }], guard := some (30, true) }) rfl (by kernel_rfl) (by kernel_rfl) (by kernel_rfl) (fun _ _ _ h => h) (yields_load (by kernel_rfl) 25 (.tmp 96) rfl (tv f) (fun V hV => ld_back (b := w.heap.size) (f := f) (g := g) (m := m) (c := c) hV (by simp))) (by assumption) ?_
      try simp only [Act.put, List.setIfInBounds_toArray, List.set_cons_zero, List.set_cons_succ]
      refine wpAnyH_take (i := 36) (oi := { dst := some 99, op := Op.fieldAddr 39 (Operand.tmp 1) 1, type := 0, pos := "law.go:118", after := #[{ on := 30, ground := Ground.guard }], guard := some (30, true) }) (v := ?_) rfl (by kernel_rfl) (by kernel_rfl) (by kernel_rfl) (fun _ _ _ h => h) (Or.inl ⟨by kernel_rfl, ?_⟩) (by assumption) ?_
      rotate_left 1
      focus (intro w hSw; (try dsimp only at hSw); go_simp; (try with_reducible rfl))
      try simp only [Act.put, List.setIfInBounds_toArray, List.set_cons_zero, List.set_cons_succ]
      refine wpAnyH_take (i := 37) (oi := { dst := some 100, op := Op.load 25 (Operand.tmp 99), type := 25, pos := "law.go:118", after := #[{ on := 36, ground := Ground.data }, { on := 30, ground := Ground.guard }], guard := some (30, true) }) rfl (by kernel_rfl) (by kernel_rfl) (by kernel_rfl) (fun _ _ _ h => h) (yields_load (by kernel_rfl) 25 (.tmp 99) rfl (tv g) (fun V hV => ld_src (b := w.heap.size) (f := f) (g := g) (m := m) (c := c) hV (by simp))) (by assumption) ?_
      try simp only [Act.put, List.setIfInBounds_toArray, List.set_cons_zero, List.set_cons_succ]
      refine wpAnyH_ready (rs := [32]) (by kernel_rfl) (by simp) (AllReadyH.cons (o := { dst := some 95, op := Op.call { callee := Callee.value (Operand.func 28), args := #[Operand.tmp 94], argTypes := #[25] }, type := 25, pos := "law.go:118", after := #[{ on := 31, ground := Ground.data }, { on := 30, ground := Ground.chain }, { on := 30, ground := Ground.guard }], guard := some (30, true) }) rfl (fun K hK => ?_) AllReadyH.nil)
      (go_simp; (go_at_call 28; (refine (St.call h69r9 (flip_any (fun i => fad (f i) (g i).a) _)).mono ?_); rintro e V10r9 ⟨rfl, h610r9⟩))
      refine hK.out _ _ ?_ (fun hHeld => ?_)
      · (first | exact h610r9 | exact h610r9.tl)
      clear hK K
      try simp only [Act.put, List.setIfInBounds_toArray, List.set_cons_zero, List.set_cons_succ]
      refine wpAnyH_ready (rs := [35]) (by kernel_rfl) (by simp) (AllReadyH.cons (o := { dst := some 98, op := Op.call { callee := Callee.value (Operand.func 28), args := #[Operand.tmp 97], argTypes := #[25] }, type := 25, pos := "law.go:118", after := #[{ on := 34, ground := Ground.data }, { on := 32, ground := Ground.chain }, { on := 30, ground := Ground.guard }], guard := some (30, true) }) rfl (fun K hK => ?_) AllReadyH.nil)
      (go_simp; (go_at_call 28; (refine (St.call h610r9 (flip_any f _)).mono ?_); rintro e V11r9 ⟨rfl, h611r9⟩))
      refine hK.out _ _ ?_ (fun hHeld => ?_)
      · (first | exact h611r9 | exact h611r9.tl)
      clear hK K
      try simp only [Act.put, List.setIfInBounds_toArray, List.set_cons_zero, List.set_cons_succ]
      refine wpAnyH_ready (rs := [38]) (by kernel_rfl) (by simp) (AllReadyH.cons (o := { dst := some 101, op := Op.call { callee := Callee.value (Operand.func 28), args := #[Operand.tmp 100], argTypes := #[25] }, type := 25, pos := "law.go:118", after := #[{ on := 37, ground := Ground.data }, { on := 35, ground := Ground.chain }, { on := 30, ground := Ground.guard }], guard := some (30, true) }) rfl (fun K hK => ?_) AllReadyH.nil)
      (go_simp; (go_at_call 28; (refine (St.call h611r9 (flip_any g _)).mono ?_); rintro e V12r9 ⟨rfl, h612r9⟩))
      refine hK.out _ _ ?_ (fun hHeld => ?_)
      · (first | exact h612r9 | exact h612r9.tl)
      clear hK K
      try simp only [Act.put, List.setIfInBounds_toArray, List.set_cons_zero, List.set_cons_succ]
      refine wpAnyH_ready (rs := [39]) (by kernel_rfl) (by simp) (AllReadyH.cons (o := { dst := some 102, op := Op.call { callee := Callee.value (Operand.func 26), args := #[Operand.tmp 98, Operand.tmp 101], argTypes := #[25, 25] }, type := 25, pos := "law.go:118", after := #[{ on := 35, ground := Ground.data }, { on := 38, ground := Ground.data }, { on := 38, ground := Ground.chain }, { on := 30, ground := Ground.guard }], guard := some (30, true) }) rfl (fun K hK => ?_) AllReadyH.nil)
      (go_simp; (go_at_call 26; (refine (St.call h612r9 (mask_any (fun i => f (flipI i)) (fun i => g (flipI i)) _ HFF.out HGF.out)).mono ?_); rintro e V13r9 ⟨rfl, h613r9⟩))
      refine hK.out _ _ ?_ (fun hHeld => ?_)
      · (first | exact h613r9 | exact h613r9.tl)
      clear hK K
      try simp only [Act.put, List.setIfInBounds_toArray, List.set_cons_zero, List.set_cons_succ]
      refine wpAnyH_take (i := 40) (oi := { dst := some 103, op := Op.binOp BinOp.eql 25 (Operand.tmp 95) (Operand.tmp 102) 25, type := 4, pos := "law.go:118", after := #[{ on := 32, ground := Ground.data }, { on := 39, ground := Ground.data }, { on := 30, ground := Ground.guard }], guard := some (30, true) }) rfl (by kernel_rfl) (by kernel_rfl) (by kernel_rfl) (fun _ _ _ h => h) (yields_bin (by kernel_rfl) .eql 25 (.tmp 95) (.tmp 102) 25 rfl _ _ rfl rfl guard_tile (.bool true) (fun V => HE3.out V)) (by assumption) ?_
      try simp only [Act.put, List.setIfInBounds_toArray, List.set_cons_zero, List.set_cons_succ]
      refine wpAnyH_take (i := 41) (oi := { dst := some 104, op := Op.pick (Operand.tmp 93) (Operand.tmp 103) (Operand.const (Value.bool false)), type := 4, pos := "law.go:118", after := #[{ on := 30, ground := Ground.data }, { on := 40, ground := Ground.data }], guard := none }) (v := ?_) rfl (by kernel_rfl) (by kernel_rfl) (by kernel_rfl) (fun _ _ _ h => h) (Or.inl ⟨by kernel_rfl, ?_⟩) (by assumption) ?_
      rotate_left 1
      focus (intro w hSw; (try dsimp only at hSw); go_simp; (try with_reducible rfl))
      try simp only [Act.put, List.setIfInBounds_toArray, List.set_cons_zero, List.set_cons_succ]
      refine wpAnyH_take (i := 42) (oi := { dst := some 2, op := Op.assign (Operand.tmp 104), type := 4, pos := "law.go:118", after := #[{ on := 41, ground := Ground.data }, { on := 39, ground := Ground.chain }, { on := 0, ground := Ground.phase }, { on := 1, ground := Ground.phase }, { on := 2, ground := Ground.phase }, { on := 3, ground := Ground.phase }, { on := 4, ground := Ground.phase }, { on := 5, ground := Ground.phase }, { on := 6, ground := Ground.phase }, { on := 7, ground := Ground.phase }, { on := 8, ground := Ground.phase }, { on := 9, ground := Ground.phase }, { on := 10, ground := Ground.phase }, { on := 11, ground := Ground.phase }, { on := 12, ground := Ground.phase }, { on := 13, ground := Ground.phase }, { on := 14, ground := Ground.phase }, { on := 15, ground := Ground.phase }, { on := 16, ground := Ground.phase }, { on := 17, ground := Ground.phase }, { on := 18, ground := Ground.phase }, { on := 19, ground := Ground.phase }, { on := 20, ground := Ground.phase }, { on := 21, ground := Ground.phase }, { on := 22, ground := Ground.phase }, { on := 23, ground := Ground.phase }, { on := 24, ground := Ground.phase }, { on := 25, ground := Ground.phase }, { on := 26, ground := Ground.phase }, { on := 27, ground := Ground.phase }, { on := 28, ground := Ground.phase }, { on := 29, ground := Ground.phase }, { on := 30, ground := Ground.phase }, { on := 31, ground := Ground.phase }, { on := 32, ground := Ground.phase }, { on := 33, ground := Ground.phase }, { on := 34, ground := Ground.phase }, { on := 35, ground := Ground.phase }, { on := 36, ground := Ground.phase }, { on := 37, ground := Ground.phase }, { on := 38, ground := Ground.phase }, { on := 39, ground := Ground.phase }, { on := 40, ground := Ground.phase }, { on := 41, ground := Ground.phase }], guard := none }) (v := ?_) rfl (by kernel_rfl) (by kernel_rfl) (by kernel_rfl) (fun _ _ _ h => h) (Or.inl ⟨by kernel_rfl, ?_⟩) (by assumption) ?_
      rotate_left 1
      focus (intro w hSw; (try dsimp only at hSw); go_simp; (try with_reducible rfl))
      try simp only [Act.put, List.setIfInBounds_toArray, List.set_cons_zero, List.set_cons_succ]
      refine wpAnyH_done (by kernel_rfl) ?_ _
      have HB := Lib.hid h613r9.below
      go_wp2_with fail
      go_ret
      exact ⟨rfl, HB.out⟩

theorem okin (W : World) (base : Nat) : Input.okWide Try.checked.prog W .any base 8 ⟨#[], #[.agg (lay z0 z0 0 (fun _ => 0))], []⟩ := by
  refine ⟨by simp, by simp, by kernel_rfl, Try.f8, Try.func8, by kernel_rfl, by kernel_rfl, by kernel_rfl, by rw [Try.params8]; rfl, ?_⟩
  intro j t v ht hv
  rw [Try.params8] at ht
  match j with
  | 0 => cases (Option.some.inj ht); cases (Option.some.inj hv); exact ok_lay W base
  | j + 1 => simp at ht
set_option maxRecDepth 100000 in
theorem lifted (os : Os) (started : os.Started) (H : Type) (enc : TypeId × Value → H) :
    ReturnsInHanded {} Try.checked os 8 .any (Rows.tilePointwiseSpec.pre6 enc Try.prog Try.f8 Rows.tilePointwiseRow.domain false) (Rows.tilePointwiseSpec.post enc Try.prog Try.f8 false true false false) := by
  refine returnsInHanded_of_change_sized (C := Try.checked) own started (by kernel_rfl) Try.func8
    (witness7 (enc := enc) (C := Try.checked) false ⟨#[], #[.agg (lay z0 z0 0 (fun _ => 0))], []⟩ 8 (by kernel_rfl) (by kernel_rfl) (fun W base => okin W base) (by kernel_rfl) (by kernel_rfl)) ?_
  intro W base args ds gs before hval0 hW _ _ _
  have hval : ∀ (j : Nat) t v, Try.f8.params[j]? = some t → args[j]? = some v → Value.okWide Try.prog W .any base t v := hval0
  have hW' := hW
  obtain ⟨p, q, hA0, hV, rfl, hfz, hnd⟩ := hW
  have hA : DataW.TrodAll enc Try.prog W 0 (fun _ => true) true Try.f8.params.toList args.toList ds p := hA0
  rw [Try.params8] at hA hval
  obtain ⟨v0, d0, rfl, rfl, h0⟩ := trodAll_one hA
  obtain ⟨rfl, rfl⟩ := trodVars_none hV
  obtain ⟨f, g, m, c, rfl, hf, hg, hc⟩ := open_lay (hval 0 39 v0 rfl rfl)
  refine (walk f g m c W hf hg hc).mono fun e W' ⟨he, hb⟩ => ?_
  subst he
  exact ⟨_, rfl, law_post hW' rfl (by kernel_rfl) rfl (by intro t ht; rw [Try.params8] at ht; simp at ht; subst ht; exact ⟨by kernel_rfl, of_decide_eq_true (by kernel_rfl)⟩) hb⟩

theorem holds : Rows.TilePointwiseSaid :=
  OpenClaim.holds_of_wide 8 Try.f8 rfl rfl rfl rfl rfl rfl rfl ⟨rfl, rfl, rfl, rfl, rfl⟩ rfl rfl rfl rfl rfl (by kernel_rfl) Try.func8 (by kernel_rfl)
    (of_decide_eq_true (by kernel_rfl)) (by unfold Func.isWrapper; first | (rw [if_pos (by decide +kernel)]; kernel_rfl) | (rw [if_neg (by decide +kernel)]; exact ⟨rfl, rfl⟩))
    (fun os started H enc _ => lifted os started H enc)
end Go.Proofs.Ytkomknhloimhcaa.T.TLPointwise
