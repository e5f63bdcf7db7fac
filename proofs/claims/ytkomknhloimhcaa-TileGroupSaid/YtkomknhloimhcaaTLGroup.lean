/-
  For every tile and pixel, flipping twice, turning four times, and flip, turn, flip, turn restore the tile; turning keeps the number of pixels of that colour; the symmetries commute with Clean.
-/
import Derived.Test.YtkomknhloimhcaaTLaw
namespace Go.Proofs.Ytkomknhloimhcaa.T.TLGroup
open Go.ChangeShapes Go.WideShapes Go.ChangeAt Go.RowKit Go.Shelf

/-- how many of the pixels below k are p -/
def cn (f : Nat → Px) (p : Px) (k : Nat) : Int := ((List.range k).countP (fun i => peq (f i) p) : Nat)
theorem cn_succ (f : Nat → Px) (p : Px) (k : Nat) : cn f p (k + 1) = cn f p k + (if peq (f k) p = true then 1 else 0) := by
  unfold cn
  rw [List.range_succ, List.countP_append, List.countP_singleton]
  split <;> simp_all
theorem cn_bd (f : Nat → Px) (p : Px) (k : Nat) : 0 ≤ cn f p k ∧ cn f p k ≤ k := by
  unfold cn
  have := List.countP_le_length (l := List.range k) (p := fun i => peq (f i) p)
  rw [List.length_range] at this
  omega
theorem turn_perm : ((List.range 64).map turnI).Perm (List.range 64) := by decide +kernel
theorem cn_turn (f : Nat → Px) (p : Px) : cn (fun i => f (turnI i)) p 64 = cn f p 64 := by
  unfold cn
  rw [← turn_perm.countP_eq (fun i => peq (f i) p), List.countP_map]
  rfl
theorem flip2 {i : Nat} (_h : i < 64) : flipI (flipI i) = i := by unfold flipI; omega
theorem turn4 {i : Nat} (h : i < 64) : turnI (turnI (turnI (turnI i))) = i := by unfold turnI; omega
theorem mix4' : ∀ i, i < 64 → flipI (turnI (flipI (turnI i))) = i := by decide +kernel
theorem mix4 {i : Nat} (h : i < 64) : flipI (turnI (flipI (turnI i))) = i := mix4' i h

set_option maxHeartbeats 8000000 in
set_option maxRecDepth 100000 in
theorem walk (f : Nat → Px) (p : Px) (w : World) (_hf : ∀ i, i < 64 → Pc (f i)) (_hp : Pc p) : Calls Try.prog 7 #[tv f, p.v] w fun e w' => e = .returned (.bool true) ∧ Below w.heap.size w w' := by
  have hs := ((St.start w).alloc (tob f)).alloc (pxo p)
  simp only [World.size_alloc] at hs
  obtain ⟨F1, hF1⟩ : ∃ g : Nat → Px, g = fun i => f (turnI i) := ⟨_, rfl⟩
  obtain ⟨F2, hF2⟩ : ∃ g : Nat → Px, g = fun i => F1 (turnI i) := ⟨_, rfl⟩
  obtain ⟨F3, hF3⟩ : ∃ g : Nat → Px, g = fun i => F2 (turnI i) := ⟨_, rfl⟩
  obtain ⟨F4, hF4⟩ : ∃ g : Nat → Px, g = fun i => F3 (turnI i) := ⟨_, rfl⟩
  obtain ⟨M1, hM1⟩ : ∃ g : Nat → Px, g = fun i => f (flipI i) := ⟨_, rfl⟩
  obtain ⟨M2, hM2⟩ : ∃ g : Nat → Px, g = fun i => M1 (turnI i) := ⟨_, rfl⟩
  obtain ⟨M3, hM3⟩ : ∃ g : Nat → Px, g = fun i => M2 (flipI i) := ⟨_, rfl⟩
  obtain ⟨M4, hM4⟩ : ∃ g : Nat → Px, g = fun i => M3 (turnI i) := ⟨_, rfl⟩
  have HXF1 : Hid (∀ V, Calls Try.prog 30 #[tv f] V fun e w' => e = .returned (tv F1) ∧ Below V.heap.size V w') := fun V => by rw [hF1]; exact turn_any f V
  have HXF2 : Hid (∀ V, Calls Try.prog 30 #[tv F1] V fun e w' => e = .returned (tv F2) ∧ Below V.heap.size V w') := fun V => by rw [hF2]; exact turn_any F1 V
  have HXF3 : Hid (∀ V, Calls Try.prog 30 #[tv F2] V fun e w' => e = .returned (tv F3) ∧ Below V.heap.size V w') := fun V => by rw [hF3]; exact turn_any F2 V
  have HXF4 : Hid (∀ V, Calls Try.prog 30 #[tv F3] V fun e w' => e = .returned (tv F4) ∧ Below V.heap.size V w') := fun V => by rw [hF4]; exact turn_any F3 V
  have HXM1 : Hid (∀ V, Calls Try.prog 28 #[tv f] V fun e w' => e = .returned (tv M1) ∧ Below V.heap.size V w') := fun V => by rw [hM1]; exact flip_any f V
  have HXM2 : Hid (∀ V, Calls Try.prog 30 #[tv M1] V fun e w' => e = .returned (tv M2) ∧ Below V.heap.size V w') := fun V => by rw [hM2]; exact turn_any M1 V
  have HXM3 : Hid (∀ V, Calls Try.prog 28 #[tv M2] V fun e w' => e = .returned (tv M3) ∧ Below V.heap.size V w') := fun V => by rw [hM3]; exact flip_any M2 V
  have HXM4 : Hid (∀ V, Calls Try.prog 30 #[tv M3] V fun e w' => e = .returned (tv M4) ∧ Below V.heap.size V w') := fun V => by rw [hM4]; exact turn_any M3 V
  have HE1 := Lib.hid (eqlTT (f := fun i => (fun i => f (flipI i)) (flipI i)) (g := f) (fun i hi => congrArg f (flip2 hi)))
  have HE2 := Lib.hid (eqlTT (f := F4) (g := f) (fun i hi => by rw [hF4, hF3, hF2, hF1]; exact congrArg f (turn4 hi)))
  have HE3 := Lib.hid (eqlTT (f := M4) (g := f) (fun i hi => by rw [hM4, hM3, hM2, hM1]; exact congrArg f (mix4 hi)))
  have HE4 := Lib.hid (eqlTT (f := fun i => cln (F1 i)) (g := fun i => (fun i => cln (f i)) (turnI i)) (fun i hi => by rw [hF1]))
  have HE5 := Lib.hid (eqlTT (f := fun i => cln ((fun i => f (flipI i)) i)) (g := fun i => (fun i => cln (f i)) (flipI i)) (fun _ _ => rfl))
  have HCN : Hid (cn F1 p 64 = cn f p 64) := by rw [hF1]; exact cn_turn f p
  clear hF1 hF2 hF3 hF4 hM1 hM2 hM3 hM4
  go_enter Try.func7, Try.ntmps7
  go_upto_region 2 with (go_at_call 11; (refine (St.call hs (sane_any _)).mono ?_); rintro e V1 ⟨rfl, h1⟩)
  have H1 := Lib.hid h1
  clear hs h1
  have hzt := zero_tile
  have HL0 := Lib.hid (ld (b := w.heap.size) (f := f) H1.out (by simp))
  go_upto_region 3 with (first
    | (refine wpList_load_of rfl 25 (.tmp 2) rfl _ HL0.out ?_)
    | (go_at_call 30; (refine (St.call H1.out (HXF1.out _)).mono ?_); rintro e U2 ⟨rfl, h⟩; have HN2 := Lib.hid ((h.alloc (tob z0)).newT F1 h.below.size h.ne); have HA2 := Lib.hid (h.alloc (tob z0)).hd; clear h)
    | (refine wpList_alloc_of rfl 25 rfl _ (zero_tile _) ?_)
    | (refine wpList_store_of rfl 25 _ _ rfl (store_tile _ z0 _ _ HA2.out) ?_))
  have h2 := HN2.out
  generalize U2.heap.size = b6 at *
  generalize (U2.alloc (.cells (tc z0) 25)).setRow b6 (tc F1) = X2 at h2 ⊢
  clear HN2 HA2
  try simp only [Act.put, List.setIfInBounds_toArray, List.set_cons_zero, List.set_cons_succ]
  have H2 := Lib.hid h2
  clear h2
  have HL1 := Lib.hid (ld (b := b6) (f := F1) H2.out (by simp))
  go_upto_region 4 with (first
    | (refine wpList_load_of rfl 25 (.tmp 6) rfl _ HL1.out ?_)
    | (go_at_call 30; (refine (St.call H2.out (HXF2.out _)).mono ?_); rintro e V30 ⟨rfl, h⟩; have HC30 := Lib.hid h; clear h)
    | (go_at_call 30; (refine (St.call HC30.out (HXF3.out _)).mono ?_); rintro e V31 ⟨rfl, h⟩; have HC31 := Lib.hid h; clear h)
    | (go_at_call 30; (refine (St.call HC31.out (HXF4.out _)).mono ?_); rintro e U3 ⟨rfl, h⟩; have HN3 := Lib.hid ((h.alloc (tob z0)).newT F4 h.below.size h.ne); have HA3 := Lib.hid (h.alloc (tob z0)).hd; clear h)
    | (refine wpList_alloc_of rfl 25 rfl _ (zero_tile _) ?_)
    | (refine wpList_store_of rfl 25 _ _ rfl (store_tile _ z0 _ _ HA3.out) ?_))
  have h3 := HN3.out
  generalize U3.heap.size = b7 at *
  generalize (U3.alloc (.cells (tc z0) 25)).setRow b7 (tc F4) = X3 at h3 ⊢
  clear HN3 HA3
  try simp only [Act.put, List.setIfInBounds_toArray, List.set_cons_zero, List.set_cons_succ]
  have H3 := Lib.hid h3
  clear h3
  have HL2 := Lib.hid (ld (b := w.heap.size) (f := f) H3.out (by simp))
  go_upto_region 5 with (first
    | (refine wpList_load_of rfl 25 (.tmp 2) rfl _ HL2.out ?_)
    | (go_at_call 28; (refine (St.call H3.out (HXM1.out _)).mono ?_); rintro e V40 ⟨rfl, h⟩; have HC40 := Lib.hid h; clear h)
    | (go_at_call 30; (refine (St.call HC40.out (HXM2.out _)).mono ?_); rintro e V41 ⟨rfl, h⟩; have HC41 := Lib.hid h; clear h)
    | (go_at_call 28; (refine (St.call HC41.out (HXM3.out _)).mono ?_); rintro e V42 ⟨rfl, h⟩; have HC42 := Lib.hid h; clear h)
    | (go_at_call 30; (refine (St.call HC42.out (HXM4.out _)).mono ?_); rintro e U4 ⟨rfl, h⟩; have HN4 := Lib.hid ((h.alloc (tob z0)).newT M4 h.below.size h.ne); have HA4 := Lib.hid (h.alloc (tob z0)).hd; clear h)
    | (refine wpList_alloc_of rfl 25 rfl _ (zero_tile _) ?_)
    | (refine wpList_store_of rfl 25 _ _ rfl (store_tile _ z0 _ _ HA4.out) ?_))
  have h4 := HN4.out
  generalize U4.heap.size = b8 at *
  generalize (U4.alloc (.cells (tc z0) 25)).setRow b8 (tc M4) = X4 at h4 ⊢
  clear HN4 HA4
  try simp only [Act.put, List.setIfInBounds_toArray, List.set_cons_zero, List.set_cons_succ]
  have H4 := Lib.hid h4
  clear h4
  clear HL0 HL1 HL2 H1 H2 H3 HXF1 HXF2 HXF3 HXF4 HXM1 HXM2 HXM3 HXM4
  go_wp2
  go_loopw [9, 10] (fun v9 v10 wr => ∃ k : Nat, k ≤ 64 ∧ v10 = .int .i64 k ∧ v9 = .int .i64 (cn f p k - cn F1 p k) ∧ Hid (St w ((b8, tob M4) :: ((b7, tob F4) :: ((b6, tob F1) :: [(w.heap.size + 1, pxo p), (w.heap.size, tob f)]))) wr)) (fun _ i _ => 64 - (intOf i).toNat)
  case atStart => exact ⟨0, by omega, rfl, rfl, H4.out⟩
  case round =>
    obtain ⟨k, hk, rfl, rfl, HT⟩ := hrel
    by_cases hlt : k < 64
    · have h5 := HT.out
      have hix := index_px w.heap.size k hlt
      have hiy := index_px b6 k hlt
      have HB1 := cn_bd f p k
      have HB2 := cn_bd F1 p k
      have HS1 := Lib.hid (cn_succ f p k)
      have HS2 := Lib.hid (cn_succ F1 p k)
      have HN1 := Lib.hid (eql_px (f k) p)
      have HN2 := Lib.hid (eql_px (F1 k) p)
      generalize peq (f k) p = z1 at *
      generalize peq (F1 k) p = z2 at *
      obtain ⟨n0, hn0⟩ : ∃ n0, n0 = cn f p k - cn F1 p k := ⟨_, rfl⟩
      rw [← hn0]
      have hnb : -64 ≤ n0 ∧ n0 ≤ 64 := by omega
      have HN0 := Lib.hid hn0
      clear HB1 HB2 hn0
      go_upto_region 9 with fail
      refine wp_region_held_drew (S := fun V9 => St w ((b8, tob M4) :: ((b7, tob F4) :: ((b6, tob F1) :: [(w.heap.size + 1, pxo p), (w.heap.size, tob f)]))) V9) (by kernel_rfl) ?_ (fun hHeld => ?_)
      · exact h5.drew
      have h50 := h5.drew
      refine wpAnyH_take (i := 0) (oi := { dst := some 27, op := Op.move (Operand.tmp 10), type := 3, pos := "law.go:85", after := #[], guard := none }) (v := ?_) rfl (by kernel_rfl) (by kernel_rfl) (by kernel_rfl) (fun _ _ _ h => h) (Or.inl ⟨by kernel_rfl, ?_⟩) (by assumption) ?_
      rotate_left 1
      focus (intro w hSw; (try dsimp only at hSw); go_simp; (try with_reducible rfl))
      try simp only [Act.put, List.setIfInBounds_toArray, List.set_cons_zero, List.set_cons_succ]
      refine wpAnyH_take (i := 1) (oi := { dst := some 28, op := Op.indexAddr 25 (Operand.tmp 2) (Operand.tmp 27), type := 0, pos := "law.go:85", after := #[{ on := 0, ground := Ground.data }], guard := none }) (v := ?_) rfl (by kernel_rfl) (by kernel_rfl) (by kernel_rfl) (fun _ _ _ h => h) (Or.inl ⟨by kernel_rfl, ?_⟩) (by assumption) ?_
      rotate_left 1
      focus (intro w hSw; (try dsimp only at hSw); go_simp; (try with_reducible rfl))
      try simp only [Act.put, List.setIfInBounds_toArray, List.set_cons_zero, List.set_cons_succ]
      refine wpAnyH_take (i := 2) (oi := { dst := some 29, op := Op.load 23 (Operand.tmp 28), type := 23, pos := "law.go:85", after := #[{ on := 1, ground := Ground.data }], guard := none }) rfl (by kernel_rfl) (by kernel_rfl) (by kernel_rfl) (fun _ _ _ h => h) (yields_load (by kernel_rfl) 23 (.tmp 28) rfl ((f) (k)).v (fun V hV => ldi (b := w.heap.size) (f := f) hV (by simp) (k) hlt)) (by assumption) ?_
      try simp only [Act.put, List.setIfInBounds_toArray, List.set_cons_zero, List.set_cons_succ]
      refine wpAnyH_take (i := 3) (oi := { dst := some 30, op := Op.load 23 (Operand.tmp 3), type := 23, pos := "law.go:85", after := #[], guard := none }) rfl (by kernel_rfl) (by kernel_rfl) (by kernel_rfl) (fun _ _ _ h => h) (yields_load (by kernel_rfl) 23 (.tmp 3) rfl (p).v (fun V hV => ldp (b := w.heap.size + 1) (p := p) hV (by simp))) (by assumption) ?_
      try simp only [Act.put, List.setIfInBounds_toArray, List.set_cons_zero, List.set_cons_succ]
      refine wpAnyH_take (i := 4) (oi := { dst := some 31, op := Op.binOp BinOp.eql 23 (Operand.tmp 29) (Operand.tmp 30) 23, type := 4, pos := "law.go:85", after := #[{ on := 2, ground := Ground.data }, { on := 3, ground := Ground.data }], guard := none }) rfl (by kernel_rfl) (by kernel_rfl) (by kernel_rfl) (fun _ _ _ h => h) (yields_bin (by kernel_rfl) .eql 23 (.tmp 29) (.tmp 30) 23 rfl _ _ rfl rfl guard_px (.bool z1) (fun V => HN1.out V)) (by assumption) ?_
      try simp only [Act.put, List.setIfInBounds_toArray, List.set_cons_zero, List.set_cons_succ]
      refine wpAnyH_done (by kernel_rfl) ?_ _
      cases z1
      · go_upto_region 11 with fail
        refine wp_region_held_drew (S := fun V9 => St w ((b8, tob M4) :: ((b7, tob F4) :: ((b6, tob F1) :: [(w.heap.size + 1, pxo p), (w.heap.size, tob f)]))) V9) (by kernel_rfl) ?_ (fun hHeld => ?_)
        · exact h50.drew
        have h500 := h50.drew
        refine wpAnyH_take (i := 0) (oi := { dst := some 34, op := Op.move (Operand.tmp 10), type := 3, pos := "law.go:88", after := #[], guard := none }) (v := ?_) rfl (by kernel_rfl) (by kernel_rfl) (by kernel_rfl) (fun _ _ _ h => h) (Or.inl ⟨by kernel_rfl, ?_⟩) (by assumption) ?_
        rotate_left 1
        focus (intro w hSw; (try dsimp only at hSw); go_simp; (try with_reducible rfl))
        try simp only [Act.put, List.setIfInBounds_toArray, List.set_cons_zero, List.set_cons_succ]
        refine wpAnyH_take (i := 1) (oi := { dst := some 35, op := Op.indexAddr 25 (Operand.tmp 6) (Operand.tmp 34), type := 0, pos := "law.go:88", after := #[{ on := 0, ground := Ground.data }], guard := none }) (v := ?_) rfl (by kernel_rfl) (by kernel_rfl) (by kernel_rfl) (fun _ _ _ h => h) (Or.inl ⟨by kernel_rfl, ?_⟩) (by assumption) ?_
        rotate_left 1
        focus (intro w hSw; (try dsimp only at hSw); go_simp; (try with_reducible rfl))
        try simp only [Act.put, List.setIfInBounds_toArray, List.set_cons_zero, List.set_cons_succ]
        refine wpAnyH_take (i := 2) (oi := { dst := some 36, op := Op.load 23 (Operand.tmp 35), type := 23, pos := "law.go:88", after := #[{ on := 1, ground := Ground.data }], guard := none }) rfl (by kernel_rfl) (by kernel_rfl) (by kernel_rfl) (fun _ _ _ h => h) (yields_load (by kernel_rfl) 23 (.tmp 35) rfl ((F1) (k)).v (fun V hV => ldi (b := b6) (f := F1) hV (by simp) (k) hlt)) (by assumption) ?_
        try simp only [Act.put, List.setIfInBounds_toArray, List.set_cons_zero, List.set_cons_succ]
        refine wpAnyH_take (i := 3) (oi := { dst := some 37, op := Op.load 23 (Operand.tmp 3), type := 23, pos := "law.go:88", after := #[], guard := none }) rfl (by kernel_rfl) (by kernel_rfl) (by kernel_rfl) (fun _ _ _ h => h) (yields_load (by kernel_rfl) 23 (.tmp 3) rfl (p).v (fun V hV => ldp (b := w.heap.size + 1) (p := p) hV (by simp))) (by assumption) ?_
        try simp only [Act.put, List.setIfInBounds_toArray, List.set_cons_zero, List.set_cons_succ]
        refine wpAnyH_take (i := 4) (oi := { dst := some 38, op := Op.binOp BinOp.eql 23 (Operand.tmp 36) (Operand.tmp 37) 23, type := 4, pos := "law.go:88", after := #[{ on := 2, ground := Ground.data }, { on := 3, ground := Ground.data }], guard := none }) rfl (by kernel_rfl) (by kernel_rfl) (by kernel_rfl) (fun _ _ _ h => h) (yields_bin (by kernel_rfl) .eql 23 (.tmp 36) (.tmp 37) 23 rfl _ _ rfl rfl guard_px (.bool z2) (fun V => HN2.out V)) (by assumption) ?_
        try simp only [Act.put, List.setIfInBounds_toArray, List.set_cons_zero, List.set_cons_succ]
        refine wpAnyH_done (by kernel_rfl) ?_ _
        cases z2
        · go_wp2
          go_roundw
          case rel => exact ⟨k + 1, by omega, by go_num, congrArg (Value.int .i64) (by rw [HS1.out, HS2.out]; have := HN0.out; simp; omega), h500⟩
          case measure => simp [intOf]; omega
        · go_wp2
          go_roundw
          case rel => exact ⟨k + 1, by omega, by go_num, congrArg (Value.int .i64) (by rw [HS1.out, HS2.out]; have := HN0.out; simp; omega), h500⟩
          case measure => simp [intOf]; omega
      · go_upto_region 11 with fail
        refine wp_region_held_drew (S := fun V9 => St w ((b8, tob M4) :: ((b7, tob F4) :: ((b6, tob F1) :: [(w.heap.size + 1, pxo p), (w.heap.size, tob f)]))) V9) (by kernel_rfl) ?_ (fun hHeld => ?_)
        · exact h50.drew
        have h500 := h50.drew
        refine wpAnyH_take (i := 0) (oi := { dst := some 34, op := Op.move (Operand.tmp 10), type := 3, pos := "law.go:88", after := #[], guard := none }) (v := ?_) rfl (by kernel_rfl) (by kernel_rfl) (by kernel_rfl) (fun _ _ _ h => h) (Or.inl ⟨by kernel_rfl, ?_⟩) (by assumption) ?_
        rotate_left 1
        focus (intro w hSw; (try dsimp only at hSw); go_simp; (try with_reducible rfl))
        try simp only [Act.put, List.setIfInBounds_toArray, List.set_cons_zero, List.set_cons_succ]
        refine wpAnyH_take (i := 1) (oi := { dst := some 35, op := Op.indexAddr 25 (Operand.tmp 6) (Operand.tmp 34), type := 0, pos := "law.go:88", after := #[{ on := 0, ground := Ground.data }], guard := none }) (v := ?_) rfl (by kernel_rfl) (by kernel_rfl) (by kernel_rfl) (fun _ _ _ h => h) (Or.inl ⟨by kernel_rfl, ?_⟩) (by assumption) ?_
        rotate_left 1
        focus (intro w hSw; (try dsimp only at hSw); go_simp; (try with_reducible rfl))
        try simp only [Act.put, List.setIfInBounds_toArray, List.set_cons_zero, List.set_cons_succ]
        refine wpAnyH_take (i := 2) (oi := { dst := some 36, op := Op.load 23 (Operand.tmp 35), type := 23, pos := "law.go:88", after := #[{ on := 1, ground := Ground.data }], guard := none }) rfl (by kernel_rfl) (by kernel_rfl) (by kernel_rfl) (fun _ _ _ h => h) (yields_load (by kernel_rfl) 23 (.tmp 35) rfl ((F1) (k)).v (fun V hV => ldi (b := b6) (f := F1) hV (by simp) (k) hlt)) (by assumption) ?_
        try simp only [Act.put, List.setIfInBounds_toArray, List.set_cons_zero, List.set_cons_succ]
        refine wpAnyH_take (i := 3) (oi := { dst := some 37, op := Op.load 23 (Operand.tmp 3), type := 23, pos := "law.go:88", after := #[], guard := none }) rfl (by kernel_rfl) (by kernel_rfl) (by kernel_rfl) (fun _ _ _ h => h) (yields_load (by kernel_rfl) 23 (.tmp 3) rfl (p).v (fun V hV => ldp (b := w.heap.size + 1) (p := p) hV (by simp))) (by assumption) ?_
        try simp only [Act.put, List.setIfInBounds_toArray, List.set_cons_zero, List.set_cons_succ]
        refine wpAnyH_take (i := 4) (oi := { dst := some 38, op := Op.binOp BinOp.eql 23 (Operand.tmp 36) (Operand.tmp 37) 23, type := 4, pos := "law.go:88", after := #[{ on := 2, ground := Ground.data }, { on := 3, ground := Ground.data }], guard := none }) rfl (by kernel_rfl) (by kernel_rfl) (by kernel_rfl) (fun _ _ _ h => h) (yields_bin (by kernel_rfl) .eql 23 (.tmp 36) (.tmp 37) 23 rfl _ _ rfl rfl guard_px (.bool z2) (fun V => HN2.out V)) (by assumption) ?_
        try simp only [Act.put, List.setIfInBounds_toArray, List.set_cons_zero, List.set_cons_succ]
        refine wpAnyH_done (by kernel_rfl) ?_ _
        cases z2
        · go_wp2
          go_roundw
          case rel => exact ⟨k + 1, by omega, by go_num, congrArg (Value.int .i64) (by rw [HS1.out, HS2.out]; have := HN0.out; simp; omega), h500⟩
          case measure => simp [intOf]; omega
        · go_wp2
          go_roundw
          case rel => exact ⟨k + 1, by omega, by go_num, congrArg (Value.int .i64) (by rw [HS1.out, HS2.out]; have := HN0.out; simp; omega), h500⟩
          case measure => simp [intOf]; omega
    · obtain rfl : k = 64 := by omega
      have ecn : cn f p 64 - cn F1 p 64 = 0 := by rw [HCN.out]; omega
      rw [ecn]
      clear ecn
      have h6 := HT.out
      go_upto_region 13 with fail
      refine wp_region_held_drew (S := fun V9 => St w ((b8, tob M4) :: ((b7, tob F4) :: ((b6, tob F1) :: [(w.heap.size + 1, pxo p), (w.heap.size, tob f)]))) V9) (by kernel_rfl) ?_ (fun hHeld => ?_)
      · exact h6.drew
      have h60 := h6.drew
      refine wpAnyH_take (i := 0) (oi := { dst := some 41, op := Op.move (Operand.tmp 5), type := 4, pos := "law.go:92", after := #[], guard := none }) (v := ?_) rfl (by kernel_rfl) (by kernel_rfl) (by kernel_rfl) (fun _ _ _ h => h) (Or.inl ⟨by kernel_rfl, ?_⟩) (by assumption) ?_
      rotate_left 1
      focus (intro w hSw; (try dsimp only at hSw); go_simp; (try with_reducible rfl))
      try simp only [Act.put, List.setIfInBounds_toArray, List.set_cons_zero, List.set_cons_succ]
      refine wpAnyH_take (i := 1) (oi := { dst := some 42, op := Op.move (Operand.tmp 41), type := 4, pos := "law.go:92", after := #[{ on := 0, ground := Ground.data }], guard := none }) (v := ?_) rfl (by kernel_rfl) (by kernel_rfl) (by kernel_rfl) (fun _ _ _ h => h) (Or.inl ⟨by kernel_rfl, ?_⟩) (by assumption) ?_
      rotate_left 1
      focus (intro w hSw; (try dsimp only at hSw); go_simp; (try with_reducible rfl))
      try simp only [Act.put, List.setIfInBounds_toArray, List.set_cons_zero, List.set_cons_succ]
      refine wpAnyH_take (i := 2) (oi := { dst := some 43, op := Op.load 25 (Operand.tmp 2), type := 25, pos := "law.go:92", after := #[{ on := 1, ground := Ground.guard }], guard := some (1, true) }) rfl (by kernel_rfl) (by kernel_rfl) (by kernel_rfl) (fun _ _ _ h => h) (yields_load (by kernel_rfl) 25 (.tmp 2) rfl (tv (f)) (fun V hV => ld (b := w.heap.size) (f := f) hV (by simp))) (by assumption) ?_
      try simp only [Act.put, List.setIfInBounds_toArray, List.set_cons_zero, List.set_cons_succ]
      refine wpAnyH_take (i := 5) (oi := { dst := some 46, op := Op.load 25 (Operand.tmp 2), type := 25, pos := "law.go:92", after := #[{ on := 1, ground := Ground.guard }], guard := some (1, true) }) rfl (by kernel_rfl) (by kernel_rfl) (by kernel_rfl) (fun _ _ _ h => h) (yields_load (by kernel_rfl) 25 (.tmp 2) rfl (tv (f)) (fun V hV => ld (b := w.heap.size) (f := f) hV (by simp))) (by assumption) ?_
      try simp only [Act.put, List.setIfInBounds_toArray, List.set_cons_zero, List.set_cons_succ]
      refine wpAnyH_ready (rs := [3]) (by kernel_rfl) (by simp) (AllReadyH.cons (o := { dst := some 44, op := Op.call { callee := Callee.value (Operand.func 28), args := #[Operand.tmp 43], argTypes := #[25] }, type := 25, pos := "law.go:92", after := #[{ on := 2, ground := Ground.data }, { on := 1, ground := Ground.chain }, { on := 1, ground := Ground.guard }], guard := some (1, true) }) rfl (fun K hK => ?_) AllReadyH.nil)
      (go_simp; (go_at_call 28; (refine (St.call h60 (flip_any f _)).mono ?_); rintro e V1r13 ⟨rfl, h61r13⟩))
      refine hK.out _ _ ?_ (fun hHeld => ?_)
      · (first | exact h61r13 | exact h61r13.tl)
      clear hK K
      try simp only [Act.put, List.setIfInBounds_toArray, List.set_cons_zero, List.set_cons_succ]
      refine wpAnyH_ready (rs := [4]) (by kernel_rfl) (by simp) (AllReadyH.cons (o := { dst := some 45, op := Op.call { callee := Callee.value (Operand.func 28), args := #[Operand.tmp 44], argTypes := #[25] }, type := 25, pos := "law.go:92", after := #[{ on := 3, ground := Ground.data }, { on := 3, ground := Ground.chain }, { on := 1, ground := Ground.guard }], guard := some (1, true) }) rfl (fun K hK => ?_) AllReadyH.nil)
      (go_simp; (go_at_call 28; (refine (St.call h61r13 (flip_any (fun i => f (flipI i)) _)).mono ?_); rintro e V2r13 ⟨rfl, h62r13⟩))
      refine hK.out _ _ ?_ (fun hHeld => ?_)
      · (first | exact h62r13 | exact h62r13.tl)
      clear hK K
      try simp only [Act.put, List.setIfInBounds_toArray, List.set_cons_zero, List.set_cons_succ]
      refine wpAnyH_take (i := 6) (oi := { dst := some 47, op := Op.binOp BinOp.eql 25 (Operand.tmp 45) (Operand.tmp 46) 25, type := 4, pos := "law.go:92", after := #[{ on := 4, ground := Ground.data }, { on := 5, ground := Ground.data }, { on := 1, ground := Ground.guard }], guard := some (1, true) }) rfl (by kernel_rfl) (by kernel_rfl) (by kernel_rfl) (fun _ _ _ h => h) (yields_bin (by kernel_rfl) .eql 25 (.tmp 45) (.tmp 46) 25 rfl _ _ rfl rfl guard_tile (.bool true) (fun V => HE1.out V)) (by assumption) ?_
      try simp only [Act.put, List.setIfInBounds_toArray, List.set_cons_zero, List.set_cons_succ]
      refine wpAnyH_take (i := 7) (oi := { dst := some 48, op := Op.pick (Operand.tmp 42) (Operand.tmp 47) (Operand.const (Value.bool false)), type := 4, pos := "law.go:92", after := #[{ on := 1, ground := Ground.data }, { on := 6, ground := Ground.data }], guard := none }) (v := ?_) rfl (by kernel_rfl) (by kernel_rfl) (by kernel_rfl) (fun _ _ _ h => h) (Or.inl ⟨by kernel_rfl, ?_⟩) (by assumption) ?_
      rotate_left 1
      focus (intro w hSw; (try dsimp only at hSw); go_simp; (try with_reducible rfl))
      try simp only [Act.put, List.setIfInBounds_toArray, List.set_cons_zero, List.set_cons_succ]
      refine wpAnyH_take (i := 8) (oi := { dst := some 49, op := Op.move (Operand.tmp 48), type := 4, pos := "law.go:92", after := #[{ on := 7, ground := Ground.data }, { on := 4, ground := Ground.chain }], guard := none }) (v := ?_) rfl (by kernel_rfl) (by kernel_rfl) (by kernel_rfl) (fun _ _ _ h => h) (Or.inl ⟨by kernel_rfl, ?_⟩) (by assumption) ?_
      rotate_left 1
      focus (intro w hSw; (try dsimp only at hSw); go_simp; (try with_reducible rfl))
      try simp only [Act.put, List.setIfInBounds_toArray, List.set_cons_zero, List.set_cons_succ]
      refine wpAnyH_take (i := 9) (oi := { dst := some 50, op := Op.load 25 (Operand.tmp 7), type := 25, pos := "law.go:92", after := #[{ on := 8, ground := Ground.guard }], guard := some (8, true) }) rfl (by kernel_rfl) (by kernel_rfl) (by kernel_rfl) (fun _ _ _ h => h) (yields_load (by kernel_rfl) 25 (.tmp 7) rfl (tv (F4)) (fun V hV => ld (b := b7) (f := F4) hV (by simp))) (by assumption) ?_
      try simp only [Act.put, List.setIfInBounds_toArray, List.set_cons_zero, List.set_cons_succ]
      refine wpAnyH_take (i := 10) (oi := { dst := some 51, op := Op.load 25 (Operand.tmp 2), type := 25, pos := "law.go:92", after := #[{ on := 8, ground := Ground.guard }], guard := some (8, true) }) rfl (by kernel_rfl) (by kernel_rfl) (by kernel_rfl) (fun _ _ _ h => h) (yields_load (by kernel_rfl) 25 (.tmp 2) rfl (tv (f)) (fun V hV => ld (b := w.heap.size) (f := f) hV (by simp))) (by assumption) ?_
      try simp only [Act.put, List.setIfInBounds_toArray, List.set_cons_zero, List.set_cons_succ]
      refine wpAnyH_take (i := 11) (oi := { dst := some 52, op := Op.binOp BinOp.eql 25 (Operand.tmp 50) (Operand.tmp 51) 25, type := 4, pos := "law.go:92", after := #[{ on := 9, ground := Ground.data }, { on := 10, ground := Ground.data }, { on := 8, ground := Ground.guard }], guard := some (8, true) }) rfl (by kernel_rfl) (by kernel_rfl) (by kernel_rfl) (fun _ _ _ h => h) (yields_bin (by kernel_rfl) .eql 25 (.tmp 50) (.tmp 51) 25 rfl _ _ rfl rfl guard_tile (.bool true) (fun V => HE2.out V)) (by assumption) ?_
      try simp only [Act.put, List.setIfInBounds_toArray, List.set_cons_zero, List.set_cons_succ]
      refine wpAnyH_take (i := 12) (oi := { dst := some 53, op := Op.pick (Operand.tmp 49) (Operand.tmp 52) (Operand.const (Value.bool false)), type := 4, pos := "law.go:92", after := #[{ on := 8, ground := Ground.data }, { on := 11, ground := Ground.data }], guard := none }) (v := ?_) rfl (by kernel_rfl) (by kernel_rfl) (by kernel_rfl) (fun _ _ _ h => h) (Or.inl ⟨by kernel_rfl, ?_⟩) (by assumption) ?_
      rotate_left 1
      focus (intro w hSw; (try dsimp only at hSw); go_simp; (try with_reducible rfl))
      try simp only [Act.put, List.setIfInBounds_toArray, List.set_cons_zero, List.set_cons_succ]
      refine wpAnyH_take (i := 13) (oi := { dst := some 54, op := Op.move (Operand.tmp 53), type := 4, pos := "law.go:92", after := #[{ on := 12, ground := Ground.data }, { on := 8, ground := Ground.chain }], guard := none }) (v := ?_) rfl (by kernel_rfl) (by kernel_rfl) (by kernel_rfl) (fun _ _ _ h => h) (Or.inl ⟨by kernel_rfl, ?_⟩) (by assumption) ?_
      rotate_left 1
      focus (intro w hSw; (try dsimp only at hSw); go_simp; (try with_reducible rfl))
      try simp only [Act.put, List.setIfInBounds_toArray, List.set_cons_zero, List.set_cons_succ]
      refine wpAnyH_take (i := 14) (oi := { dst := some 55, op := Op.load 25 (Operand.tmp 8), type := 25, pos := "law.go:92", after := #[{ on := 13, ground := Ground.guard }], guard := some (13, true) }) rfl (by kernel_rfl) (by kernel_rfl) (by kernel_rfl) (fun _ _ _ h => h) (yields_load (by kernel_rfl) 25 (.tmp 8) rfl (tv (M4)) (fun V hV => ld (b := b8) (f := M4) hV (by simp))) (by assumption) ?_
      try simp only [Act.put, List.setIfInBounds_toArray, List.set_cons_zero, List.set_cons_succ]
      refine wpAnyH_take (i := 15) (oi := { dst := some 56, op := Op.load 25 (Operand.tmp 2), type := 25, pos := "law.go:92", after := #[{ on := 13, ground := Ground.guard }], guard := some (13, true) }) rfl (by kernel_rfl) (by kernel_rfl) (by kernel_rfl) (fun _ _ _ h => h) (yields_load (by kernel_rfl) 25 (.tmp 2) rfl (tv (f)) (fun V hV => ld (b := w.heap.size) (f := f) hV (by simp))) (by assumption) ?_
      try simp only [Act.put, List.setIfInBounds_toArray, List.set_cons_zero, List.set_cons_succ]
      refine wpAnyH_take (i := 16) (oi := { dst := some 57, op := Op.binOp BinOp.eql 25 (Operand.tmp 55) (Operand.tmp 56) 25, type := 4, pos := "law.go:92", after := #[{ on := 14, ground := Ground.data }, { on := 15, ground := Ground.data }, { on := 13, ground := Ground.guard }], guard := some (13, true) }) rfl (by kernel_rfl) (by kernel_rfl) (by kernel_rfl) (fun _ _ _ h => h) (yields_bin (by kernel_rfl) .eql 25 (.tmp 55) (.tmp 56) 25 rfl _ _ rfl rfl guard_tile (.bool true) (fun V => HE3.out V)) (by assumption) ?_
      try simp only [Act.put, List.setIfInBounds_toArray, List.set_cons_zero, List.set_cons_succ]
      refine wpAnyH_take (i := 17) (oi := { dst := some 58, op := Op.pick (Operand.tmp 54) (Operand.tmp 57) (Operand.const (Value.bool false)), type := 4, pos := "law.go:92", after := #[{ on := 13, ground := Ground.data }, { on := 16, ground := Ground.data }], guard := none }) (v := ?_) rfl (by kernel_rfl) (by kernel_rfl) (by kernel_rfl) (fun _ _ _ h => h) (Or.inl ⟨by kernel_rfl, ?_⟩) (by assumption) ?_
      rotate_left 1
      focus (intro w hSw; (try dsimp only at hSw); go_simp; (try with_reducible rfl))
      try simp only [Act.put, List.setIfInBounds_toArray, List.set_cons_zero, List.set_cons_succ]
      refine wpAnyH_take (i := 18) (oi := { dst := some 59, op := Op.move (Operand.tmp 58), type := 4, pos := "law.go:92", after := #[{ on := 17, ground := Ground.data }, { on := 13, ground := Ground.chain }], guard := none }) (v := ?_) rfl (by kernel_rfl) (by kernel_rfl) (by kernel_rfl) (fun _ _ _ h => h) (Or.inl ⟨by kernel_rfl, ?_⟩) (by assumption) ?_
      rotate_left 1
      focus (intro w hSw; (try dsimp only at hSw); go_simp; (try with_reducible rfl))
      try simp only [Act.put, List.setIfInBounds_toArray, List.set_cons_zero, List.set_cons_succ]
      refine wpAnyH_take (i := 19) (oi := { dst := some 60, op := Op.move (Operand.tmp 9), type := 3, pos := "law.go:92", after := #[{ on := 18, ground := Ground.guard }], guard := some (18, true) }) (v := ?_) rfl (by kernel_rfl) (by kernel_rfl) (by kernel_rfl) (fun _ _ _ h => h) (Or.inl ⟨by kernel_rfl, ?_⟩) (by assumption) ?_
      rotate_left 1
      focus (intro w hSw; (try dsimp only at hSw); go_simp; (try with_reducible rfl))
      try simp only [Act.put, List.setIfInBounds_toArray, List.set_cons_zero, List.set_cons_succ]
      refine wpAnyH_take (i := 20) (oi := { dst := some 61, op := Op.binOp BinOp.eql 3 (Operand.tmp 60) (Operand.const (Value.int IntKind.i64 0)) 3, type := 4, pos := "law.go:92", after := #[{ on := 19, ground := Ground.data }, { on := 18, ground := Ground.guard }], guard := some (18, true) }) (v := ?_) rfl (by kernel_rfl) (by kernel_rfl) (by kernel_rfl) (fun _ _ _ h => h) (Or.inl ⟨by kernel_rfl, ?_⟩) (by assumption) ?_
      rotate_left 1
      focus (intro w hSw; (try dsimp only at hSw); go_simp; (try with_reducible rfl))
      try simp only [Act.put, List.setIfInBounds_toArray, List.set_cons_zero, List.set_cons_succ]
      refine wpAnyH_take (i := 21) (oi := { dst := some 62, op := Op.pick (Operand.tmp 59) (Operand.tmp 61) (Operand.const (Value.bool false)), type := 4, pos := "law.go:92", after := #[{ on := 18, ground := Ground.data }, { on := 20, ground := Ground.data }], guard := none }) (v := ?_) rfl (by kernel_rfl) (by kernel_rfl) (by kernel_rfl) (fun _ _ _ h => h) (Or.inl ⟨by kernel_rfl, ?_⟩) (by assumption) ?_
      rotate_left 1
      focus (intro w hSw; (try dsimp only at hSw); go_simp; (try with_reducible rfl))
      try simp only [Act.put, List.setIfInBounds_toArray, List.set_cons_zero, List.set_cons_succ]
      refine wpAnyH_take (i := 22) (oi := { dst := some 63, op := Op.move (Operand.tmp 62), type := 4, pos := "law.go:92", after := #[{ on := 21, ground := Ground.data }, { on := 18, ground := Ground.chain }], guard := none }) (v := ?_) rfl (by kernel_rfl) (by kernel_rfl) (by kernel_rfl) (fun _ _ _ h => h) (Or.inl ⟨by kernel_rfl, ?_⟩) (by assumption) ?_
      rotate_left 1
      focus (intro w hSw; (try dsimp only at hSw); go_simp; (try with_reducible rfl))
      try simp only [Act.put, List.setIfInBounds_toArray, List.set_cons_zero, List.set_cons_succ]
      refine wpAnyH_take (i := 23) (oi := { dst := some 64, op := Op.load 25 (Operand.tmp 6), type := 25, pos := "law.go:92", after := #[{ on := 22, ground := Ground.guard }], guard := some (22, true) }) rfl (by kernel_rfl) (by kernel_rfl) (by kernel_rfl) (fun _ _ _ h => h) (yields_load (by kernel_rfl) 25 (.tmp 6) rfl (tv (F1)) (fun V hV => ld (b := b6) (f := F1) hV (by simp))) (by assumption) ?_
      try simp only [Act.put, List.setIfInBounds_toArray, List.set_cons_zero, List.set_cons_succ]
      refine wpAnyH_take (i := 25) (oi := { dst := some 66, op := Op.load 25 (Operand.tmp 2), type := 25, pos := "law.go:92", after := #[{ on := 22, ground := Ground.guard }], guard := some (22, true) }) rfl (by kernel_rfl) (by kernel_rfl) (by kernel_rfl) (fun _ _ _ h => h) (yields_load (by kernel_rfl) 25 (.tmp 2) rfl (tv (f)) (fun V hV => ld (b := w.heap.size) (f := f) hV (by simp))) (by assumption) ?_
      try simp only [Act.put, List.setIfInBounds_toArray, List.set_cons_zero, List.set_cons_succ]
      refine wpAnyH_ready (rs := [24]) (by kernel_rfl) (by simp) (AllReadyH.cons (o := { dst := some 65, op := Op.call { callee := Callee.value (Operand.func 17), args := #[Operand.tmp 64], argTypes := #[25] }, type := 25, pos := "law.go:92", after := #[{ on := 23, ground := Ground.data }, { on := 22, ground := Ground.chain }, { on := 22, ground := Ground.guard }], guard := some (22, true) }) rfl (fun K hK => ?_) AllReadyH.nil)
      (go_simp; (go_at_call 17; (refine (St.call h62r13 (tclean_any F1 _)).mono ?_); rintro e V3r13 ⟨rfl, h63r13⟩))
      refine hK.out _ _ ?_ (fun hHeld => ?_)
      · (first | exact h63r13 | exact h63r13.tl)
      clear hK K
      try simp only [Act.put, List.setIfInBounds_toArray, List.set_cons_zero, List.set_cons_succ]
      refine wpAnyH_ready (rs := [26]) (by kernel_rfl) (by simp) (AllReadyH.cons (o := { dst := some 67, op := Op.call { callee := Callee.value (Operand.func 17), args := #[Operand.tmp 66], argTypes := #[25] }, type := 25, pos := "law.go:92", after := #[{ on := 25, ground := Ground.data }, { on := 24, ground := Ground.chain }, { on := 22, ground := Ground.guard }], guard := some (22, true) }) rfl (fun K hK => ?_) AllReadyH.nil)
      (go_simp; (go_at_call 17; (refine (St.call h63r13 (tclean_any f _)).mono ?_); rintro e V4r13 ⟨rfl, h64r13⟩))
      refine hK.out _ _ ?_ (fun hHeld => ?_)
      · (first | exact h64r13 | exact h64r13.tl)
      clear hK K
      try simp only [Act.put, List.setIfInBounds_toArray, List.set_cons_zero, List.set_cons_succ]
      refine wpAnyH_ready (rs := [27]) (by kernel_rfl) (by simp) (AllReadyH.cons (o := { dst := some 68, op := Op.call { callee := Callee.value (Operand.func 30), args := #[Operand.tmp 67], argTypes := #[25] }, type := 25, pos := "law.go:92", after := #[{ on := 26, ground := Ground.data }, { on := 26, ground := Ground.chain }, { on := 22, ground := Ground.guard }], guard := some (22, true) }) rfl (fun K hK => ?_) AllReadyH.nil)
      (go_simp; (go_at_call 30; (refine (St.call h64r13 (turn_any (fun i => cln (f i)) _)).mono ?_); rintro e V5r13 ⟨rfl, h65r13⟩))
      refine hK.out _ _ ?_ (fun hHeld => ?_)
      · (first | exact h65r13 | exact h65r13.tl)
      clear hK K
      try simp only [Act.put, List.setIfInBounds_toArray, List.set_cons_zero, List.set_cons_succ]
      refine wpAnyH_take (i := 28) (oi := { dst := some 69, op := Op.binOp BinOp.eql 25 (Operand.tmp 65) (Operand.tmp 68) 25, type := 4, pos := "law.go:92", after := #[{ on := 24, ground := Ground.data }, { on := 27, ground := Ground.data }, { on := 22, ground := Ground.guard }], guard := some (22, true) }) rfl (by kernel_rfl) (by kernel_rfl) (by kernel_rfl) (fun _ _ _ h => h) (yields_bin (by kernel_rfl) .eql 25 (.tmp 65) (.tmp 68) 25 rfl _ _ rfl rfl guard_tile (.bool true) (fun V => HE4.out V)) (by assumption) ?_
      try simp only [Act.put, List.setIfInBounds_toArray, List.set_cons_zero, List.set_cons_succ]
      refine wpAnyH_take (i := 29) (oi := { dst := some 70, op := Op.pick (Operand.tmp 63) (Operand.tmp 69) (Operand.const (Value.bool false)), type := 4, pos := "law.go:92", after := #[{ on := 22, ground := Ground.data }, { on := 28, ground := Ground.data }], guard := none }) (v := ?_) rfl (by kernel_rfl) (by kernel_rfl) (by kernel_rfl) (fun _ _ _ h => h) (Or.inl ⟨by kernel_rfl, ?_⟩) (by assumption) ?_
      rotate_left 1
      focus (intro w hSw; (try dsimp only at hSw); go_simp; (try with_reducible rfl))
      try simp only [Act.put, List.setIfInBounds_toArray, List.set_cons_zero, List.set_cons_succ]
      refine wpAnyH_take (i := 30) (oi := { dst := some 71, op := Op.move (Operand.tmp 70), type := 4, pos := "law.go:92", after := #[{ on := 29, ground := Ground.data }, { on := 27, ground := Ground.chain }], guard := none }) (v := ?_) rfl (by kernel_rfl) (by kernel_rfl) (by kernel_rfl) (fun _ _ _ h => h) (Or.inl ⟨by kernel_rfl, ?_⟩) (by assumption) ?_
      rotate_left 1
      focus (intro w hSw; (try dsimp only at hSw); go_simp; (try with_reducible rfl))
      try simp only [Act.put, List.setIfInBounds_toArray, List.set_cons_zero, List.set_cons_succ]
      refine wpAnyH_take (i := 31) (oi := { dst := some 72, op := Op.load 25 (Operand.tmp 2), type := 25, pos := "law.go:92", after := #[{ on := 30, ground := Ground.guard }], guard := some (30, true) }) rfl (by kernel_rfl) (by kernel_rfl) (by kernel_rfl) (fun _ _ _ h => h) (yields_load (by kernel_rfl) 25 (.tmp 2) rfl (tv (f)) (fun V hV => ld (b := w.heap.size) (f := f) hV (by simp))) (by assumption) ?_
      try simp only [Act.put, List.setIfInBounds_toArray, List.set_cons_zero, List.set_cons_succ]
      refine wpAnyH_take (i := 34) (oi := { dst := some 75, op := Op.load 25 (Operand.tmp 2), type := 25, pos := "law.go:92", after := #[{ on := 30, ground := Ground.guard }], guard := some (30, true) }) rfl (by kernel_rfl) (by kernel_rfl) (by kernel_rfl) (fun _ _ _ h => h) (yields_load (by kernel_rfl) 25 (.tmp 2) rfl (tv (f)) (fun V hV => ld (b := w.heap.size) (f := f) hV (by simp))) (by assumption) ?_
      try simp only [Act.put, List.setIfInBounds_toArray, List.set_cons_zero, List.set_cons_succ]
      refine wpAnyH_ready (rs := [32]) (by kernel_rfl) (by simp) (AllReadyH.cons (o := { dst := some 73, op := Op.call { callee := Callee.value (Operand.func 28), args := #[Operand.tmp 72], argTypes := #[25] }, type := 25, pos := "law.go:92", after := #[{ on := 31, ground := Ground.data }, { on := 30, ground := Ground.chain }, { on := 30, ground := Ground.guard }], guard := some (30, true) }) rfl (fun K hK => ?_) AllReadyH.nil)
      (go_simp; (go_at_call 28; (refine (St.call h65r13 (flip_any f _)).mono ?_); rintro e V6r13 ⟨rfl, h66r13⟩))
      refine hK.out _ _ ?_ (fun hHeld => ?_)
      · (first | exact h66r13 | exact h66r13.tl)
      clear hK K
      try simp only [Act.put, List.setIfInBounds_toArray, List.set_cons_zero, List.set_cons_succ]
      refine wpAnyH_ready (rs := [33]) (by kernel_rfl) (by simp) (AllReadyH.cons (o := { dst := some 74, op := Op.call { callee := Callee.value (Operand.func 17), args := #[Operand.tmp 73], argTypes := #[25] }, type := 25, pos := "law.go:92", after := #[{ on := 32, ground := Ground.data }, { on := 32, ground := Ground.chain }, { on := 30, ground := Ground.guard }], guard := some (30, true) }) rfl (fun K hK => ?_) AllReadyH.nil)
      (go_simp; (go_at_call 17; (refine (St.call h66r13 (tclean_any (fun i => f (flipI i)) _)).mono ?_); rintro e V7r13 ⟨rfl, h67r13⟩))
      refine hK.out _ _ ?_ (fun hHeld => ?_)
      · (first | exact h67r13 | exact h67r13.tl)
      clear hK K
      try simp only [Act.put, List.setIfInBounds_toArray, List.set_cons_zero, List.set_cons_succ]
      refine wpAnyH_ready (rs := [35]) (by kernel_rfl) (by simp) (AllReadyH.cons (o := { dst := some 76, op := Op.call { callee := Callee.value (Operand.func 17), args := #[Operand.tmp 75], argTypes := #[25] }, type := 25, pos := "law.go:92", after := #[{ on := 34, ground := Ground.data }, { on := 33, ground := Ground.chain }, { on := 30, ground := Ground.guard }], guard := some (30, true) }) rfl (fun K hK => ?_) AllReadyH.nil)
      (go_simp; (go_at_call 17; (refine (St.call h67r13 (tclean_any f _)).mono ?_); rintro e V8r13 ⟨rfl, h68r13⟩))
      refine hK.out _ _ ?_ (fun hHeld => ?_)
      · (first | exact h68r13 | exact h68r13.tl)
      clear hK K
      try simp only [Act.put, List.setIfInBounds_toArray, List.set_cons_zero, List.set_cons_succ]
      refine wpAnyH_ready (rs := [36]) (by kernel_rfl) (by simp) (AllReadyH.cons (o := { dst := some 77, op := Op.call { callee := Callee.value (Operand.func 28), args := #[Operand.tmp 76], argTypes := #[25] }, type := 25, pos := "law.go:92", after := #[{ on := 35, ground := Ground.data }, { on := 35, ground := Ground.chain }, { on := 30, ground := Ground.guard }], guard := some (30, true) }) rfl (fun K hK => ?_) AllReadyH.nil)
      (go_simp; (go_at_call 28; (refine (St.call h68r13 (flip_any (fun i => cln (f i)) _)).mono ?_); rintro e V9r13 ⟨rfl, h69r13⟩))
      refine hK.out _ _ ?_ (fun hHeld => ?_)
      · (first | exact h69r13 | exact h69r13.tl)
      clear hK K
      try simp only [Act.put, List.setIfInBounds_toArray, List.set_cons_zero, List.set_cons_succ]
      refine wpAnyH_take (i := 37) (oi := { dst := some 78, op := Op.binOp BinOp.eql 25 (Operand.tmp 74) (Operand.tmp 77) 25, type := 4, pos := "law.go:92", after := #[{ on := 33, ground := Ground.data }, { on := 36, ground := Ground.data }, { on := 30, ground := Ground.guard }], guard := some (30, true) }) rfl (by kernel_rfl) (by kernel_rfl) (by kernel_rfl) (fun _ _ _ h => h) (yields_bin (by kernel_rfl) .eql 25 (.tmp 74) (.tmp 77) 25 rfl _ _ rfl rfl guard_tile (.bool true) (fun V => HE5.out V)) (by assumption) ?_
      try simp only [Act.put, List.setIfInBounds_toArray, List.set_cons_zero, List.set_cons_succ]
      refine wpAnyH_take (i := 38) (oi := { dst := some 79, op := Op.pick (Operand.tmp 71) (Operand.tmp 78) (Operand.const (Value.bool false)), type := 4, pos := "law.go:92", after := #[{ on := 30, ground := Ground.data }, { on := 37, ground := Ground.data }], guard := none }) (v := ?_) rfl (by kernel_rfl) (by kernel_rfl) (by kernel_rfl) (fun _ _ _ h => h) (Or.inl ⟨by kernel_rfl, ?_⟩) (by assumption) ?_
      rotate_left 1
      focus (intro w hSw; (try dsimp only at hSw); go_simp; (try with_reducible rfl))
      try simp only [Act.put, List.setIfInBounds_toArray, List.set_cons_zero, List.set_cons_succ]
      refine wpAnyH_take (i := 39) (oi := { dst := some 4, op := Op.assign (Operand.tmp 79), type := 4, pos := "law.go:92", after := #[{ on := 38, ground := Ground.data }, { on := 36, ground := Ground.chain }, { on := 0, ground := Ground.phase }, { on := 1, ground := Ground.phase }, { on := 2, ground := Ground.phase }, { on := 3, ground := Ground.phase }, { on := 4, ground := Ground.phase }, { on := 5, ground := Ground.phase }, { on := 6, ground := Ground.phase }, { on := 7, ground := Ground.phase }, { on := 8, ground := Ground.phase }, { on := 9, ground := Ground.phase }, { on := 10, ground := Ground.phase }, { on := 11, ground := Ground.phase }, { on := 12, ground := Ground.phase }, { on := 13, ground := Ground.phase }, { on := 14, ground := Ground.phase }, { on := 15, ground := Ground.phase }, { on := 16, ground := Ground.phase }, { on := 17, ground := Ground.phase }, { on := 18, ground := Ground.phase }, { on := 19, ground := Ground.phase }, { on := 20, ground := Ground.phase }, { on := 21, ground := Ground.phase }, { on := 22, ground := Ground.phase }, { on := 23, ground := Ground.phase }, { on := 24, ground := Ground.phase }, { on := 25, ground := Ground.phase }, { on := 26, ground := Ground.phase }, { on := 27, ground := Ground.phase }, { on := 28, ground := Ground.phase }, { on := 29, ground := Ground.phase }, { on := 30, ground := Ground.phase }, { on := 31, ground := Ground.phase }, { on := 32, ground := Ground.phase }, { on := 33, ground := Ground.phase }, { on := 34, ground := Ground.phase }, { on := 35, ground := Ground.phase }, { on := 36, ground := Ground.phase }, { on := 37, ground := Ground.phase }, { on := 38, ground := Ground.phase }], guard := none }) (v := ?_) rfl (by kernel_rfl) (by kernel_rfl) (by kernel_rfl) (fun _ _ _ h => h) (Or.inl ⟨by kernel_rfl, ?_⟩) (by assumption) ?_
      rotate_left 1
      focus (intro w hSw; (try dsimp only at hSw); go_simp; (try with_reducible rfl))
      try simp only [Act.put, List.setIfInBounds_toArray, List.set_cons_zero, List.set_cons_succ]
      refine wpAnyH_done (by kernel_rfl) ?_ _
      have HB := Lib.hid h69r13.below
      go_wp2_with fail
      go_ret
      exact ⟨rfl, HB.out⟩

theorem okin (W : World) (base : Nat) : Input.okWide Try.checked.prog W .any base 7 ⟨#[], #[tv z0, zp.v], []⟩ := by
  refine ⟨by simp, by simp, by kernel_rfl, Try.f7, Try.func7, by kernel_rfl, by kernel_rfl, by kernel_rfl, by rw [Try.params7]; rfl, ?_⟩
  intro j t v ht hv
  rw [Try.params7] at ht
  match j with
  | 0 => cases (Option.some.inj ht); cases (Option.some.inj hv); exact ok_tile W base
  | 1 => cases (Option.some.inj ht); cases (Option.some.inj hv); exact ok_px W base
  | j + 2 => simp at ht
set_option maxRecDepth 100000 in
theorem lifted (os : Os) (started : os.Started) (H : Type) (enc : TypeId × Value → H) :
    ReturnsInHanded {} Try.checked os 7 .any (Rows.tileGroupSpec.pre6 enc Try.prog Try.f7 Rows.tileGroupRow.domain false) (Rows.tileGroupSpec.post enc Try.prog Try.f7 false true false false) := by
  refine returnsInHanded_of_change_sized (C := Try.checked) own started (by kernel_rfl) Try.func7
    (witness7 (enc := enc) (C := Try.checked) false ⟨#[], #[tv z0, zp.v], []⟩ 8 (by kernel_rfl) (by kernel_rfl) (fun W base => okin W base) (by kernel_rfl) (by kernel_rfl)) ?_
  intro W base args ds gs before hval0 hW _ _ _
  have hval : ∀ (j : Nat) t v, Try.f7.params[j]? = some t → args[j]? = some v → Value.okWide Try.prog W .any base t v := hval0
  have hW' := hW
  obtain ⟨p, q, hA0, hV, rfl, hfz, hnd⟩ := hW
  have hA : DataW.TrodAll enc Try.prog W 0 (fun _ => true) true Try.f7.params.toList args.toList ds p := hA0
  rw [Try.params7] at hA hval
  obtain ⟨v0, v1, d0, d1, p0, p1, rfl, rfl, rfl, h0, h1⟩ := trodAll_two hA
  obtain ⟨rfl, rfl⟩ := trodVars_none hV
  obtain ⟨f, rfl, hf⟩ := open_tile (hval 0 25 v0 rfl rfl)
  obtain ⟨p, rfl, hp⟩ := open_px (hval 1 23 v1 rfl rfl)
  refine (walk f p W hf hp).mono fun e W' ⟨he, hb⟩ => ?_
  subst he
  exact ⟨_, rfl, law_post hW' rfl (by kernel_rfl) rfl (by intro t ht; rw [Try.params7] at ht; simp at ht; rcases ht with rfl | rfl <;> exact ⟨by kernel_rfl, of_decide_eq_true (by kernel_rfl)⟩) hb⟩

theorem holds : Rows.TileGroupSaid :=
  OpenClaim.holds_of_wide 7 Try.f7 rfl rfl rfl rfl rfl rfl rfl ⟨rfl, rfl, rfl, rfl, rfl⟩ rfl rfl rfl rfl rfl (by kernel_rfl) Try.func7 (by kernel_rfl)
    (of_decide_eq_true (by kernel_rfl)) (by unfold Func.isWrapper; first | (rw [if_pos (by decide +kernel)]; kernel_rfl) | (rw [if_neg (by decide +kernel)]; exact ⟨rfl, rfl⟩))
    (fun os started H enc _ => lifted os started H enc)
end Go.Proofs.Ytkomknhloimhcaa.T.TLGroup
