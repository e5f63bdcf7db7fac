/-
  The laws' sanity.
-/
import Derived.Test.YtligojllbnahcaaDoorTOps
namespace Go.Proofs.YtligojllbnahcaaDoor.T
open Go.RowKit Go.Shelf

def p1 : Px := ⟨1, 0, 0, 255⟩
def q2 : Px := ⟨0, 2, 0, 255⟩
def n9 : Px := ⟨9, 9, 9, 255⟩
def T1 : Nat → Px := st (fun _ => p1) 1 0 q2
def H1 : Nat → Px := fun i => m4 (four (sqG z0 z0 z0 (fun _ => n9)) i)
theorem s1 : gt (fun i => T1 (flipI i)) 6 0 = q2 := by decide +kernel
theorem s2 : gt (fun i => T1 (turnI i)) 7 1 = q2 := by decide +kernel
theorem s3 : gt (fun i => T1 (turnI i)) 1 0 = p1 := by decide +kernel
theorem s4 : gt H1 3 3 = zp := by decide +kernel
theorem s5 : gt H1 4 4 = n9 := by decide +kernel
theorem sq_pc (k : Nat) (_ : k < 256) : Pc (sqG z0 z0 z0 (fun _ => n9) k) := by
  have hz : Pc zp := ⟨⟨by decide, by decide⟩, ⟨by decide, by decide⟩, ⟨by decide, by decide⟩, ⟨by decide, by decide⟩⟩
  have hn : Pc n9 := ⟨⟨by decide, by decide⟩, ⟨by decide, by decide⟩, ⟨by decide, by decide⟩, ⟨by decide, by decide⟩⟩
  unfold sqG app z0
  split
  · split <;> exact hz
  · split
    · exact hz
    · exact hn
set_option maxRecDepth 100000 in
set_option maxHeartbeats 8000000 in
theorem tsane_any (w : World) : Calls Tryd.prog 5 #[] w fun e w' => e = .returned (.bool true) ∧ Below w.heap.size w w' := by
  have hs := (((St.start w).alloc (pxo p1)).alloc (pxo q2)).alloc (pxo n9)
  simp only [World.size_alloc] at hs
  have HE1 := Lib.hid (eqlT s1)
  have HE2 := Lib.hid (eqlT s2)
  have HE3 := Lib.hid (eqlT s3)
  have HE4 := Lib.hid (eqlT s4)
  have HE5 := Lib.hid (eqlT s5)
  have HT1 := Lib.hid (show T1 = st (fun _ => p1) 1 0 q2 from rfl)
  have HH1 := Lib.hid (show H1 = fun i => m4 (four (sqG z0 z0 z0 (fun _ => n9)) i) from rfl)
  have HPC := Lib.hid sq_pc
  go_enter Tryd.func5, Tryd.ntmps5
  go_upto_region 4 with fail
  have e1 : ((w.alloc (.cells #[.int .u8 1, .int .u8 0, .int .u8 0, .int .u8 255] 23)).alloc (.cells #[.int .u8 0, .int .u8 2, .int .u8 0, .int .u8 255] 23)).alloc (.cells #[.int .u8 9, .int .u8 9, .int .u8 9, .int .u8 255] 23) = ((w.alloc (pxo p1)).alloc (pxo q2)).alloc (pxo n9) := rfl
  rw [e1]
  clear e1
  generalize ((w.alloc (pxo p1)).alloc (pxo q2)).alloc (pxo n9) = W0 at hs ⊢
  have hle : w.heap.size + 1 + 1 < W0.heap.size := (Array.getElem?_eq_some_iff.1 (hs.row (b := w.heap.size + 1 + 1) (o := pxo n9) (by simp))).1
  generalize p1 = p at *
  generalize q2 = q at *
  generalize n9 = nine at *
  generalize T1 = T at *
  generalize H1 = H at *
  go_cut [4] (fun v wx => ∃ b4, v = ptrB b4 ∧ St w ((b4, tob T) :: [(w.heap.size + 1 + 1, pxo nine), (w.heap.size + 1, pxo q), (w.heap.size, pxo p)]) wx)
  case first =>
    refine wp_region_held_drew (S := fun V9 => St w [(w.heap.size + 1 + 1, pxo nine), (w.heap.size + 1, pxo q), (w.heap.size, pxo p)] V9) (by kernel_rfl) ?_ (fun hHeld => ?_)
    · exact hs.drew
    have hs0 := hs.drew
    refine wpAnyH_take (i := 0) (oi := { dst := some 9, op := Op.load 23 (Operand.tmp 1), type := 23, pos := "law.go:17", after := #[], guard := none }) rfl (by kernel_rfl) (by kernel_rfl) (by kernel_rfl) (fun _ _ _ h => h) (yields_load (by kernel_rfl) 23 (.tmp 1) rfl (p).v (fun V hV => ldp (b := w.heap.size) (p := p) hV (by simp))) (by assumption) ?_
    try simp only [Act.put, List.setIfInBounds_toArray, List.set_cons_zero, List.set_cons_succ]
    refine wpAnyH_take (i := 2) (oi := { dst := some 11, op := Op.load 23 (Operand.tmp 2), type := 23, pos := "law.go:17", after := #[], guard := none }) rfl (by kernel_rfl) (by kernel_rfl) (by kernel_rfl) (fun _ _ _ h => h) (yields_load (by kernel_rfl) 23 (.tmp 2) rfl (q).v (fun V hV => ldp (b := w.heap.size + 1) (p := q) hV (by simp))) (by assumption) ?_
    try simp only [Act.put, List.setIfInBounds_toArray, List.set_cons_zero, List.set_cons_succ]
    refine wpAnyH_ready (rs := [1, 4]) (by kernel_rfl) (by simp) (AllReadyH.cons (o := { dst := some 10, op := Op.call { callee := Callee.value (Operand.func 14), args := #[Operand.tmp 9], argTypes := #[23] }, type := 25, pos := "law.go:17", after := #[{ on := 0, ground := Ground.data }], guard := none }) rfl (fun K hK => ?_) (AllReadyH.cons (o := { dst := some 4, op := Op.alloc 25, type := 0, pos := "law.go:17", after := #[], guard := none }) rfl (fun K hK => ?_) AllReadyH.nil))
    · (go_simp; (go_at_call 14; (refine (St.call hs0 (fill_any p _)).mono ?_); rintro e V1r4 ⟨rfl, hs1r4⟩))
      refine hK.out _ _ ?_ (fun hHeld => ?_)
      · (first | exact hs1r4 | exact hs1r4.tl)
      clear hK K
      try simp only [Act.put, List.setIfInBounds_toArray, List.set_cons_zero, List.set_cons_succ]
      refine wpAnyH_ready (rs := [3, 4]) (by kernel_rfl) (by simp) (AllReadyH.cons (o := { dst := some 12, op := Op.call { callee := Callee.value (Operand.func 13), args := #[Operand.tmp 10, Operand.const (Value.int IntKind.i64 1), Operand.const (Value.int IntKind.i64 0), Operand.tmp 11], argTypes := #[25, 3, 3, 23] }, type := 25, pos := "law.go:17", after := #[{ on := 1, ground := Ground.data }, { on := 2, ground := Ground.data }, { on := 1, ground := Ground.chain }], guard := none }) rfl (fun K hK => ?_) (AllReadyH.cons (o := { dst := some 4, op := Op.alloc 25, type := 0, pos := "law.go:17", after := #[], guard := none }) rfl (fun K hK => ?_) AllReadyH.nil))
      · (go_simp; (go_at_call 13; (refine (St.call hs1r4 (set_any (fun _ => p) 1 0 q _)).mono ?_); rintro e V2r4 ⟨rfl, hs2r4⟩))
        refine hK.out _ _ ?_ (fun hHeld => ?_)
        · (first | exact hs2r4 | exact hs2r4.tl)
        clear hK K
        try simp only [Act.put, List.setIfInBounds_toArray, List.set_cons_zero, List.set_cons_succ]
        refine wpAnyH_ready (rs := [4]) (by kernel_rfl) (by simp) (AllReadyH.cons (o := { dst := some 4, op := Op.alloc 25, type := 0, pos := "law.go:17", after := #[], guard := none }) rfl (fun K hK => ?_) AllReadyH.nil)
        have hne4 := hs2r4.ne
        have hle4 := hs2r4.below.size
        have hs3r4 := hs2r4.alloc (tob z0)
        refine wp_alloc_of 25 rfl _ (zero_tile _) ?_
        refine hK.out _ _ ?_ (fun hHeld => ?_)
        · (first | exact hs3r4 | exact hs3r4.tl)
        clear hK K
        try simp only [Act.put, List.setIfInBounds_toArray, List.set_cons_zero, List.set_cons_succ]
        refine wpAnyH_ready (rs := [5]) (by kernel_rfl) (by simp) (AllReadyH.cons (o := { dst := none, op := Op.store 25 (Operand.tmp 4) (Operand.tmp 12), type := 0, pos := "law.go:17", after := #[{ on := 4, ground := Ground.data }, { on := 3, ground := Ground.data }, { on := 3, ground := Ground.chain }, { on := 0, ground := Ground.phase }, { on := 1, ground := Ground.phase }, { on := 2, ground := Ground.phase }, { on := 3, ground := Ground.phase }, { on := 4, ground := Ground.phase }], guard := none }) rfl (fun K hK => ?_) AllReadyH.nil)
        have hs4r4 := hs3r4.newT (st (fun _ => p) 1 0 q) hle4 hne4
        refine wp_store_of 25 _ _ rfl (store_tile _ z0 (st (fun _ => p) 1 0 q) _ hs3r4.hd) ?_
        refine hK.out _ _ ?_ (fun hHeld => ?_)
        · (first | exact hs4r4 | exact hs4r4.tl)
        clear hK K
        try simp only [Act.put]
        refine wpAnyH_done (by kernel_rfl) ?_ _
        go_wp2_with fail
        go_meet
        case rel => exact ⟨_, rfl, by rw [HT1.out]; exact hs4r4⟩
      · have hne4 := hs1r4.ne
        have hle4 := hs1r4.below.size
        have hs5r4 := hs1r4.alloc (tob z0)
        refine wp_alloc_of 25 rfl _ (zero_tile _) ?_
        refine hK.out _ _ ?_ (fun hHeld => ?_)
        · (first | exact hs5r4 | exact hs5r4.tl)
        clear hK K
        try simp only [Act.put, List.setIfInBounds_toArray, List.set_cons_zero, List.set_cons_succ]
        refine wpAnyH_ready (rs := [3]) (by kernel_rfl) (by simp) (AllReadyH.cons (o := { dst := some 12, op := Op.call { callee := Callee.value (Operand.func 13), args := #[Operand.tmp 10, Operand.const (Value.int IntKind.i64 1), Operand.const (Value.int IntKind.i64 0), Operand.tmp 11], argTypes := #[25, 3, 3, 23] }, type := 25, pos := "law.go:17", after := #[{ on := 1, ground := Ground.data }, { on := 2, ground := Ground.data }, { on := 1, ground := Ground.chain }], guard := none }) rfl (fun K hK => ?_) AllReadyH.nil)
        (go_simp; (go_at_call 13; (refine (St.call hs5r4 (set_any (fun _ => p) 1 0 q _)).mono ?_); rintro e V6r4 ⟨rfl, hs6r4⟩))
        refine hK.out _ _ ?_ (fun hHeld => ?_)
        · (first | exact hs6r4 | exact hs6r4.tl)
        clear hK K
        try simp only [Act.put, List.setIfInBounds_toArray, List.set_cons_zero, List.set_cons_succ]
        refine wpAnyH_ready (rs := [5]) (by kernel_rfl) (by simp) (AllReadyH.cons (o := { dst := none, op := Op.store 25 (Operand.tmp 4) (Operand.tmp 12), type := 0, pos := "law.go:17", after := #[{ on := 4, ground := Ground.data }, { on := 3, ground := Ground.data }, { on := 3, ground := Ground.chain }, { on := 0, ground := Ground.phase }, { on := 1, ground := Ground.phase }, { on := 2, ground := Ground.phase }, { on := 3, ground := Ground.phase }, { on := 4, ground := Ground.phase }], guard := none }) rfl (fun K hK => ?_) AllReadyH.nil)
        have hs7r4 := hs6r4.newT (st (fun _ => p) 1 0 q) hle4 hne4
        refine wp_store_of 25 _ _ rfl (store_tile _ z0 (st (fun _ => p) 1 0 q) _ hs6r4.hd) ?_
        refine hK.out _ _ ?_ (fun hHeld => ?_)
        · (first | exact hs7r4 | exact hs7r4.tl)
        clear hK K
        try simp only [Act.put]
        refine wpAnyH_done (by kernel_rfl) ?_ _
        go_wp2_with fail
        go_meet
        case rel => exact ⟨_, rfl, by rw [HT1.out]; exact hs7r4⟩
    · have hne4 := hs0.ne
      have hle4 := hs0.below.size
      have hs8r4 := hs0.alloc (tob z0)
      refine wp_alloc_of 25 rfl _ (zero_tile _) ?_
      refine hK.out _ _ ?_ (fun hHeld => ?_)
      · (first | exact hs8r4 | exact hs8r4.tl)
      clear hK K
      try simp only [Act.put, List.setIfInBounds_toArray, List.set_cons_zero, List.set_cons_succ]
      refine wpAnyH_ready (rs := [1]) (by kernel_rfl) (by simp) (AllReadyH.cons (o := { dst := some 10, op := Op.call { callee := Callee.value (Operand.func 14), args := #[Operand.tmp 9], argTypes := #[23] }, type := 25, pos := "law.go:17", after := #[{ on := 0, ground := Ground.data }], guard := none }) rfl (fun K hK => ?_) AllReadyH.nil)
      (go_simp; (go_at_call 14; (refine (St.call hs8r4 (fill_any p _)).mono ?_); rintro e V9r4 ⟨rfl, hs9r4⟩))
      refine hK.out _ _ ?_ (fun hHeld => ?_)
      · (first | exact hs9r4 | exact hs9r4.tl)
      clear hK K
      try simp only [Act.put, List.setIfInBounds_toArray, List.set_cons_zero, List.set_cons_succ]
      refine wpAnyH_ready (rs := [3]) (by kernel_rfl) (by simp) (AllReadyH.cons (o := { dst := some 12, op := Op.call { callee := Callee.value (Operand.func 13), args := #[Operand.tmp 10, Operand.const (Value.int IntKind.i64 1), Operand.const (Value.int IntKind.i64 0), Operand.tmp 11], argTypes := #[25, 3, 3, 23] }, type := 25, pos := "law.go:17", after := #[{ on := 1, ground := Ground.data }, { on := 2, ground := Ground.data }, { on := 1, ground := Ground.chain }], guard := none }) rfl (fun K hK => ?_) AllReadyH.nil)
      (go_simp; (go_at_call 13; (refine (St.call hs9r4 (set_any (fun _ => p) 1 0 q _)).mono ?_); rintro e V10r4 ⟨rfl, hs10r4⟩))
      refine hK.out _ _ ?_ (fun hHeld => ?_)
      · (first | exact hs10r4 | exact hs10r4.tl)
      clear hK K
      try simp only [Act.put, List.setIfInBounds_toArray, List.set_cons_zero, List.set_cons_succ]
      refine wpAnyH_ready (rs := [5]) (by kernel_rfl) (by simp) (AllReadyH.cons (o := { dst := none, op := Op.store 25 (Operand.tmp 4) (Operand.tmp 12), type := 0, pos := "law.go:17", after := #[{ on := 4, ground := Ground.data }, { on := 3, ground := Ground.data }, { on := 3, ground := Ground.chain }, { on := 0, ground := Ground.phase }, { on := 1, ground := Ground.phase }, { on := 2, ground := Ground.phase }, { on := 3, ground := Ground.phase }, { on := 4, ground := Ground.phase }], guard := none }) rfl (fun K hK => ?_) AllReadyH.nil)
      have hs11r4 := hs10r4.newT (st (fun _ => p) 1 0 q) hle4 hne4
      refine wp_store_of 25 _ _ rfl (store_tile _ z0 (st (fun _ => p) 1 0 q) _ hs10r4.hd) ?_
      refine hK.out _ _ ?_ (fun hHeld => ?_)
      · (first | exact hs11r4 | exact hs11r4.tl)
      clear hK K
      try simp only [Act.put]
      refine wpAnyH_done (by kernel_rfl) ?_ _
      go_wp2_with fail
      go_meet
      case rel => exact ⟨_, rfl, by rw [HT1.out]; exact hs11r4⟩
  case rest =>
    obtain ⟨b4, rfl, hs4⟩ := hcut
    go_upto_region 5 with fail
    obtain ⟨W1, hW1⟩ : ∃ W1, W1 = wc := ⟨_, rfl⟩
    have HX1 := Lib.hid (St.call hs4 (fill_any nine wc))
    have HS4 := Lib.hid hs4
    have HLN := Lib.hid (ldp (b := w.heap.size + 1 + 1) (p := nine) hs4 (by simp))
    clear hs hW1
    go_upto_region 6 with (first
      | (refine wpList_build0 rfl 25 rfl _ (built0 _) ?_)
      | (refine wpList_load_of rfl 23 _ rfl _ HLN.out ?_)
      | (go_at_call 14; (refine HX1.out.mono ?_); rintro e V1 ⟨rfl, h1⟩; have H1' := Lib.hid h1; clear h1)
      | (go_at_call 15; (refine (St.call H1'.out (halve_any z0 z0 z0 (fun _ => nine) _ HPC.out)).mono ?_); rintro e V2 ⟨rfl, h2⟩; rw [← HH1.out]; have h5 := (h2.alloc (tob z0)).newT H h2.below.size h2.ne; have HA := Lib.hid (h2.alloc (tob z0)).hd; have H5 := Lib.hid h5; clear h2 h5)
      | (refine wpList_alloc_of rfl 25 rfl _ (zero_tile _) ?_)
      | (refine wpList_store_of rfl 25 _ _ rfl (store_tile _ z0 H _ HA.out) ?_))
    have ht := H5.out
    generalize V2.heap.size = b5 at *
    generalize (V2.alloc (.cells (tc z0) 25)).setRow b5 (tc H) = W2 at ht ⊢
    clear hs4
    refine wp_region_held_drew (S := fun V9 => St w ((b5, tob H) :: (b4, tob T) :: [(w.heap.size + 1 + 1, pxo nine), (w.heap.size + 1, pxo q), (w.heap.size, pxo p)]) V9) (by kernel_rfl) ?_ (fun hHeld => ?_)
    · exact ht.drew
    have ht0 := ht.drew
    refine wpAnyH_take (i := 0) (oi := { dst := some 19, op := Op.load 25 (Operand.tmp 4), type := 25, pos := "law.go:19", after := #[], guard := none }) rfl (by kernel_rfl) (by kernel_rfl) (by kernel_rfl) (fun _ _ _ h => h) (yields_load (by kernel_rfl) 25 (.tmp 4) rfl (tv (T)) (fun V hV => ld (b := b4) (f := T) hV (by simp))) (by assumption) ?_
    try simp only [Act.put, List.setIfInBounds_toArray, List.set_cons_zero, List.set_cons_succ]
    refine wpAnyH_take (i := 3) (oi := { dst := some 22, op := Op.load 23 (Operand.tmp 2), type := 23, pos := "law.go:19", after := #[], guard := none }) rfl (by kernel_rfl) (by kernel_rfl) (by kernel_rfl) (fun _ _ _ h => h) (yields_load (by kernel_rfl) 23 (.tmp 2) rfl (q).v (fun V hV => ldp (b := w.heap.size + 1) (p := q) hV (by simp))) (by assumption) ?_
    try simp only [Act.put, List.setIfInBounds_toArray, List.set_cons_zero, List.set_cons_succ]
    refine wpAnyH_ready (rs := [1]) (by kernel_rfl) (by simp) (AllReadyH.cons (o := { dst := some 20, op := Op.call { callee := Callee.value (Operand.func 17), args := #[Operand.tmp 19], argTypes := #[25] }, type := 25, pos := "law.go:19", after := #[{ on := 0, ground := Ground.data }], guard := none }) rfl (fun K hK => ?_) AllReadyH.nil)
    (go_simp; (go_at_call 17; (refine (St.call ht0 (flip_any T _)).mono ?_); rintro e V1r6 ⟨rfl, ht1r6⟩))
    refine hK.out _ _ ?_ (fun hHeld => ?_)
    · (first | exact ht1r6 | exact ht1r6.tl)
    clear hK K
    try simp only [Act.put, List.setIfInBounds_toArray, List.set_cons_zero, List.set_cons_succ]
    refine wpAnyH_ready (rs := [2]) (by kernel_rfl) (by simp) (AllReadyH.cons (o := { dst := some 21, op := Op.call { callee := Callee.value (Operand.func 16), args := #[Operand.tmp 20, Operand.const (Value.int IntKind.i64 6), Operand.const (Value.int IntKind.i64 0)], argTypes := #[25, 3, 3] }, type := 23, pos := "law.go:19", after := #[{ on := 1, ground := Ground.data }, { on := 1, ground := Ground.chain }], guard := none }) rfl (fun K hK => ?_) AllReadyH.nil)
    (go_simp; (go_at_call 16; (refine (St.call ht1r6 (get_any (fun i => T (flipI i)) 6 0 _)).mono ?_); rintro e V2r6 ⟨rfl, ht2r6⟩))
    refine hK.out _ _ ?_ (fun hHeld => ?_)
    · (first | exact ht2r6 | exact ht2r6.tl)
    clear hK K
    try simp only [Act.put, List.setIfInBounds_toArray, List.set_cons_zero, List.set_cons_succ]
    refine wpAnyH_take (i := 4) (oi := { dst := some 23, op := Op.binOp BinOp.eql 23 (Operand.tmp 21) (Operand.tmp 22) 23, type := 4, pos := "law.go:19", after := #[{ on := 2, ground := Ground.data }, { on := 3, ground := Ground.data }], guard := none }) rfl (by kernel_rfl) (by kernel_rfl) (by kernel_rfl) (fun _ _ _ h => h) (yields_bin (by kernel_rfl) .eql 23 (.tmp 21) (.tmp 22) 23 rfl _ _ rfl rfl guard_px (.bool true) (fun V => HE1.out V)) (by assumption) ?_
    try simp only [Act.put, List.setIfInBounds_toArray, List.set_cons_zero, List.set_cons_succ]
    refine wpAnyH_take (i := 5) (oi := { dst := some 24, op := Op.move (Operand.tmp 23), type := 4, pos := "law.go:19", after := #[{ on := 4, ground := Ground.data }, { on := 2, ground := Ground.chain }], guard := none }) (v := ?_) rfl (by kernel_rfl) (by kernel_rfl) (by kernel_rfl) (fun _ _ _ h => h) (Or.inl ⟨by kernel_rfl, ?_⟩) (by assumption) ?_
    rotate_left 1
    focus (intro w hSw; (try dsimp only at hSw); go_simp; (try with_reducible rfl))
    try simp only [Act.put, List.setIfInBounds_toArray, List.set_cons_zero, List.set_cons_succ]
    refine wpAnyH_take (i := 6) (oi := { dst := some 25, op := Op.load 25 (Operand.tmp 4), type := 25, pos := "law.go:19", after := #[{ on := 5, ground := Ground.guard }], guard := some (5, true) }) rfl (by kernel_rfl) (by kernel_rfl) (by kernel_rfl) (fun _ _ _ h => h) (yields_load (by kernel_rfl) 25 (.tmp 4) rfl (tv (T)) (fun V hV => ld (b := b4) (f := T) hV (by simp))) (by assumption) ?_
    try simp only [Act.put, List.setIfInBounds_toArray, List.set_cons_zero, List.set_cons_succ]
    refine wpAnyH_take (i := 9) (oi := { dst := some 28, op := Op.load 23 (Operand.tmp 2), type := 23, pos := "law.go:19", after := #[{ on := 5, ground := Ground.guard }], guard := some (5, true) }) rfl (by kernel_rfl) (by kernel_rfl) (by kernel_rfl) (fun _ _ _ h => h) (yields_load (by kernel_rfl) 23 (.tmp 2) rfl (q).v (fun V hV => ldp (b := w.heap.size + 1) (p := q) hV (by simp))) (by assumption) ?_
    try simp only [Act.put, List.setIfInBounds_toArray, List.set_cons_zero, List.set_cons_succ]
    refine wpAnyH_ready (rs := [7]) (by kernel_rfl) (by simp) (AllReadyH.cons (o := { dst := some 26, op := Op.call { callee := Callee.value (Operand.func 18), args := #[Operand.tmp 25], argTypes := #[25] }, type := 25, pos := "law.go:19", after := #[{ on := 6, ground := Ground.data }, { on := 5, ground := Ground.chain }, { on := 5, ground := Ground.guard }], guard := some (5, true) }) rfl (fun K hK => ?_) AllReadyH.nil)
    (go_simp; (go_at_call 18; (refine (St.call ht2r6 (turn_any T _)).mono ?_); rintro e V3r6 ⟨rfl, ht3r6⟩))
    refine hK.out _ _ ?_ (fun hHeld => ?_)
    · (first | exact ht3r6 | exact ht3r6.tl)
    clear hK K
    try simp only [Act.put, List.setIfInBounds_toArray, List.set_cons_zero, List.set_cons_succ]
    refine wpAnyH_ready (rs := [8]) (by kernel_rfl) (by simp) (AllReadyH.cons (o := { dst := some 27, op := Op.call { callee := Callee.value (Operand.func 16), args := #[Operand.tmp 26, Operand.const (Value.int IntKind.i64 7), Operand.const (Value.int IntKind.i64 1)], argTypes := #[25, 3, 3] }, type := 23, pos := "law.go:19", after := #[{ on := 7, ground := Ground.data }, { on := 7, ground := Ground.chain }, { on := 5, ground := Ground.guard }], guard := some (5, true) }) rfl (fun K hK => ?_) AllReadyH.nil)
    (go_simp; (go_at_call 16; (refine (St.call ht3r6 (get_any (fun i => T (turnI i)) 7 1 _)).mono ?_); rintro e V4r6 ⟨rfl, ht4r6⟩))
    refine hK.out _ _ ?_ (fun hHeld => ?_)
    · (first | exact ht4r6 | exact ht4r6.tl)
    clear hK K
    try simp only [Act.put, List.setIfInBounds_toArray, List.set_cons_zero, List.set_cons_succ]
    refine wpAnyH_take (i := 10) (oi := { dst := some 29, op := Op.binOp BinOp.eql 23 (Operand.tmp 27) (Operand.tmp 28) 23, type := 4, pos := "law.go:19", after := #[{ on := 8, ground := Ground.data }, { on := 9, ground := Ground.data }, { on := 5, ground := Ground.guard }], guard := some (5, true) }) rfl (by kernel_rfl) (by kernel_rfl) (by kernel_rfl) (fun _ _ _ h => h) (yields_bin (by kernel_rfl) .eql 23 (.tmp 27) (.tmp 28) 23 rfl _ _ rfl rfl guard_px (.bool true) (fun V => HE2.out V)) (by assumption) ?_
    try simp only [Act.put, List.setIfInBounds_toArray, List.set_cons_zero, List.set_cons_succ]
    refine wpAnyH_take (i := 11) (oi := { dst := some 30, op := Op.pick (Operand.tmp 24) (Operand.tmp 29) (Operand.const (Value.bool false)), type := 4, pos := "law.go:19", after := #[{ on := 5, ground := Ground.data }, { on := 10, ground := Ground.data }], guard := none }) (v := ?_) rfl (by kernel_rfl) (by kernel_rfl) (by kernel_rfl) (fun _ _ _ h => h) (Or.inl ⟨by kernel_rfl, ?_⟩) (by assumption) ?_
    rotate_left 1
    focus (intro w hSw; (try dsimp only at hSw); go_simp; (try with_reducible rfl))
    try simp only [Act.put, List.setIfInBounds_toArray, List.set_cons_zero, List.set_cons_succ]
    refine wpAnyH_take (i := 12) (oi := { dst := some 31, op := Op.move (Operand.tmp 30), type := 4, pos := "law.go:19", after := #[{ on := 11, ground := Ground.data }, { on := 8, ground := Ground.chain }], guard := none }) (v := ?_) rfl (by kernel_rfl) (by kernel_rfl) (by kernel_rfl) (fun _ _ _ h => h) (Or.inl ⟨by kernel_rfl, ?_⟩) (by assumption) ?_
    rotate_left 1
    focus (intro w hSw; (try dsimp only at hSw); go_simp; (try with_reducible rfl))
    try simp only [Act.put, List.setIfInBounds_toArray, List.set_cons_zero, List.set_cons_succ]
    refine wpAnyH_take (i := 13) (oi := { dst := some 32, op := Op.load 25 (Operand.tmp 4), type := 25, pos := "law.go:19", after := #[{ on := 12, ground := Ground.guard }], guard := some (12, true) }) rfl (by kernel_rfl) (by kernel_rfl) (by kernel_rfl) (fun _ _ _ h => h) (yields_load (by kernel_rfl) 25 (.tmp 4) rfl (tv (T)) (fun V hV => ld (b := b4) (f := T) hV (by simp))) (by assumption) ?_
    try simp only [Act.put, List.setIfInBounds_toArray, List.set_cons_zero, List.set_cons_succ]
    refine wpAnyH_take (i := 16) (oi := { dst := some 35, op := Op.load 23 (Operand.tmp 1), type := 23, pos := "law.go:19", after := #[{ on := 12, ground := Ground.guard }], guard := some (12, true) }) rfl (by kernel_rfl) (by kernel_rfl) (by kernel_rfl) (fun _ _ _ h => h) (yields_load (by kernel_rfl) 23 (.tmp 1) rfl (p).v (fun V hV => ldp (b := w.heap.size) (p := p) hV (by simp))) (by assumption) ?_
    try simp only [Act.put, List.setIfInBounds_toArray, List.set_cons_zero, List.set_cons_succ]
    refine wpAnyH_ready (rs := [14]) (by kernel_rfl) (by simp) (AllReadyH.cons (o := { dst := some 33, op := Op.call { callee := Callee.value (Operand.func 18), args := #[Operand.tmp 32], argTypes := #[25] }, type := 25, pos := "law.go:19", after := #[{ on := 13, ground := Ground.data }, { on := 12, ground := Ground.chain }, { on := 12, ground := Ground.guard }], guard := some (12, true) }) rfl (fun K hK => ?_) AllReadyH.nil)
    (go_simp; (go_at_call 18; (refine (St.call ht4r6 (turn_any T _)).mono ?_); rintro e V5r6 ⟨rfl, ht5r6⟩))
    refine hK.out _ _ ?_ (fun hHeld => ?_)
    · (first | exact ht5r6 | exact ht5r6.tl)
    clear hK K
    try simp only [Act.put, List.setIfInBounds_toArray, List.set_cons_zero, List.set_cons_succ]
    refine wpAnyH_ready (rs := [15]) (by kernel_rfl) (by simp) (AllReadyH.cons (o := { dst := some 34, op := Op.call { callee := Callee.value (Operand.func 16), args := #[Operand.tmp 33, Operand.const (Value.int IntKind.i64 1), Operand.const (Value.int IntKind.i64 0)], argTypes := #[25, 3, 3] }, type := 23, pos := "law.go:19", after := #[{ on := 14, ground := Ground.data }, { on := 14, ground := Ground.chain }, { on := 12, ground := Ground.guard }], guard := some (12, true) }) rfl (fun K hK => ?_) AllReadyH.nil)
    (go_simp; (go_at_call 16; (refine (St.call ht5r6 (get_any (fun i => T (turnI i)) 1 0 _)).mono ?_); rintro e V6r6 ⟨rfl, ht6r6⟩))
    refine hK.out _ _ ?_ (fun hHeld => ?_)
    · (first | exact ht6r6 | exact ht6r6.tl)
    clear hK K
    try simp only [Act.put, List.setIfInBounds_toArray, List.set_cons_zero, List.set_cons_succ]
    refine wpAnyH_take (i := 17) (oi := { dst := some 36, op := Op.binOp BinOp.eql 23 (Operand.tmp 34) (Operand.tmp 35) 23, type := 4, pos := "law.go:19", after := #[{ on := 15, ground := Ground.data }, { on := 16, ground := Ground.data }, { on := 12, ground := Ground.guard }], guard := some (12, true) }) rfl (by kernel_rfl) (by kernel_rfl) (by kernel_rfl) (fun _ _ _ h => h) (yields_bin (by kernel_rfl) .eql 23 (.tmp 34) (.tmp 35) 23 rfl _ _ rfl rfl guard_px (.bool true) (fun V => HE3.out V)) (by assumption) ?_
    try simp only [Act.put, List.setIfInBounds_toArray, List.set_cons_zero, List.set_cons_succ]
    refine wpAnyH_take (i := 18) (oi := { dst := some 37, op := Op.pick (Operand.tmp 31) (Operand.tmp 36) (Operand.const (Value.bool false)), type := 4, pos := "law.go:19", after := #[{ on := 12, ground := Ground.data }, { on := 17, ground := Ground.data }], guard := none }) (v := ?_) rfl (by kernel_rfl) (by kernel_rfl) (by kernel_rfl) (fun _ _ _ h => h) (Or.inl ⟨by kernel_rfl, ?_⟩) (by assumption) ?_
    rotate_left 1
    focus (intro w hSw; (try dsimp only at hSw); go_simp; (try with_reducible rfl))
    try simp only [Act.put, List.setIfInBounds_toArray, List.set_cons_zero, List.set_cons_succ]
    refine wpAnyH_take (i := 19) (oi := { dst := some 38, op := Op.move (Operand.tmp 37), type := 4, pos := "law.go:19", after := #[{ on := 18, ground := Ground.data }, { on := 15, ground := Ground.chain }], guard := none }) (v := ?_) rfl (by kernel_rfl) (by kernel_rfl) (by kernel_rfl) (fun _ _ _ h => h) (Or.inl ⟨by kernel_rfl, ?_⟩) (by assumption) ?_
    rotate_left 1
    focus (intro w hSw; (try dsimp only at hSw); go_simp; (try with_reducible rfl))
    try simp only [Act.put, List.setIfInBounds_toArray, List.set_cons_zero, List.set_cons_succ]
    refine wpAnyH_take (i := 20) (oi := { dst := some 39, op := Op.load 25 (Operand.tmp 5), type := 25, pos := "law.go:19", after := #[{ on := 19, ground := Ground.guard }], guard := some (19, true) }) rfl (by kernel_rfl) (by kernel_rfl) (by kernel_rfl) (fun _ _ _ h => h) (yields_load (by kernel_rfl) 25 (.tmp 5) rfl (tv (H)) (fun V hV => ld (b := b5) (f := H) hV (by simp))) (by assumption) ?_
    try simp only [Act.put, List.setIfInBounds_toArray, List.set_cons_zero, List.set_cons_succ]
    refine wpAnyH_take (i := 22) (oi := { dst := some 41, op := Op.build 23 #[], type := 23, pos := "law.go:19", after := #[{ on := 19, ground := Ground.guard }], guard := some (19, true) }) rfl (by kernel_rfl) (by kernel_rfl) (by kernel_rfl) (fun _ _ _ h => h) (yields_build0 (by kernel_rfl) 23 rfl zp.v (fun V => built0p V)) (by assumption) ?_
    try simp only [Act.put, List.setIfInBounds_toArray, List.set_cons_zero, List.set_cons_succ]
    refine wpAnyH_ready (rs := [21]) (by kernel_rfl) (by simp) (AllReadyH.cons (o := { dst := some 40, op := Op.call { callee := Callee.value (Operand.func 16), args := #[Operand.tmp 39, Operand.const (Value.int IntKind.i64 3), Operand.const (Value.int IntKind.i64 3)], argTypes := #[25, 3, 3] }, type := 23, pos := "law.go:19", after := #[{ on := 20, ground := Ground.data }, { on := 19, ground := Ground.chain }, { on := 19, ground := Ground.guard }], guard := some (19, true) }) rfl (fun K hK => ?_) AllReadyH.nil)
    (go_simp; (go_at_call 16; (refine (St.call ht6r6 (get_any H 3 3 _)).mono ?_); rintro e V7r6 ⟨rfl, ht7r6⟩))
    refine hK.out _ _ ?_ (fun hHeld => ?_)
    · (first | exact ht7r6 | exact ht7r6.tl)
    clear hK K
    try simp only [Act.put, List.setIfInBounds_toArray, List.set_cons_zero, List.set_cons_succ]
    refine wpAnyH_take (i := 23) (oi := { dst := some 42, op := Op.binOp BinOp.eql 23 (Operand.tmp 40) (Operand.tmp 41) 23, type := 4, pos := "law.go:19", after := #[{ on := 21, ground := Ground.data }, { on := 22, ground := Ground.data }, { on := 19, ground := Ground.guard }], guard := some (19, true) }) rfl (by kernel_rfl) (by kernel_rfl) (by kernel_rfl) (fun _ _ _ h => h) (yields_bin (by kernel_rfl) .eql 23 (.tmp 40) (.tmp 41) 23 rfl _ _ rfl rfl guard_px (.bool true) (fun V => HE4.out V)) (by assumption) ?_
    try simp only [Act.put, List.setIfInBounds_toArray, List.set_cons_zero, List.set_cons_succ]
    refine wpAnyH_take (i := 24) (oi := { dst := some 43, op := Op.pick (Operand.tmp 38) (Operand.tmp 42) (Operand.const (Value.bool false)), type := 4, pos := "law.go:19", after := #[{ on := 19, ground := Ground.data }, { on := 23, ground := Ground.data }], guard := none }) (v := ?_) rfl (by kernel_rfl) (by kernel_rfl) (by kernel_rfl) (fun _ _ _ h => h) (Or.inl ⟨by kernel_rfl, ?_⟩) (by assumption) ?_
    rotate_left 1
    focus (intro w hSw; (try dsimp only at hSw); go_simp; (try with_reducible rfl))
    try simp only [Act.put, List.setIfInBounds_toArray, List.set_cons_zero, List.set_cons_succ]
    refine wpAnyH_take (i := 25) (oi := { dst := some 44, op := Op.move (Operand.tmp 43), type := 4, pos := "law.go:19", after := #[{ on := 24, ground := Ground.data }, { on := 21, ground := Ground.chain }], guard := none }) (v := ?_) rfl (by kernel_rfl) (by kernel_rfl) (by kernel_rfl) (fun _ _ _ h => h) (Or.inl ⟨by kernel_rfl, ?_⟩) (by assumption) ?_
    rotate_left 1
    focus (intro w hSw; (try dsimp only at hSw); go_simp; (try with_reducible rfl))
    try simp only [Act.put, List.setIfInBounds_toArray, List.set_cons_zero, List.set_cons_succ]
    refine wpAnyH_take (i := 26) (oi := { dst := some 45, op := Op.load 25 (Operand.tmp 5), type := 25, pos := "law.go:19", after := #[{ on := 25, ground := Ground.guard }], guard := some (25, true) }) rfl (by kernel_rfl) (by kernel_rfl) (by kernel_rfl) (fun _ _ _ h => h) (yields_load (by kernel_rfl) 25 (.tmp 5) rfl (tv (H)) (fun V hV => ld (b := b5) (f := H) hV (by simp))) (by assumption) ?_
    try simp only [Act.put, List.setIfInBounds_toArray, List.set_cons_zero, List.set_cons_succ]
    refine wpAnyH_take (i := 28) (oi := { dst := some 47, op := Op.load 23 (Operand.tmp 3), type := 23, pos := "law.go:19", after := #[{ on := 25, ground := Ground.guard }], guard := some (25, true) }) rfl (by kernel_rfl) (by kernel_rfl) (by kernel_rfl) (fun _ _ _ h => h) (yields_load (by kernel_rfl) 23 (.tmp 3) rfl (nine).v (fun V hV => ldp (b := w.heap.size + 1 + 1) (p := nine) hV (by simp))) (by assumption) ?_
    try simp only [Act.put, List.setIfInBounds_toArray, List.set_cons_zero, List.set_cons_succ]
    refine wpAnyH_ready (rs := [27]) (by kernel_rfl) (by simp) (AllReadyH.cons (o := { dst := some 46, op := Op.call { callee := Callee.value (Operand.func 16), args := #[Operand.tmp 45, Operand.const (Value.int IntKind.i64 4), Operand.const (Value.int IntKind.i64 4)], argTypes := #[25, 3, 3] }, type := 23, pos := "law.go:19", after := #[{ on := 26, ground := Ground.data }, { on := 25, ground := Ground.chain }, { on := 25, ground := Ground.guard }], guard := some (25, true) }) rfl (fun K hK => ?_) AllReadyH.nil)
    (go_simp; (go_at_call 16; (refine (St.call ht7r6 (get_any H 4 4 _)).mono ?_); rintro e V8r6 ⟨rfl, ht8r6⟩))
    refine hK.out _ _ ?_ (fun hHeld => ?_)
    · (first | exact ht8r6 | exact ht8r6.tl)
    clear hK K
    try simp only [Act.put, List.setIfInBounds_toArray, List.set_cons_zero, List.set_cons_succ]
    refine wpAnyH_take (i := 29) (oi := { dst := some 48, op := Op.binOp BinOp.eql 23 (Operand.tmp 46) (Operand.tmp 47) 23, type := 4, pos := "law.go:19", after := #[{ on := 27, ground := Ground.data }, { on := 28, ground := Ground.data }, { on := 25, ground := Ground.guard }], guard := some (25, true) }) rfl (by kernel_rfl) (by kernel_rfl) (by kernel_rfl) (fun _ _ _ h => h) (yields_bin (by kernel_rfl) .eql 23 (.tmp 46) (.tmp 47) 23 rfl _ _ rfl rfl guard_px (.bool true) (fun V => HE5.out V)) (by assumption) ?_
    try simp only [Act.put, List.setIfInBounds_toArray, List.set_cons_zero, List.set_cons_succ]
    refine wpAnyH_take (i := 30) (oi := { dst := some 49, op := Op.pick (Operand.tmp 44) (Operand.tmp 48) (Operand.const (Value.bool false)), type := 4, pos := "law.go:19", after := #[{ on := 25, ground := Ground.data }, { on := 29, ground := Ground.data }], guard := none }) (v := ?_) rfl (by kernel_rfl) (by kernel_rfl) (by kernel_rfl) (fun _ _ _ h => h) (Or.inl ⟨by kernel_rfl, ?_⟩) (by assumption) ?_
    rotate_left 1
    focus (intro w hSw; (try dsimp only at hSw); go_simp; (try with_reducible rfl))
    try simp only [Act.put, List.setIfInBounds_toArray, List.set_cons_zero, List.set_cons_succ]
    refine wpAnyH_take (i := 31) (oi := { dst := some 0, op := Op.assign (Operand.tmp 49), type := 4, pos := "law.go:19", after := #[{ on := 30, ground := Ground.data }, { on := 27, ground := Ground.chain }, { on := 0, ground := Ground.phase }, { on := 1, ground := Ground.phase }, { on := 2, ground := Ground.phase }, { on := 3, ground := Ground.phase }, { on := 4, ground := Ground.phase }, { on := 5, ground := Ground.phase }, { on := 6, ground := Ground.phase }, { on := 7, ground := Ground.phase }, { on := 8, ground := Ground.phase }, { on := 9, ground := Ground.phase }, { on := 10, ground := Ground.phase }, { on := 11, ground := Ground.phase }, { on := 12, ground := Ground.phase }, { on := 13, ground := Ground.phase }, { on := 14, ground := Ground.phase }, { on := 15, ground := Ground.phase }, { on := 16, ground := Ground.phase }, { on := 17, ground := Ground.phase }, { on := 18, ground := Ground.phase }, { on := 19, ground := Ground.phase }, { on := 20, ground := Ground.phase }, { on := 21, ground := Ground.phase }, { on := 22, ground := Ground.phase }, { on := 23, ground := Ground.phase }, { on := 24, ground := Ground.phase }, { on := 25, ground := Ground.phase }, { on := 26, ground := Ground.phase }, { on := 27, ground := Ground.phase }, { on := 28, ground := Ground.phase }, { on := 29, ground := Ground.phase }, { on := 30, ground := Ground.phase }], guard := none }) (v := ?_) rfl (by kernel_rfl) (by kernel_rfl) (by kernel_rfl) (fun _ _ _ h => h) (Or.inl ⟨by kernel_rfl, ?_⟩) (by assumption) ?_
    rotate_left 1
    focus (intro w hSw; (try dsimp only at hSw); go_simp; (try with_reducible rfl))
    try simp only [Act.put, List.setIfInBounds_toArray, List.set_cons_zero]
    refine wpAnyH_done (by kernel_rfl) ?_ _
    have HB := Lib.hid ht8r6.below
    go_wp2_with fail
    go_ret
    exact ⟨rfl, HB.out⟩
end Go.Proofs.YtligojllbnahcaaDoor.T
