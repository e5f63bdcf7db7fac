/-
  For all tiles and every byte, two tiles have the same bytes if and only if they are equal, and the key is the digest of the bytes. No conditions on the arguments; the table of round constants is as the program lays it (tied).
-/
import Derived.Test.YtligojllbnahcaaDoorTDLaw
namespace Go.Proofs.YtligojllbnahcaaDoor.T.TLKeys
open Go.ChangeShapes Go.WideShapes Go.ChangeAt Go.RowKit Go.Shelf D
set_option maxRecDepth 100000

set_option maxRecDepth 100000 in
theorem index_px8 (b i : Nat) (hi : i < 64) (w : World) : (Instr.indexAt 25 (.pointer (some ⟨b, 0, none⟩)) (.int .u8 i)).run Tryd.prog w = .ok (.pointer (some ⟨b, 4 * i, none⟩)) w := by
  have hs : (sizeOf 23).run Tryd.prog w = .ok 4 w := by kernel_rfl
  have h2 : 0 ≤ (i : Int) ∧ (i : Int) < (64 : Nat) := ⟨by omega, by omega⟩
  have ha : (⟨b, 0, none⟩ : Addr).add (i * 4) = ⟨b, 4 * i, none⟩ := by rw [Addr.add_mid, Nat.zero_add, Nat.mul_comm]
  simp only [Instr.indexAt, asIntOf, Instr.sureAddr, Sem.run_bind, Sem.run_pure, Result.andThen_ok, run_underlying Tryd.underlying25, hs, if_pos h2, Int.toNat_natCast, ha]
theorem tc_blue (f : Nat → Px) (k : Nat) (hk : k < 64) (x : Int) : (tc f).setIfInBounds (4 * k + 2) (.int .u8 x) = tc (upd f k ⟨(f k).r, (f k).g, x, (f k).a⟩) := by
  refine tc_of _ (by simp [tc_size]) fun i j hi hj => ?_
  rw [Array.getElem?_setIfInBounds]
  by_cases e : 4 * k + 2 = 4 * i + j
  · have e1 : i = k := by omega
    have e2 : j = 2 := by omega
    subst e1 e2
    rw [if_pos rfl, if_pos (by rw [tc_size]; omega), upd_self]; rfl
  · rw [if_neg e, tc_get f i j hi hj]
    by_cases e1 : i = k
    · subst e1
      rw [upd_self]
      have : j = 0 ∨ j = 1 ∨ j = 3 := by omega
      rcases this with rfl | rfl | rfl <;> rfl
    · rw [upd_other _ _ e1]
theorem blue_ne {f : Nat → Px} {k : Nat} (hk : k < 64) (hf : ∀ i, i < 64 → Pc (f i)) (hF : ∀ i, i < 64 → Pc (upd f k ⟨(f k).r, (f k).g, ((f k).b + 1) % 256, (f k).a⟩ i)) :
    decide (str (bys 64 (upd f k ⟨(f k).r, (f k).g, ((f k).b + 1) % 256, (f k).a⟩)) = str (bys 64 f)) = false := by
  rw [decide_eq_false_iff_not]
  intro h
  have h1 := bys_inj hF hf (str_inj h) k hk
  rw [upd_self] at h1
  have h2 : ((f k).b + 1) % 256 = (f k).b := congrArg Px.b h1
  omega

set_option maxHeartbeats 8000000 in
set_option maxRecDepth 100000 in
theorem walk (f : Nat → Px) (g : Nat → Px) (a : Int) (w : World) (hk : KT w) (hf : ∀ i, i < 64 → Pc (f i)) (hg : ∀ i, i < 64 → Pc (g i)) (ha : Ch a) : Calls Tryd.prog 4 #[tv f, tv g, .int .u8 a] w fun e w' => e = .returned (.bool true) ∧ Below w.heap.size w w' := by
  have hs := ((St.start w).alloc (tob f)).alloc (tob g)
  simp only [World.size_alloc] at hs
  obtain ⟨k, hk2⟩ : ∃ k : Nat, a % 64 = k := ⟨(a % 64).toNat, by have := ha.1; omega⟩
  have hk64 : k < 64 := by have := ha.1; omega
  have hF : ∀ i, i < 64 → Pc (upd f k ⟨(f k).r, (f k).g, ((f k).b + 1) % 256, (f k).a⟩ i) := fun i hi => by
    unfold upd
    split
    · exact ⟨(hf k hk64).1, (hf k hk64).2.1, ⟨by show 0 ≤ ((f k).b + 1) % 256; omega, by show ((f k).b + 1) % 256 ≤ 255; omega⟩, (hf k hk64).2.2.2⟩
    · exact hf i hi
  have HBL := Lib.hid (tc_blue f k hk64 (((f k).b + 1) % 256))
  have HE17 := Lib.hid (fun V => (show (Go.binOp .neq 9 (.string (str (bys 64 (upd f k ⟨(f k).r, (f k).g, ((f k).b + 1) % 256, (f k).a⟩)))) (.string (str (bys 64 f)))).run Tryd.prog V = .ok (.bool true) V by rw [neq_str, blue_ne hk64 hf hF]; rfl))
  have HBF := Lib.hid (fun V => bytes_any _ V hF)
  obtain ⟨F, hFe⟩ : ∃ F, upd f k ⟨(f k).r, (f k).g, ((f k).b + 1) % 256, (f k).a⟩ = F := ⟨_, rfl⟩
  rw [hFe] at HBL HE17 HBF
  clear hFe hF
  have hSz := bys_size f
  have HBf := Lib.hid (fun V => bytes_any f V hf)
  have HBg := Lib.hid (fun V => bytes_any g V hg)
  have HKf := Lib.hid (fun V (hk : KT V) => key_any f V hk hf)
  have HKg := Lib.hid (fun V (hk : KT V) => key_any g V hk hg)
  have HOF := Lib.hid (fun V (hk : KT V) => (by have := D.of_any (str (bys 64 f)) V hk (by rw [hSz]; omega); rwa [kd_of] at this : Calls Tryd.prog 12 #[.string (str (bys 64 f))] V fun e w' => e = .returned (.string (kd f)) ∧ Below V.heap.size V w'))
  have HE6 := Lib.hid (fun V => (show (Go.binOp .eql 9 (.string (str (bys 64 f))) (.string (str (bys 64 g)))).run Tryd.prog V = .ok (.bool (teq f g)) V by rw [eql_str, str_iff hf hg]))
  have HE9 := Lib.hid (fun V => eql_tile f g V)
  have HE22 := Lib.hid (fun V => neq_tile f g V)
  have HE37 := Lib.hid (fun V => (show (Go.binOp .eql 34 (.string (kd f)) (.string (kd f))).run Tryd.prog V = .ok (.bool true) V by rw [eql_str]; simp))
  have HE28 : Hid (teq f g = true → ∀ V, (Go.binOp .eql 34 (.string (kd f)) (.string (kd g))).run Tryd.prog V = .ok (.bool true) V) := fun h V => by
    rw [eql_str, show kd f = kd g from by unfold kd; rw [bys_ext ((teq_iff f g).1 h)]]; simp
  have hcb : ∀ (V : World) (c : Nat), V.heap[c]? = some (tob f) → V.cell? ⟨c, 4 * k + 2, none⟩ = some (.int .u8 (f k).b) := fun V c h => by
    rw [cell_of_row V c (4 * k + 2) _ _ (0, 0) h, tc_get f k 2 hk64 (by omega)]; rfl
  have HCB := Lib.hid hcb
  generalize teq f g = z at *
  generalize kd f = K at *
  generalize kd g = Kg at *
  generalize str (bys 64 f) = S at *
  generalize str (bys 64 g) = Sg at *
  generalize str (bys 64 F) = SF at *
  have HK := Lib.hid hk
  have ha0 := ha.1
  have ha1 := ha.2
  have HSZ := Lib.hid hSz
  clear hk hf hg hcb hSz
  go_enter Tryd.func4, Tryd.ntmps4
  go_upto_region 2 with (go_at_call 5; (refine (St.call hs (tsane_any _)).mono ?_); rintro e V1 ⟨rfl, h1⟩)
  have hA := World.alloc_heap_new V1 (tob z0)
  have h2 := (h1.alloc (tob z0)).newT f h1.below.size h1.ne
  have hq := setRow_heap _ _ _ (tc f) _ _ hA
  have HLF := Lib.hid (ld (b := w.heap.size) (f := f) h1 (by simp))
  have H1 := Lib.hid h1
  have H2 := Lib.hid h2
  have HA := Lib.hid hA
  clear hs h1 h2 hA
  go_upto_region 3 with (first
    | (refine wpList_load_of rfl 25 (.tmp 3) rfl _ HLF.out ?_)
    | (refine wpList_alloc_of rfl 25 rfl _ (zero_tile _) ?_)
    | (refine wpList_store_of rfl 25 _ _ rfl (store_tile _ z0 f _ HA.out) ?_))
  have hw8 : w.heap.size ≤ V1.heap.size := H1.out.below.size
  have hn8 := H1.out.ne
  generalize V1.heap.size = b8 at *
  generalize (V1.alloc (.cells (tc z0) 25)).setRow b8 (tc f) = X2 at H2 hq ⊢
  try simp only [Act.put, List.setIfInBounds_toArray, List.set_cons_zero, List.set_cons_succ]
  have hcell := HCB.out X2 b8 hq
  have hfz : X2.frozen? ⟨b8, 4 * k + 2, none⟩ = false := frozen_of_row _ _ _ _ _ hq
  have hix := index_px8 b8 k hk64
  have e4 : X2.setCell ⟨b8, 4 * k + 2, none⟩ (.int .u8 (((f k).b + 1) % 256)) = X2.setRow b8 (tc F) := by rw [setCell_eq_setRow X2 b8 _ _ _ _ _ hq, HBL.out]
  have H4 : Hid (St w ((b8, tob F) :: [(w.heap.size + 1, tob g), (w.heap.size, tob f)]) (X2.setRow b8 (tc F))) := St.rowset (ds := tc F) H2.out hw8 hn8
  have HE4 := Lib.hid e4
  clear HA hq hw8 hn8 e4 H1
  go_upto_region 4 with fail
  rw [HE4.out]
  have h4 := H4.out
  clear hcell hfz hix
  cases z with
  | true =>
    have HE28 := Lib.hid (HE28.out rfl)
    refine wp_region_held_drew (S := fun V9 => St w ((b8, tob F) :: [(w.heap.size + 1, tob g), (w.heap.size, tob f)]) V9) (by kernel_rfl) ?_ (fun hHeld => ?_)
    · first | exact h4.drew | exact h4.drew.tl
    have h40 := h4.drew
    refine wpAnyH_take (i := 0) (oi := { dst := some 21, op := Op.move (Operand.tmp 7), type := 4, pos := "law.go:157", after := #[], guard := none }) (v := ?_) rfl (by kernel_rfl) (by kernel_rfl) (by kernel_rfl) (fun _ _ _ h => h) (Or.inl ⟨by kernel_rfl, ?_⟩) (by assumption) ?_
    rotate_left 1
    focus (intro w hSw; (try dsimp only at hSw); go_simp; (try with_reducible rfl))
    try simp only [Act.put, List.setIfInBounds_toArray, List.set_cons_zero, List.set_cons_succ]
    refine wpAnyH_take (i := 1) (oi := { dst := some 22, op := Op.move (Operand.tmp 21), type := 4, pos := "law.go:157", after := #[{ on := 0, ground := Ground.data }], guard := none }) (v := ?_) rfl (by kernel_rfl) (by kernel_rfl) (by kernel_rfl) (fun _ _ _ h => h) (Or.inl ⟨by kernel_rfl, ?_⟩) (by assumption) ?_
    rotate_left 1
    focus (intro w hSw; (try dsimp only at hSw); go_simp; (try with_reducible rfl))
    try simp only [Act.put, List.setIfInBounds_toArray, List.set_cons_zero, List.set_cons_succ]
    refine wpAnyH_take (i := 2) (oi := { dst := some 23, op := Op.load 25 (Operand.tmp 3), type := 25, pos := "law.go:157", after := #[{ on := 1, ground := Ground.guard }], guard := some (1, true) }) rfl (by kernel_rfl) (by kernel_rfl) (by kernel_rfl) (fun _ _ _ h => h) (yields_load (by kernel_rfl) 25 (.tmp 3) rfl (tv (f)) (fun V hV => ld (b := w.heap.size) (f := f) hV (by simp))) (by assumption) ?_
    try simp only [Act.put, List.setIfInBounds_toArray, List.set_cons_zero, List.set_cons_succ]
    refine wpAnyH_take (i := 4) (oi := { dst := some 25, op := Op.load 25 (Operand.tmp 4), type := 25, pos := "law.go:157", after := #[{ on := 1, ground := Ground.guard }], guard := some (1, true) }) rfl (by kernel_rfl) (by kernel_rfl) (by kernel_rfl) (fun _ _ _ h => h) (yields_load (by kernel_rfl) 25 (.tmp 4) rfl (tv (g)) (fun V hV => ld (b := w.heap.size + 1) (f := g) hV (by simp))) (by assumption) ?_
    try simp only [Act.put, List.setIfInBounds_toArray, List.set_cons_zero, List.set_cons_succ]
    refine wpAnyH_take (i := 7) (oi := { dst := some 28, op := Op.load 25 (Operand.tmp 3), type := 25, pos := "law.go:157", after := #[{ on := 1, ground := Ground.guard }], guard := some (1, true) }) rfl (by kernel_rfl) (by kernel_rfl) (by kernel_rfl) (fun _ _ _ h => h) (yields_load (by kernel_rfl) 25 (.tmp 3) rfl (tv (f)) (fun V hV => ld (b := w.heap.size) (f := f) hV (by simp))) (by assumption) ?_
    try simp only [Act.put, List.setIfInBounds_toArray, List.set_cons_zero, List.set_cons_succ]
    refine wpAnyH_take (i := 8) (oi := { dst := some 29, op := Op.load 25 (Operand.tmp 4), type := 25, pos := "law.go:157", after := #[{ on := 1, ground := Ground.guard }], guard := some (1, true) }) rfl (by kernel_rfl) (by kernel_rfl) (by kernel_rfl) (fun _ _ _ h => h) (yields_load (by kernel_rfl) 25 (.tmp 4) rfl (tv (g)) (fun V hV => ld (b := w.heap.size + 1) (f := g) hV (by simp))) (by assumption) ?_
    try simp only [Act.put, List.setIfInBounds_toArray, List.set_cons_zero, List.set_cons_succ]
    refine wpAnyH_take (i := 9) (oi := { dst := some 30, op := Op.binOp BinOp.eql 25 (Operand.tmp 28) (Operand.tmp 29) 25, type := 4, pos := "law.go:157", after := #[{ on := 7, ground := Ground.data }, { on := 8, ground := Ground.data }, { on := 1, ground := Ground.guard }], guard := some (1, true) }) rfl (by kernel_rfl) (by kernel_rfl) (by kernel_rfl) (fun _ _ _ h => h) (yields_bin (by kernel_rfl) .eql 25 (.tmp 28) (.tmp 29) 25 rfl _ _ rfl rfl guard_tile (.bool true) (fun V => HE9.out V)) (by assumption) ?_
    try simp only [Act.put, List.setIfInBounds_toArray, List.set_cons_zero, List.set_cons_succ]
    refine wpAnyH_ready (rs := [3]) (by kernel_rfl) (by simp) (AllReadyH.cons (o := { dst := some 24, op := Op.call { callee := Callee.value (Operand.func 9), args := #[Operand.tmp 23], argTypes := #[25] }, type := 9, pos := "law.go:157", after := #[{ on := 2, ground := Ground.data }, { on := 1, ground := Ground.chain }, { on := 1, ground := Ground.guard }], guard := some (1, true) }) rfl (fun K hK => ?_) AllReadyH.nil)
    (go_simp; (go_at_call 9; (refine (St.call h40 (HBf.out _)).mono ?_); rintro e V1r4 ⟨rfl, h41r4⟩))
    refine hK.out _ _ ?_ (fun hHeld => ?_)
    · (first | exact h41r4 | exact h41r4.tl)
    clear hK K
    try simp only [Act.put, List.setIfInBounds_toArray, List.set_cons_zero, List.set_cons_succ]
    refine wpAnyH_ready (rs := [5]) (by kernel_rfl) (by simp) (AllReadyH.cons (o := { dst := some 26, op := Op.call { callee := Callee.value (Operand.func 9), args := #[Operand.tmp 25], argTypes := #[25] }, type := 9, pos := "law.go:157", after := #[{ on := 4, ground := Ground.data }, { on := 3, ground := Ground.chain }, { on := 1, ground := Ground.guard }], guard := some (1, true) }) rfl (fun K hK => ?_) AllReadyH.nil)
    (go_simp; (go_at_call 9; (refine (St.call h41r4 (HBg.out _)).mono ?_); rintro e V2r4 ⟨rfl, h42r4⟩))
    refine hK.out _ _ ?_ (fun hHeld => ?_)
    · (first | exact h42r4 | exact h42r4.tl)
    clear hK K
    try simp only [Act.put, List.setIfInBounds_toArray, List.set_cons_zero, List.set_cons_succ]
    refine wpAnyH_take (i := 6) (oi := { dst := some 27, op := Op.binOp BinOp.eql 9 (Operand.tmp 24) (Operand.tmp 26) 9, type := 4, pos := "law.go:157", after := #[{ on := 3, ground := Ground.data }, { on := 5, ground := Ground.data }, { on := 1, ground := Ground.guard }], guard := some (1, true) }) rfl (by kernel_rfl) (by kernel_rfl) (by kernel_rfl) (fun _ _ _ h => h) (yields_op (by kernel_rfl) .eql 9 (.tmp 24) (.tmp 26) 9 rfl (.bool true) _ _ rfl rfl (eqGuard_at_string ..) (fun V => HE6.out V)) (by assumption) ?_
    try simp only [Act.put, List.setIfInBounds_toArray, List.set_cons_zero, List.set_cons_succ]
    refine wpAnyH_take (i := 10) (oi := { dst := some 31, op := Op.binOp BinOp.eql 4 (Operand.tmp 27) (Operand.tmp 30) 4, type := 4, pos := "law.go:157", after := #[{ on := 6, ground := Ground.data }, { on := 9, ground := Ground.data }, { on := 1, ground := Ground.guard }], guard := some (1, true) }) rfl (by kernel_rfl) (by kernel_rfl) (by kernel_rfl) (fun _ _ _ h => h) (yields_op (by kernel_rfl) .eql 4 (.tmp 27) (.tmp 30) 4 rfl (.bool true) _ _ rfl rfl (eqGuard_at_bool ..) (fun V => eql_bool _ V)) (by assumption) ?_
    try simp only [Act.put, List.setIfInBounds_toArray, List.set_cons_zero, List.set_cons_succ]
    refine wpAnyH_take (i := 11) (oi := { dst := some 32, op := Op.pick (Operand.tmp 22) (Operand.tmp 31) (Operand.const (Value.bool false)), type := 4, pos := "law.go:157", after := #[{ on := 1, ground := Ground.data }, { on := 10, ground := Ground.data }], guard := none }) (v := ?_) rfl (by kernel_rfl) (by kernel_rfl) (by kernel_rfl) (fun _ _ _ h => h) (Or.inl ⟨by kernel_rfl, ?_⟩) (by assumption) ?_
    rotate_left 1
    focus (intro w hSw; (try dsimp only at hSw); go_simp; (try with_reducible rfl))
    try simp only [Act.put, List.setIfInBounds_toArray, List.set_cons_zero, List.set_cons_succ]
    refine wpAnyH_take (i := 12) (oi := { dst := some 33, op := Op.move (Operand.tmp 32), type := 4, pos := "law.go:157", after := #[{ on := 11, ground := Ground.data }, { on := 5, ground := Ground.chain }], guard := none }) (v := ?_) rfl (by kernel_rfl) (by kernel_rfl) (by kernel_rfl) (fun _ _ _ h => h) (Or.inl ⟨by kernel_rfl, ?_⟩) (by assumption) ?_
    rotate_left 1
    focus (intro w hSw; (try dsimp only at hSw); go_simp; (try with_reducible rfl))
    try simp only [Act.put, List.setIfInBounds_toArray, List.set_cons_zero, List.set_cons_succ]
    refine wpAnyH_take (i := 13) (oi := { dst := some 34, op := Op.load 25 (Operand.tmp 8), type := 25, pos := "law.go:157", after := #[{ on := 12, ground := Ground.guard }], guard := some (12, true) }) rfl (by kernel_rfl) (by kernel_rfl) (by kernel_rfl) (fun _ _ _ h => h) (yields_load (by kernel_rfl) 25 (.tmp 8) rfl (tv (F)) (fun V hV => ld (b := b8) (f := F) hV (by simp))) (by assumption) ?_
    try simp only [Act.put, List.setIfInBounds_toArray, List.set_cons_zero, List.set_cons_succ]
    refine wpAnyH_take (i := 15) (oi := { dst := some 36, op := Op.load 25 (Operand.tmp 3), type := 25, pos := "law.go:157", after := #[{ on := 12, ground := Ground.guard }], guard := some (12, true) }) rfl (by kernel_rfl) (by kernel_rfl) (by kernel_rfl) (fun _ _ _ h => h) (yields_load (by kernel_rfl) 25 (.tmp 3) rfl (tv (f)) (fun V hV => ld (b := w.heap.size) (f := f) hV (by simp))) (by assumption) ?_
    try simp only [Act.put, List.setIfInBounds_toArray, List.set_cons_zero, List.set_cons_succ]
    refine wpAnyH_ready (rs := [14]) (by kernel_rfl) (by simp) (AllReadyH.cons (o := { dst := some 35, op := Op.call { callee := Callee.value (Operand.func 9), args := #[Operand.tmp 34], argTypes := #[25] }, type := 9, pos := "law.go:157", after := #[{ on := 13, ground := Ground.data }, { on := 12, ground := Ground.chain }, { on := 12, ground := Ground.guard }], guard := some (12, true) }) rfl (fun K hK => ?_) AllReadyH.nil)
    (go_simp; (go_at_call 9; (refine (St.call h42r4 (HBF.out _)).mono ?_); rintro e V3r4 ⟨rfl, h43r4⟩))
    refine hK.out _ _ ?_ (fun hHeld => ?_)
    · (first | exact h43r4 | exact h43r4.tl)
    clear hK K
    try simp only [Act.put, List.setIfInBounds_toArray, List.set_cons_zero, List.set_cons_succ]
    refine wpAnyH_ready (rs := [16]) (by kernel_rfl) (by simp) (AllReadyH.cons (o := { dst := some 37, op := Op.call { callee := Callee.value (Operand.func 9), args := #[Operand.tmp 36], argTypes := #[25] }, type := 9, pos := "law.go:157", after := #[{ on := 15, ground := Ground.data }, { on := 14, ground := Ground.chain }, { on := 12, ground := Ground.guard }], guard := some (12, true) }) rfl (fun K hK => ?_) AllReadyH.nil)
    (go_simp; (go_at_call 9; (refine (St.call h43r4 (HBf.out _)).mono ?_); rintro e V4r4 ⟨rfl, h44r4⟩))
    refine hK.out _ _ ?_ (fun hHeld => ?_)
    · (first | exact h44r4 | exact h44r4.tl)
    clear hK K
    try simp only [Act.put, List.setIfInBounds_toArray, List.set_cons_zero, List.set_cons_succ]
    refine wpAnyH_take (i := 17) (oi := { dst := some 38, op := Op.binOp BinOp.neq 9 (Operand.tmp 35) (Operand.tmp 37) 9, type := 4, pos := "law.go:157", after := #[{ on := 14, ground := Ground.data }, { on := 16, ground := Ground.data }, { on := 12, ground := Ground.guard }], guard := some (12, true) }) rfl (by kernel_rfl) (by kernel_rfl) (by kernel_rfl) (fun _ _ _ h => h) (yields_op (by kernel_rfl) .neq 9 (.tmp 35) (.tmp 37) 9 rfl (.bool true) _ _ rfl rfl (eqGuard_at_string ..) (fun V => HE17.out V)) (by assumption) ?_
    try simp only [Act.put, List.setIfInBounds_toArray, List.set_cons_zero, List.set_cons_succ]
    refine wpAnyH_take (i := 18) (oi := { dst := some 39, op := Op.pick (Operand.tmp 33) (Operand.tmp 38) (Operand.const (Value.bool false)), type := 4, pos := "law.go:157", after := #[{ on := 12, ground := Ground.data }, { on := 17, ground := Ground.data }], guard := none }) (v := ?_) rfl (by kernel_rfl) (by kernel_rfl) (by kernel_rfl) (fun _ _ _ h => h) (Or.inl ⟨by kernel_rfl, ?_⟩) (by assumption) ?_
    rotate_left 1
    focus (intro w hSw; (try dsimp only at hSw); go_simp; (try with_reducible rfl))
    try simp only [Act.put, List.setIfInBounds_toArray, List.set_cons_zero, List.set_cons_succ]
    refine wpAnyH_take (i := 19) (oi := { dst := some 40, op := Op.move (Operand.tmp 39), type := 4, pos := "law.go:157", after := #[{ on := 18, ground := Ground.data }, { on := 16, ground := Ground.chain }], guard := none }) (v := ?_) rfl (by kernel_rfl) (by kernel_rfl) (by kernel_rfl) (fun _ _ _ h => h) (Or.inl ⟨by kernel_rfl, ?_⟩) (by assumption) ?_
    rotate_left 1
    focus (intro w hSw; (try dsimp only at hSw); go_simp; (try with_reducible rfl))
    try simp only [Act.put, List.setIfInBounds_toArray, List.set_cons_zero, List.set_cons_succ]
    refine wpAnyH_take (i := 20) (oi := { dst := some 41, op := Op.load 25 (Operand.tmp 3), type := 25, pos := "law.go:157", after := #[{ on := 19, ground := Ground.guard }], guard := some (19, true) }) rfl (by kernel_rfl) (by kernel_rfl) (by kernel_rfl) (fun _ _ _ h => h) (yields_load (by kernel_rfl) 25 (.tmp 3) rfl (tv (f)) (fun V hV => ld (b := w.heap.size) (f := f) hV (by simp))) (by assumption) ?_
    try simp only [Act.put, List.setIfInBounds_toArray, List.set_cons_zero, List.set_cons_succ]
    refine wpAnyH_take (i := 21) (oi := { dst := some 42, op := Op.load 25 (Operand.tmp 4), type := 25, pos := "law.go:157", after := #[{ on := 19, ground := Ground.guard }], guard := some (19, true) }) rfl (by kernel_rfl) (by kernel_rfl) (by kernel_rfl) (fun _ _ _ h => h) (yields_load (by kernel_rfl) 25 (.tmp 4) rfl (tv (g)) (fun V hV => ld (b := w.heap.size + 1) (f := g) hV (by simp))) (by assumption) ?_
    try simp only [Act.put, List.setIfInBounds_toArray, List.set_cons_zero, List.set_cons_succ]
    refine wpAnyH_take (i := 22) (oi := { dst := some 43, op := Op.binOp BinOp.neq 25 (Operand.tmp 41) (Operand.tmp 42) 25, type := 4, pos := "law.go:157", after := #[{ on := 20, ground := Ground.data }, { on := 21, ground := Ground.data }, { on := 19, ground := Ground.guard }], guard := some (19, true) }) rfl (by kernel_rfl) (by kernel_rfl) (by kernel_rfl) (fun _ _ _ h => h) (yields_bin (by kernel_rfl) .neq 25 (.tmp 41) (.tmp 42) 25 rfl _ _ rfl rfl guard_tile (.bool false) (fun V => HE22.out V)) (by assumption) ?_
    try simp only [Act.put, List.setIfInBounds_toArray, List.set_cons_zero, List.set_cons_succ]
    refine wpAnyH_take (i := 23) (oi := { dst := some 44, op := Op.move (Operand.tmp 43), type := 4, pos := "law.go:157", after := #[{ on := 22, ground := Ground.data }, { on := 19, ground := Ground.chain }, { on := 19, ground := Ground.guard }], guard := some (19, true) }) (v := ?_) rfl (by kernel_rfl) (by kernel_rfl) (by kernel_rfl) (fun _ _ _ h => h) (Or.inl ⟨by kernel_rfl, ?_⟩) (by assumption) ?_
    rotate_left 1
    focus (intro w hSw; (try dsimp only at hSw); go_simp; (try with_reducible rfl))
    try simp only [Act.put, List.setIfInBounds_toArray, List.set_cons_zero, List.set_cons_succ]
    refine wpAnyH_take (i := 24) (oi := { dst := some 45, op := Op.load 25 (Operand.tmp 3), type := 25, pos := "law.go:157", after := #[{ on := 23, ground := Ground.guard }], guard := some (23, false) }) rfl (by kernel_rfl) (by kernel_rfl) (by kernel_rfl) (fun _ _ _ h => h) (yields_load (by kernel_rfl) 25 (.tmp 3) rfl (tv (f)) (fun V hV => ld (b := w.heap.size) (f := f) hV (by simp))) (by assumption) ?_
    try simp only [Act.put, List.setIfInBounds_toArray, List.set_cons_zero, List.set_cons_succ]
    refine wpAnyH_take (i := 26) (oi := { dst := some 47, op := Op.load 25 (Operand.tmp 4), type := 25, pos := "law.go:157", after := #[{ on := 23, ground := Ground.guard }], guard := some (23, false) }) rfl (by kernel_rfl) (by kernel_rfl) (by kernel_rfl) (fun _ _ _ h => h) (yields_load (by kernel_rfl) 25 (.tmp 4) rfl (tv (g)) (fun V hV => ld (b := w.heap.size + 1) (f := g) hV (by simp))) (by assumption) ?_
    try simp only [Act.put, List.setIfInBounds_toArray, List.set_cons_zero, List.set_cons_succ]
    refine wpAnyH_ready (rs := [25]) (by kernel_rfl) (by simp) (AllReadyH.cons (o := { dst := some 46, op := Op.call { callee := Callee.value (Operand.func 10), args := #[Operand.tmp 45], argTypes := #[25] }, type := 34, pos := "law.go:157", after := #[{ on := 24, ground := Ground.data }, { on := 23, ground := Ground.chain }, { on := 23, ground := Ground.guard }], guard := some (23, false) }) rfl (fun K hK => ?_) AllReadyH.nil)
    (go_simp; (go_at_call 10; (refine (St.call h44r4 (HKf.out _ (HK.out.later h44r4.below))).mono ?_); rintro e V5r4 ⟨rfl, h45r4⟩))
    refine hK.out _ _ ?_ (fun hHeld => ?_)
    · (first | exact h45r4 | exact h45r4.tl)
    clear hK K
    try simp only [Act.put, List.setIfInBounds_toArray, List.set_cons_zero, List.set_cons_succ]
    refine wpAnyH_ready (rs := [27]) (by kernel_rfl) (by simp) (AllReadyH.cons (o := { dst := some 48, op := Op.call { callee := Callee.value (Operand.func 10), args := #[Operand.tmp 47], argTypes := #[25] }, type := 34, pos := "law.go:157", after := #[{ on := 26, ground := Ground.data }, { on := 25, ground := Ground.chain }, { on := 23, ground := Ground.guard }], guard := some (23, false) }) rfl (fun K hK => ?_) AllReadyH.nil)
    (go_simp; (go_at_call 10; (refine (St.call h45r4 (HKg.out _ (HK.out.later h45r4.below))).mono ?_); rintro e V6r4 ⟨rfl, h46r4⟩))
    refine hK.out _ _ ?_ (fun hHeld => ?_)
    · (first | exact h46r4 | exact h46r4.tl)
    clear hK K
    try simp only [Act.put, List.setIfInBounds_toArray, List.set_cons_zero, List.set_cons_succ]
    refine wpAnyH_take (i := 28) (oi := { dst := some 49, op := Op.binOp BinOp.eql 34 (Operand.tmp 46) (Operand.tmp 48) 34, type := 4, pos := "law.go:157", after := #[{ on := 25, ground := Ground.data }, { on := 27, ground := Ground.data }, { on := 23, ground := Ground.guard }], guard := some (23, false) }) rfl (by kernel_rfl) (by kernel_rfl) (by kernel_rfl) (fun _ _ _ h => h) (yields_op (by kernel_rfl) .eql 34 (.tmp 46) (.tmp 48) 34 rfl (.bool true) _ _ rfl rfl (eqGuard_at_string ..) (fun V => HE28.out V)) (by assumption) ?_
    try simp only [Act.put, List.setIfInBounds_toArray, List.set_cons_zero, List.set_cons_succ]
    refine wpAnyH_take (i := 29) (oi := { dst := some 50, op := Op.pick (Operand.tmp 44) (Operand.const (Value.bool true)) (Operand.tmp 49), type := 4, pos := "law.go:157", after := #[{ on := 23, ground := Ground.data }, { on := 28, ground := Ground.data }, { on := 19, ground := Ground.guard }], guard := some (19, true) }) (v := ?_) rfl (by kernel_rfl) (by kernel_rfl) (by kernel_rfl) (fun _ _ _ h => h) (Or.inl ⟨by kernel_rfl, ?_⟩) (by assumption) ?_
    rotate_left 1
    focus (intro w hSw; (try dsimp only at hSw); go_simp; (try with_reducible rfl))
    try simp only [Act.put, List.setIfInBounds_toArray, List.set_cons_zero, List.set_cons_succ]
    refine wpAnyH_take (i := 30) (oi := { dst := some 51, op := Op.pick (Operand.tmp 40) (Operand.tmp 50) (Operand.const (Value.bool false)), type := 4, pos := "law.go:157", after := #[{ on := 19, ground := Ground.data }, { on := 29, ground := Ground.data }], guard := none }) (v := ?_) rfl (by kernel_rfl) (by kernel_rfl) (by kernel_rfl) (fun _ _ _ h => h) (Or.inl ⟨by kernel_rfl, ?_⟩) (by assumption) ?_
    rotate_left 1
    focus (intro w hSw; (try dsimp only at hSw); go_simp; (try with_reducible rfl))
    try simp only [Act.put, List.setIfInBounds_toArray, List.set_cons_zero, List.set_cons_succ]
    refine wpAnyH_take (i := 31) (oi := { dst := some 52, op := Op.move (Operand.tmp 51), type := 4, pos := "law.go:157", after := #[{ on := 30, ground := Ground.data }, { on := 27, ground := Ground.chain }], guard := none }) (v := ?_) rfl (by kernel_rfl) (by kernel_rfl) (by kernel_rfl) (fun _ _ _ h => h) (Or.inl ⟨by kernel_rfl, ?_⟩) (by assumption) ?_
    rotate_left 1
    focus (intro w hSw; (try dsimp only at hSw); go_simp; (try with_reducible rfl))
    try simp only [Act.put, List.setIfInBounds_toArray, List.set_cons_zero, List.set_cons_succ]
    refine wpAnyH_take (i := 32) (oi := { dst := some 53, op := Op.load 25 (Operand.tmp 3), type := 25, pos := "law.go:157", after := #[{ on := 31, ground := Ground.guard }], guard := some (31, true) }) rfl (by kernel_rfl) (by kernel_rfl) (by kernel_rfl) (fun _ _ _ h => h) (yields_load (by kernel_rfl) 25 (.tmp 3) rfl (tv (f)) (fun V hV => ld (b := w.heap.size) (f := f) hV (by simp))) (by assumption) ?_
    try simp only [Act.put, List.setIfInBounds_toArray, List.set_cons_zero, List.set_cons_succ]
    refine wpAnyH_take (i := 34) (oi := { dst := some 55, op := Op.load 25 (Operand.tmp 3), type := 25, pos := "law.go:157", after := #[{ on := 31, ground := Ground.guard }], guard := some (31, true) }) rfl (by kernel_rfl) (by kernel_rfl) (by kernel_rfl) (fun _ _ _ h => h) (yields_load (by kernel_rfl) 25 (.tmp 3) rfl (tv (f)) (fun V hV => ld (b := w.heap.size) (f := f) hV (by simp))) (by assumption) ?_
    try simp only [Act.put, List.setIfInBounds_toArray, List.set_cons_zero, List.set_cons_succ]
    refine wpAnyH_ready (rs := [33]) (by kernel_rfl) (by simp) (AllReadyH.cons (o := { dst := some 54, op := Op.call { callee := Callee.value (Operand.func 10), args := #[Operand.tmp 53], argTypes := #[25] }, type := 34, pos := "law.go:157", after := #[{ on := 32, ground := Ground.data }, { on := 31, ground := Ground.chain }, { on := 31, ground := Ground.guard }], guard := some (31, true) }) rfl (fun K hK => ?_) AllReadyH.nil)
    (go_simp; (go_at_call 10; (refine (St.call h46r4 (HKf.out _ (HK.out.later h46r4.below))).mono ?_); rintro e V7r4 ⟨rfl, h47r4⟩))
    refine hK.out _ _ ?_ (fun hHeld => ?_)
    · (first | exact h47r4 | exact h47r4.tl)
    clear hK K
    try simp only [Act.put, List.setIfInBounds_toArray, List.set_cons_zero, List.set_cons_succ]
    refine wpAnyH_ready (rs := [35]) (by kernel_rfl) (by simp) (AllReadyH.cons (o := { dst := some 56, op := Op.call { callee := Callee.value (Operand.func 9), args := #[Operand.tmp 55], argTypes := #[25] }, type := 9, pos := "law.go:157", after := #[{ on := 34, ground := Ground.data }, { on := 33, ground := Ground.chain }, { on := 31, ground := Ground.guard }], guard := some (31, true) }) rfl (fun K hK => ?_) AllReadyH.nil)
    (go_simp; (go_at_call 9; (refine (St.call h47r4 (HBf.out _)).mono ?_); rintro e V8r4 ⟨rfl, h48r4⟩))
    refine hK.out _ _ ?_ (fun hHeld => ?_)
    · (first | exact h48r4 | exact h48r4.tl)
    clear hK K
    try simp only [Act.put, List.setIfInBounds_toArray, List.set_cons_zero, List.set_cons_succ]
    refine wpAnyH_ready (rs := [36]) (by kernel_rfl) (by simp) (AllReadyH.cons (o := { dst := some 57, op := Op.call { callee := Callee.value (Operand.func 12), args := #[Operand.tmp 56], argTypes := #[9] }, type := 34, pos := "law.go:157", after := #[{ on := 35, ground := Ground.data }, { on := 35, ground := Ground.chain }, { on := 31, ground := Ground.guard }], guard := some (31, true) }) rfl (fun K hK => ?_) AllReadyH.nil)
    (go_simp; (go_at_call 12; (refine (St.call h48r4 (HOF.out _ (HK.out.later h48r4.below))).mono ?_); rintro e V9r4 ⟨rfl, h49r4⟩))
    refine hK.out _ _ ?_ (fun hHeld => ?_)
    · (first | exact h49r4 | exact h49r4.tl)
    clear hK K
    try simp only [Act.put, List.setIfInBounds_toArray, List.set_cons_zero, List.set_cons_succ]
    refine wpAnyH_take (i := 37) (oi := { dst := some 58, op := Op.binOp BinOp.eql 34 (Operand.tmp 54) (Operand.tmp 57) 34, type := 4, pos := "law.go:157", after := #[{ on := 33, ground := Ground.data }, { on := 36, ground := Ground.data }, { on := 31, ground := Ground.guard }], guard := some (31, true) }) rfl (by kernel_rfl) (by kernel_rfl) (by kernel_rfl) (fun _ _ _ h => h) (yields_op (by kernel_rfl) .eql 34 (.tmp 54) (.tmp 57) 34 rfl (.bool true) _ _ rfl rfl (eqGuard_at_string ..) (fun V => HE37.out V)) (by assumption) ?_
    try simp only [Act.put, List.setIfInBounds_toArray, List.set_cons_zero, List.set_cons_succ]
    refine wpAnyH_take (i := 38) (oi := { dst := some 59, op := Op.pick (Operand.tmp 52) (Operand.tmp 58) (Operand.const (Value.bool false)), type := 4, pos := "law.go:157", after := #[{ on := 31, ground := Ground.data }, { on := 37, ground := Ground.data }], guard := none }) (v := ?_) rfl (by kernel_rfl) (by kernel_rfl) (by kernel_rfl) (fun _ _ _ h => h) (Or.inl ⟨by kernel_rfl, ?_⟩) (by assumption) ?_
    rotate_left 1
    focus (intro w hSw; (try dsimp only at hSw); go_simp; (try with_reducible rfl))
    try simp only [Act.put, List.setIfInBounds_toArray, List.set_cons_zero, List.set_cons_succ]
    refine wpAnyH_take (i := 39) (oi := { dst := some 60, op := Op.move (Operand.tmp 59), type := 4, pos := "law.go:157", after := #[{ on := 38, ground := Ground.data }, { on := 36, ground := Ground.chain }], guard := none }) (v := ?_) rfl (by kernel_rfl) (by kernel_rfl) (by kernel_rfl) (fun _ _ _ h => h) (Or.inl ⟨by kernel_rfl, ?_⟩) (by assumption) ?_
    rotate_left 1
    focus (intro w hSw; (try dsimp only at hSw); go_simp; (try with_reducible rfl))
    try simp only [Act.put, List.setIfInBounds_toArray, List.set_cons_zero, List.set_cons_succ]
    refine wpAnyH_take (i := 40) (oi := { dst := some 61, op := Op.load 25 (Operand.tmp 3), type := 25, pos := "law.go:157", after := #[{ on := 39, ground := Ground.guard }], guard := some (39, true) }) rfl (by kernel_rfl) (by kernel_rfl) (by kernel_rfl) (fun _ _ _ h => h) (yields_load (by kernel_rfl) 25 (.tmp 3) rfl (tv (f)) (fun V hV => ld (b := w.heap.size) (f := f) hV (by simp))) (by assumption) ?_
    try simp only [Act.put, List.setIfInBounds_toArray, List.set_cons_zero, List.set_cons_succ]
    refine wpAnyH_ready (rs := [41]) (by kernel_rfl) (by simp) (AllReadyH.cons (o := { dst := some 62, op := Op.call { callee := Callee.value (Operand.func 9), args := #[Operand.tmp 61], argTypes := #[25] }, type := 9, pos := "law.go:157", after := #[{ on := 40, ground := Ground.data }, { on := 39, ground := Ground.chain }, { on := 39, ground := Ground.guard }], guard := some (39, true) }) rfl (fun K hK => ?_) AllReadyH.nil)
    (go_simp; (go_at_call 9; (refine (St.call h49r4 (HBf.out _)).mono ?_); rintro e V10r4 ⟨rfl, h410r4⟩))
    refine hK.out _ _ ?_ (fun hHeld => ?_)
    · (first | exact h410r4 | exact h410r4.tl)
    clear hK K
    try simp only [Act.put, List.setIfInBounds_toArray, List.set_cons_zero, List.set_cons_succ]
    refine wpAnyH_take (i := 42) (oi := { dst := some 63, op := Op.call { callee := Callee.builtin Builtin.len, args := #[Operand.tmp 62], argTypes := #[9] }, type := 3, pos := "law.go:157", after := #[{ on := 41, ground := Ground.data }, { on := 39, ground := Ground.guard }], guard := some (39, true) }) (v := ?_) rfl (by kernel_rfl) (by kernel_rfl) (by kernel_rfl) (fun _ _ _ h => h) (Or.inl ⟨by kernel_rfl, ?_⟩) (by assumption) ?_
    rotate_left 1
    focus (intro w hSw; (try dsimp only at hSw); go_simp; (try with_reducible rfl))
    try simp only [Act.put, List.setIfInBounds_toArray, List.set_cons_zero, List.set_cons_succ]
    refine wpAnyH_take (i := 43) (oi := { dst := some 64, op := Op.binOp BinOp.eql 3 (Operand.tmp 63) (Operand.const (Value.int IntKind.i64 256)) 3, type := 4, pos := "law.go:157", after := #[{ on := 42, ground := Ground.data }, { on := 39, ground := Ground.guard }], guard := some (39, true) }) (v := ?_) rfl (by kernel_rfl) (by kernel_rfl) (by kernel_rfl) (fun _ _ _ h => h) (Or.inl ⟨by kernel_rfl, ?_⟩) (by assumption) ?_
    rotate_left 1
    focus (intro w hSw; (try dsimp only at hSw); go_simp; (try with_reducible rfl))
    try simp only [Act.put, List.setIfInBounds_toArray, List.set_cons_zero, List.set_cons_succ]
    refine wpAnyH_take (i := 44) (oi := { dst := some 65, op := Op.pick (Operand.tmp 60) (Operand.tmp 64) (Operand.const (Value.bool false)), type := 4, pos := "law.go:157", after := #[{ on := 39, ground := Ground.data }, { on := 43, ground := Ground.data }], guard := none }) (v := ?_) rfl (by kernel_rfl) (by kernel_rfl) (by kernel_rfl) (fun _ _ _ h => h) (Or.inl ⟨by kernel_rfl, ?_⟩) (by assumption) ?_
    rotate_left 1
    focus (intro w hSw; (try dsimp only at hSw); go_simp; (try with_reducible rfl))
    try simp only [Act.put, List.setIfInBounds_toArray, List.set_cons_zero, List.set_cons_succ]
    refine wpAnyH_take (i := 45) (oi := { dst := some 6, op := Op.assign (Operand.tmp 65), type := 4, pos := "law.go:157", after := #[{ on := 44, ground := Ground.data }, { on := 41, ground := Ground.chain }, { on := 0, ground := Ground.phase }, { on := 1, ground := Ground.phase }, { on := 2, ground := Ground.phase }, { on := 3, ground := Ground.phase }, { on := 4, ground := Ground.phase }, { on := 5, ground := Ground.phase }, { on := 6, ground := Ground.phase }, { on := 7, ground := Ground.phase }, { on := 8, ground := Ground.phase }, { on := 9, ground := Ground.phase }, { on := 10, ground := Ground.phase }, { on := 11, ground := Ground.phase }, { on := 12, ground := Ground.phase }, { on := 13, ground := Ground.phase }, { on := 14, ground := Ground.phase }, { on := 15, ground := Ground.phase }, { on := 16, ground := Ground.phase }, { on := 17, ground := Ground.phase }, { on := 18, ground := Ground.phase }, { on := 19, ground := Ground.phase }, { on := 20, ground := Ground.phase }, { on := 21, ground := Ground.phase }, { on := 22, ground := Ground.phase }, { on := 23, ground := Ground.phase }, { on := 24, ground := Ground.phase }, { on := 25, ground := Ground.phase }, { on := 26, ground := Ground.phase }, { on := 27, ground := Ground.phase }, { on := 28, ground := Ground.phase }, { on := 29, ground := Ground.phase }, { on := 30, ground := Ground.phase }, { on := 31, ground := Ground.phase }, { on := 32, ground := Ground.phase }, { on := 33, ground := Ground.phase }, { on := 34, ground := Ground.phase }, { on := 35, ground := Ground.phase }, { on := 36, ground := Ground.phase }, { on := 37, ground := Ground.phase }, { on := 38, ground := Ground.phase }, { on := 39, ground := Ground.phase }, { on := 40, ground := Ground.phase }, { on := 41, ground := Ground.phase }, { on := 42, ground := Ground.phase }, { on := 43, ground := Ground.phase }, { on := 44, ground := Ground.phase }], guard := none }) (v := ?_) rfl (by kernel_rfl) (by kernel_rfl) (by kernel_rfl) (fun _ _ _ h => h) (Or.inl ⟨by kernel_rfl, ?_⟩) (by assumption) ?_
    rotate_left 1
    focus (intro w hSw; (try dsimp only at hSw); go_simp; (try with_reducible rfl))
    try simp only [Act.put, List.setIfInBounds_toArray, List.set_cons_zero, List.set_cons_succ]
    refine wpAnyH_done (by kernel_rfl) ?_ _
    have HB := Lib.hid h410r4.below
    go_wp2_with fail
    go_ret
    exact ⟨by show Ending.returned (.bool ((S.size : Int) == 256)) = _; rw [HSZ.out]; rfl, HB.out⟩
  | false =>
    refine wp_region_held_drew (S := fun V9 => St w ((b8, tob F) :: [(w.heap.size + 1, tob g), (w.heap.size, tob f)]) V9) (by kernel_rfl) ?_ (fun hHeld => ?_)
    · first | exact h4.drew | exact h4.drew.tl
    have h40 := h4.drew
    refine wpAnyH_take (i := 0) (oi := { dst := some 21, op := Op.move (Operand.tmp 7), type := 4, pos := "law.go:157", after := #[], guard := none }) (v := ?_) rfl (by kernel_rfl) (by kernel_rfl) (by kernel_rfl) (fun _ _ _ h => h) (Or.inl ⟨by kernel_rfl, ?_⟩) (by assumption) ?_
    rotate_left 1
    focus (intro w hSw; (try dsimp only at hSw); go_simp; (try with_reducible rfl))
    try simp only [Act.put, List.setIfInBounds_toArray, List.set_cons_zero, List.set_cons_succ]
    refine wpAnyH_take (i := 1) (oi := { dst := some 22, op := Op.move (Operand.tmp 21), type := 4, pos := "law.go:157", after := #[{ on := 0, ground := Ground.data }], guard := none }) (v := ?_) rfl (by kernel_rfl) (by kernel_rfl) (by kernel_rfl) (fun _ _ _ h => h) (Or.inl ⟨by kernel_rfl, ?_⟩) (by assumption) ?_
    rotate_left 1
    focus (intro w hSw; (try dsimp only at hSw); go_simp; (try with_reducible rfl))
    try simp only [Act.put, List.setIfInBounds_toArray, List.set_cons_zero, List.set_cons_succ]
    refine wpAnyH_take (i := 2) (oi := { dst := some 23, op := Op.load 25 (Operand.tmp 3), type := 25, pos := "law.go:157", after := #[{ on := 1, ground := Ground.guard }], guard := some (1, true) }) rfl (by kernel_rfl) (by kernel_rfl) (by kernel_rfl) (fun _ _ _ h => h) (yields_load (by kernel_rfl) 25 (.tmp 3) rfl (tv (f)) (fun V hV => ld (b := w.heap.size) (f := f) hV (by simp))) (by assumption) ?_
    try simp only [Act.put, List.setIfInBounds_toArray, List.set_cons_zero, List.set_cons_succ]
    refine wpAnyH_take (i := 4) (oi := { dst := some 25, op := Op.load 25 (Operand.tmp 4), type := 25, pos := "law.go:157", after := #[{ on := 1, ground := Ground.guard }], guard := some (1, true) }) rfl (by kernel_rfl) (by kernel_rfl) (by kernel_rfl) (fun _ _ _ h => h) (yields_load (by kernel_rfl) 25 (.tmp 4) rfl (tv (g)) (fun V hV => ld (b := w.heap.size + 1) (f := g) hV (by simp))) (by assumption) ?_
    try simp only [Act.put, List.setIfInBounds_toArray, List.set_cons_zero, List.set_cons_succ]
    refine wpAnyH_take (i := 7) (oi := { dst := some 28, op := Op.load 25 (Operand.tmp 3), type := 25, pos := "law.go:157", after := #[{ on := 1, ground := Ground.guard }], guard := some (1, true) }) rfl (by kernel_rfl) (by kernel_rfl) (by kernel_rfl) (fun _ _ _ h => h) (yields_load (by kernel_rfl) 25 (.tmp 3) rfl (tv (f)) (fun V hV => ld (b := w.heap.size) (f := f) hV (by simp))) (by assumption) ?_
    try simp only [Act.put, List.setIfInBounds_toArray, List.set_cons_zero, List.set_cons_succ]
    refine wpAnyH_take (i := 8) (oi := { dst := some 29, op := Op.load 25 (Operand.tmp 4), type := 25, pos := "law.go:157", after := #[{ on := 1, ground := Ground.guard }], guard := some (1, true) }) rfl (by kernel_rfl) (by kernel_rfl) (by kernel_rfl) (fun _ _ _ h => h) (yields_load (by kernel_rfl) 25 (.tmp 4) rfl (tv (g)) (fun V hV => ld (b := w.heap.size + 1) (f := g) hV (by simp))) (by assumption) ?_
    try simp only [Act.put, List.setIfInBounds_toArray, List.set_cons_zero, List.set_cons_succ]
    refine wpAnyH_take (i := 9) (oi := { dst := some 30, op := Op.binOp BinOp.eql 25 (Operand.tmp 28) (Operand.tmp 29) 25, type := 4, pos := "law.go:157", after := #[{ on := 7, ground := Ground.data }, { on := 8, ground := Ground.data }, { on := 1, ground := Ground.guard }], guard := some (1, true) }) rfl (by kernel_rfl) (by kernel_rfl) (by kernel_rfl) (fun _ _ _ h => h) (yields_bin (by kernel_rfl) .eql 25 (.tmp 28) (.tmp 29) 25 rfl _ _ rfl rfl guard_tile (.bool false) (fun V => HE9.out V)) (by assumption) ?_
    try simp only [Act.put, List.setIfInBounds_toArray, List.set_cons_zero, List.set_cons_succ]
    refine wpAnyH_ready (rs := [3]) (by kernel_rfl) (by simp) (AllReadyH.cons (o := { dst := some 24, op := Op.call { callee := Callee.value (Operand.func 9), args := #[Operand.tmp 23], argTypes := #[25] }, type := 9, pos := "law.go:157", after := #[{ on := 2, ground := Ground.data }, { on := 1, ground := Ground.chain }, { on := 1, ground := Ground.guard }], guard := some (1, true) }) rfl (fun K hK => ?_) AllReadyH.nil)
    (go_simp; (go_at_call 9; (refine (St.call h40 (HBf.out _)).mono ?_); rintro e V1r4 ⟨rfl, h41r4⟩))
    refine hK.out _ _ ?_ (fun hHeld => ?_)
    · (first | exact h41r4 | exact h41r4.tl)
    clear hK K
    try simp only [Act.put, List.setIfInBounds_toArray, List.set_cons_zero, List.set_cons_succ]
    refine wpAnyH_ready (rs := [5]) (by kernel_rfl) (by simp) (AllReadyH.cons (o := { dst := some 26, op := Op.call { callee := Callee.value (Operand.func 9), args := #[Operand.tmp 25], argTypes := #[25] }, type := 9, pos := "law.go:157", after := #[{ on := 4, ground := Ground.data }, { on := 3, ground := Ground.chain }, { on := 1, ground := Ground.guard }], guard := some (1, true) }) rfl (fun K hK => ?_) AllReadyH.nil)
    (go_simp; (go_at_call 9; (refine (St.call h41r4 (HBg.out _)).mono ?_); rintro e V2r4 ⟨rfl, h42r4⟩))
    refine hK.out _ _ ?_ (fun hHeld => ?_)
    · (first | exact h42r4 | exact h42r4.tl)
    clear hK K
    try simp only [Act.put, List.setIfInBounds_toArray, List.set_cons_zero, List.set_cons_succ]
    refine wpAnyH_take (i := 6) (oi := { dst := some 27, op := Op.binOp BinOp.eql 9 (Operand.tmp 24) (Operand.tmp 26) 9, type := 4, pos := "law.go:157", after := #[{ on := 3, ground := Ground.data }, { on := 5, ground := Ground.data }, { on := 1, ground := Ground.guard }], guard := some (1, true) }) rfl (by kernel_rfl) (by kernel_rfl) (by kernel_rfl) (fun _ _ _ h => h) (yields_op (by kernel_rfl) .eql 9 (.tmp 24) (.tmp 26) 9 rfl (.bool false) _ _ rfl rfl (eqGuard_at_string ..) (fun V => HE6.out V)) (by assumption) ?_
    try simp only [Act.put, List.setIfInBounds_toArray, List.set_cons_zero, List.set_cons_succ]
    refine wpAnyH_take (i := 10) (oi := { dst := some 31, op := Op.binOp BinOp.eql 4 (Operand.tmp 27) (Operand.tmp 30) 4, type := 4, pos := "law.go:157", after := #[{ on := 6, ground := Ground.data }, { on := 9, ground := Ground.data }, { on := 1, ground := Ground.guard }], guard := some (1, true) }) rfl (by kernel_rfl) (by kernel_rfl) (by kernel_rfl) (fun _ _ _ h => h) (yields_op (by kernel_rfl) .eql 4 (.tmp 27) (.tmp 30) 4 rfl (.bool true) _ _ rfl rfl (eqGuard_at_bool ..) (fun V => eql_bool _ V)) (by assumption) ?_
    try simp only [Act.put, List.setIfInBounds_toArray, List.set_cons_zero, List.set_cons_succ]
    refine wpAnyH_take (i := 11) (oi := { dst := some 32, op := Op.pick (Operand.tmp 22) (Operand.tmp 31) (Operand.const (Value.bool false)), type := 4, pos := "law.go:157", after := #[{ on := 1, ground := Ground.data }, { on := 10, ground := Ground.data }], guard := none }) (v := ?_) rfl (by kernel_rfl) (by kernel_rfl) (by kernel_rfl) (fun _ _ _ h => h) (Or.inl ⟨by kernel_rfl, ?_⟩) (by assumption) ?_
    rotate_left 1
    focus (intro w hSw; (try dsimp only at hSw); go_simp; (try with_reducible rfl))
    try simp only [Act.put, List.setIfInBounds_toArray, List.set_cons_zero, List.set_cons_succ]
    refine wpAnyH_take (i := 12) (oi := { dst := some 33, op := Op.move (Operand.tmp 32), type := 4, pos := "law.go:157", after := #[{ on := 11, ground := Ground.data }, { on := 5, ground := Ground.chain }], guard := none }) (v := ?_) rfl (by kernel_rfl) (by kernel_rfl) (by kernel_rfl) (fun _ _ _ h => h) (Or.inl ⟨by kernel_rfl, ?_⟩) (by assumption) ?_
    rotate_left 1
    focus (intro w hSw; (try dsimp only at hSw); go_simp; (try with_reducible rfl))
    try simp only [Act.put, List.setIfInBounds_toArray, List.set_cons_zero, List.set_cons_succ]
    refine wpAnyH_take (i := 13) (oi := { dst := some 34, op := Op.load 25 (Operand.tmp 8), type := 25, pos := "law.go:157", after := #[{ on := 12, ground := Ground.guard }], guard := some (12, true) }) rfl (by kernel_rfl) (by kernel_rfl) (by kernel_rfl) (fun _ _ _ h => h) (yields_load (by kernel_rfl) 25 (.tmp 8) rfl (tv (F)) (fun V hV => ld (b := b8) (f := F) hV (by simp))) (by assumption) ?_
    try simp only [Act.put, List.setIfInBounds_toArray, List.set_cons_zero, List.set_cons_succ]
    refine wpAnyH_take (i := 15) (oi := { dst := some 36, op := Op.load 25 (Operand.tmp 3), type := 25, pos := "law.go:157", after := #[{ on := 12, ground := Ground.guard }], guard := some (12, true) }) rfl (by kernel_rfl) (by kernel_rfl) (by kernel_rfl) (fun _ _ _ h => h) (yields_load (by kernel_rfl) 25 (.tmp 3) rfl (tv (f)) (fun V hV => ld (b := w.heap.size) (f := f) hV (by simp))) (by assumption) ?_
    try simp only [Act.put, List.setIfInBounds_toArray, List.set_cons_zero, List.set_cons_succ]
    refine wpAnyH_ready (rs := [14]) (by kernel_rfl) (by simp) (AllReadyH.cons (o := { dst := some 35, op := Op.call { callee := Callee.value (Operand.func 9), args := #[Operand.tmp 34], argTypes := #[25] }, type := 9, pos := "law.go:157", after := #[{ on := 13, ground := Ground.data }, { on := 12, ground := Ground.chain }, { on := 12, ground := Ground.guard }], guard := some (12, true) }) rfl (fun K hK => ?_) AllReadyH.nil)
    (go_simp; (go_at_call 9; (refine (St.call h42r4 (HBF.out _)).mono ?_); rintro e V3r4 ⟨rfl, h43r4⟩))
    refine hK.out _ _ ?_ (fun hHeld => ?_)
    · (first | exact h43r4 | exact h43r4.tl)
    clear hK K
    try simp only [Act.put, List.setIfInBounds_toArray, List.set_cons_zero, List.set_cons_succ]
    refine wpAnyH_ready (rs := [16]) (by kernel_rfl) (by simp) (AllReadyH.cons (o := { dst := some 37, op := Op.call { callee := Callee.value (Operand.func 9), args := #[Operand.tmp 36], argTypes := #[25] }, type := 9, pos := "law.go:157", after := #[{ on := 15, ground := Ground.data }, { on := 14, ground := Ground.chain }, { on := 12, ground := Ground.guard }], guard := some (12, true) }) rfl (fun K hK => ?_) AllReadyH.nil)
    (go_simp; (go_at_call 9; (refine (St.call h43r4 (HBf.out _)).mono ?_); rintro e V4r4 ⟨rfl, h44r4⟩))
    refine hK.out _ _ ?_ (fun hHeld => ?_)
    · (first | exact h44r4 | exact h44r4.tl)
    clear hK K
    try simp only [Act.put, List.setIfInBounds_toArray, List.set_cons_zero, List.set_cons_succ]
    refine wpAnyH_take (i := 17) (oi := { dst := some 38, op := Op.binOp BinOp.neq 9 (Operand.tmp 35) (Operand.tmp 37) 9, type := 4, pos := "law.go:157", after := #[{ on := 14, ground := Ground.data }, { on := 16, ground := Ground.data }, { on := 12, ground := Ground.guard }], guard := some (12, true) }) rfl (by kernel_rfl) (by kernel_rfl) (by kernel_rfl) (fun _ _ _ h => h) (yields_op (by kernel_rfl) .neq 9 (.tmp 35) (.tmp 37) 9 rfl (.bool true) _ _ rfl rfl (eqGuard_at_string ..) (fun V => HE17.out V)) (by assumption) ?_
    try simp only [Act.put, List.setIfInBounds_toArray, List.set_cons_zero, List.set_cons_succ]
    refine wpAnyH_take (i := 18) (oi := { dst := some 39, op := Op.pick (Operand.tmp 33) (Operand.tmp 38) (Operand.const (Value.bool false)), type := 4, pos := "law.go:157", after := #[{ on := 12, ground := Ground.data }, { on := 17, ground := Ground.data }], guard := none }) (v := ?_) rfl (by kernel_rfl) (by kernel_rfl) (by kernel_rfl) (fun _ _ _ h => h) (Or.inl ⟨by kernel_rfl, ?_⟩) (by assumption) ?_
    rotate_left 1
    focus (intro w hSw; (try dsimp only at hSw); go_simp; (try with_reducible rfl))
    try simp only [Act.put, List.setIfInBounds_toArray, List.set_cons_zero, List.set_cons_succ]
    refine wpAnyH_take (i := 19) (oi := { dst := some 40, op := Op.move (Operand.tmp 39), type := 4, pos := "law.go:157", after := #[{ on := 18, ground := Ground.data }, { on := 16, ground := Ground.chain }], guard := none }) (v := ?_) rfl (by kernel_rfl) (by kernel_rfl) (by kernel_rfl) (fun _ _ _ h => h) (Or.inl ⟨by kernel_rfl, ?_⟩) (by assumption) ?_
    rotate_left 1
    focus (intro w hSw; (try dsimp only at hSw); go_simp; (try with_reducible rfl))
    try simp only [Act.put, List.setIfInBounds_toArray, List.set_cons_zero, List.set_cons_succ]
    refine wpAnyH_take (i := 20) (oi := { dst := some 41, op := Op.load 25 (Operand.tmp 3), type := 25, pos := "law.go:157", after := #[{ on := 19, ground := Ground.guard }], guard := some (19, true) }) rfl (by kernel_rfl) (by kernel_rfl) (by kernel_rfl) (fun _ _ _ h => h) (yields_load (by kernel_rfl) 25 (.tmp 3) rfl (tv (f)) (fun V hV => ld (b := w.heap.size) (f := f) hV (by simp))) (by assumption) ?_
    try simp only [Act.put, List.setIfInBounds_toArray, List.set_cons_zero, List.set_cons_succ]
    refine wpAnyH_take (i := 21) (oi := { dst := some 42, op := Op.load 25 (Operand.tmp 4), type := 25, pos := "law.go:157", after := #[{ on := 19, ground := Ground.guard }], guard := some (19, true) }) rfl (by kernel_rfl) (by kernel_rfl) (by kernel_rfl) (fun _ _ _ h => h) (yields_load (by kernel_rfl) 25 (.tmp 4) rfl (tv (g)) (fun V hV => ld (b := w.heap.size + 1) (f := g) hV (by simp))) (by assumption) ?_
    try simp only [Act.put, List.setIfInBounds_toArray, List.set_cons_zero, List.set_cons_succ]
    refine wpAnyH_take (i := 22) (oi := { dst := some 43, op := Op.binOp BinOp.neq 25 (Operand.tmp 41) (Operand.tmp 42) 25, type := 4, pos := "law.go:157", after := #[{ on := 20, ground := Ground.data }, { on := 21, ground := Ground.data }, { on := 19, ground := Ground.guard }], guard := some (19, true) }) rfl (by kernel_rfl) (by kernel_rfl) (by kernel_rfl) (fun _ _ _ h => h) (yields_bin (by kernel_rfl) .neq 25 (.tmp 41) (.tmp 42) 25 rfl _ _ rfl rfl guard_tile (.bool true) (fun V => HE22.out V)) (by assumption) ?_
    try simp only [Act.put, List.setIfInBounds_toArray, List.set_cons_zero, List.set_cons_succ]
    refine wpAnyH_take (i := 23) (oi := { dst := some 44, op := Op.move (Operand.tmp 43), type := 4, pos := "law.go:157", after := #[{ on := 22, ground := Ground.data }, { on := 19, ground := Ground.chain }, { on := 19, ground := Ground.guard }], guard := some (19, true) }) (v := ?_) rfl (by kernel_rfl) (by kernel_rfl) (by kernel_rfl) (fun _ _ _ h => h) (Or.inl ⟨by kernel_rfl, ?_⟩) (by assumption) ?_
    rotate_left 1
    focus (intro w hSw; (try dsimp only at hSw); go_simp; (try with_reducible rfl))
    try simp only [Act.put, List.setIfInBounds_toArray, List.set_cons_zero, List.set_cons_succ]
    refine wpAnyH_take (i := 24) (oi := { dst := some 45, op := Op.load 25 (Operand.tmp 3), type := 25, pos := "law.go:157", after := #[{ on := 23, ground := Ground.guard }], guard := some (23, false) }) rfl (by kernel_rfl) (by kernel_rfl) (by kernel_rfl) (fun _ _ _ h => h) (Or.inr ⟨by kernel_rfl, rfl⟩) (by assumption) ?_
    try simp only [Act.put, List.setIfInBounds_toArray, List.set_cons_zero, List.set_cons_succ]
    refine wpAnyH_take (i := 25) (oi := { dst := some 46, op := Op.call { callee := Callee.value (Operand.func 10), args := #[Operand.tmp 45], argTypes := #[25] }, type := 34, pos := "law.go:157", after := #[{ on := 24, ground := Ground.data }, { on := 23, ground := Ground.chain }, { on := 23, ground := Ground.guard }], guard := some (23, false) }) rfl (by kernel_rfl) (by kernel_rfl) (by kernel_rfl) (fun _ _ _ h => h) (Or.inr ⟨by kernel_rfl, rfl⟩) (by assumption) ?_
    try simp only [Act.put, List.setIfInBounds_toArray, List.set_cons_zero, List.set_cons_succ]
    refine wpAnyH_take (i := 26) (oi := { dst := some 47, op := Op.load 25 (Operand.tmp 4), type := 25, pos := "law.go:157", after := #[{ on := 23, ground := Ground.guard }], guard := some (23, false) }) rfl (by kernel_rfl) (by kernel_rfl) (by kernel_rfl) (fun _ _ _ h => h) (Or.inr ⟨by kernel_rfl, rfl⟩) (by assumption) ?_
    try simp only [Act.put, List.setIfInBounds_toArray, List.set_cons_zero, List.set_cons_succ]
    refine wpAnyH_take (i := 27) (oi := { dst := some 48, op := Op.call { callee := Callee.value (Operand.func 10), args := #[Operand.tmp 47], argTypes := #[25] }, type := 34, pos := "law.go:157", after := #[{ on := 26, ground := Ground.data }, { on := 25, ground := Ground.chain }, { on := 23, ground := Ground.guard }], guard := some (23, false) }) rfl (by kernel_rfl) (by kernel_rfl) (by kernel_rfl) (fun _ _ _ h => h) (Or.inr ⟨by kernel_rfl, rfl⟩) (by assumption) ?_
    try simp only [Act.put, List.setIfInBounds_toArray, List.set_cons_zero, List.set_cons_succ]
    refine wpAnyH_take (i := 28) (oi := { dst := some 49, op := Op.binOp BinOp.eql 34 (Operand.tmp 46) (Operand.tmp 48) 34, type := 4, pos := "law.go:157", after := #[{ on := 25, ground := Ground.data }, { on := 27, ground := Ground.data }, { on := 23, ground := Ground.guard }], guard := some (23, false) }) rfl (by kernel_rfl) (by kernel_rfl) (by kernel_rfl) (fun _ _ _ h => h) (Or.inr ⟨by kernel_rfl, rfl⟩) (by assumption) ?_
    try simp only [Act.put, List.setIfInBounds_toArray, List.set_cons_zero, List.set_cons_succ]
    refine wpAnyH_take (i := 29) (oi := { dst := some 50, op := Op.pick (Operand.tmp 44) (Operand.const (Value.bool true)) (Operand.tmp 49), type := 4, pos := "law.go:157", after := #[{ on := 23, ground := Ground.data }, { on := 28, ground := Ground.data }, { on := 19, ground := Ground.guard }], guard := some (19, true) }) (v := ?_) rfl (by kernel_rfl) (by kernel_rfl) (by kernel_rfl) (fun _ _ _ h => h) (Or.inl ⟨by kernel_rfl, ?_⟩) (by assumption) ?_
    rotate_left 1
    focus (intro w hSw; (try dsimp only at hSw); go_simp; (try with_reducible rfl))
    try simp only [Act.put, List.setIfInBounds_toArray, List.set_cons_zero, List.set_cons_succ]
    refine wpAnyH_take (i := 30) (oi := { dst := some 51, op := Op.pick (Operand.tmp 40) (Operand.tmp 50) (Operand.const (Value.bool false)), type := 4, pos := "law.go:157", after := #[{ on := 19, ground := Ground.data }, { on := 29, ground := Ground.data }], guard := none }) (v := ?_) rfl (by kernel_rfl) (by kernel_rfl) (by kernel_rfl) (fun _ _ _ h => h) (Or.inl ⟨by kernel_rfl, ?_⟩) (by assumption) ?_
    rotate_left 1
    focus (intro w hSw; (try dsimp only at hSw); go_simp; (try with_reducible rfl))
    try simp only [Act.put, List.setIfInBounds_toArray, List.set_cons_zero, List.set_cons_succ]
    refine wpAnyH_take (i := 31) (oi := { dst := some 52, op := Op.move (Operand.tmp 51), type := 4, pos := "law.go:157", after := #[{ on := 30, ground := Ground.data }, { on := 27, ground := Ground.chain }], guard := none }) (v := ?_) rfl (by kernel_rfl) (by kernel_rfl) (by kernel_rfl) (fun _ _ _ h => h) (Or.inl ⟨by kernel_rfl, ?_⟩) (by assumption) ?_
    rotate_left 1
    focus (intro w hSw; (try dsimp only at hSw); go_simp; (try with_reducible rfl))
    try simp only [Act.put, List.setIfInBounds_toArray, List.set_cons_zero, List.set_cons_succ]
    refine wpAnyH_take (i := 32) (oi := { dst := some 53, op := Op.load 25 (Operand.tmp 3), type := 25, pos := "law.go:157", after := #[{ on := 31, ground := Ground.guard }], guard := some (31, true) }) rfl (by kernel_rfl) (by kernel_rfl) (by kernel_rfl) (fun _ _ _ h => h) (yields_load (by kernel_rfl) 25 (.tmp 3) rfl (tv (f)) (fun V hV => ld (b := w.heap.size) (f := f) hV (by simp))) (by assumption) ?_
    try simp only [Act.put, List.setIfInBounds_toArray, List.set_cons_zero, List.set_cons_succ]
    refine wpAnyH_take (i := 34) (oi := { dst := some 55, op := Op.load 25 (Operand.tmp 3), type := 25, pos := "law.go:157", after := #[{ on := 31, ground := Ground.guard }], guard := some (31, true) }) rfl (by kernel_rfl) (by kernel_rfl) (by kernel_rfl) (fun _ _ _ h => h) (yields_load (by kernel_rfl) 25 (.tmp 3) rfl (tv (f)) (fun V hV => ld (b := w.heap.size) (f := f) hV (by simp))) (by assumption) ?_
    try simp only [Act.put, List.setIfInBounds_toArray, List.set_cons_zero, List.set_cons_succ]
    refine wpAnyH_ready (rs := [33]) (by kernel_rfl) (by simp) (AllReadyH.cons (o := { dst := some 54, op := Op.call { callee := Callee.value (Operand.func 10), args := #[Operand.tmp 53], argTypes := #[25] }, type := 34, pos := "law.go:157", after := #[{ on := 32, ground := Ground.data }, { on := 31, ground := Ground.chain }, { on := 31, ground := Ground.guard }], guard := some (31, true) }) rfl (fun K hK => ?_) AllReadyH.nil)
    (go_simp; (go_at_call 10; (refine (St.call h44r4 (HKf.out _ (HK.out.later h44r4.below))).mono ?_); rintro e V5r4 ⟨rfl, h45r4⟩))
    refine hK.out _ _ ?_ (fun hHeld => ?_)
    · (first | exact h45r4 | exact h45r4.tl)
    clear hK K
    try simp only [Act.put, List.setIfInBounds_toArray, List.set_cons_zero, List.set_cons_succ]
    refine wpAnyH_ready (rs := [35]) (by kernel_rfl) (by simp) (AllReadyH.cons (o := { dst := some 56, op := Op.call { callee := Callee.value (Operand.func 9), args := #[Operand.tmp 55], argTypes := #[25] }, type := 9, pos := "law.go:157", after := #[{ on := 34, ground := Ground.data }, { on := 33, ground := Ground.chain }, { on := 31, ground := Ground.guard }], guard := some (31, true) }) rfl (fun K hK => ?_) AllReadyH.nil)
    (go_simp; (go_at_call 9; (refine (St.call h45r4 (HBf.out _)).mono ?_); rintro e V6r4 ⟨rfl, h46r4⟩))
    refine hK.out _ _ ?_ (fun hHeld => ?_)
    · (first | exact h46r4 | exact h46r4.tl)
    clear hK K
    try simp only [Act.put, List.setIfInBounds_toArray, List.set_cons_zero, List.set_cons_succ]
    refine wpAnyH_ready (rs := [36]) (by kernel_rfl) (by simp) (AllReadyH.cons (o := { dst := some 57, op := Op.call { callee := Callee.value (Operand.func 12), args := #[Operand.tmp 56], argTypes := #[9] }, type := 34, pos := "law.go:157", after := #[{ on := 35, ground := Ground.data }, { on := 35, ground := Ground.chain }, { on := 31, ground := Ground.guard }], guard := some (31, true) }) rfl (fun K hK => ?_) AllReadyH.nil)
    (go_simp; (go_at_call 12; (refine (St.call h46r4 (HOF.out _ (HK.out.later h46r4.below))).mono ?_); rintro e V7r4 ⟨rfl, h47r4⟩))
    refine hK.out _ _ ?_ (fun hHeld => ?_)
    · (first | exact h47r4 | exact h47r4.tl)
    clear hK K
    try simp only [Act.put, List.setIfInBounds_toArray, List.set_cons_zero, List.set_cons_succ]
    refine wpAnyH_take (i := 37) (oi := { dst := some 58, op := Op.binOp BinOp.eql 34 (Operand.tmp 54) (Operand.tmp 57) 34, type := 4, pos := "law.go:157", after := #[{ on := 33, ground := Ground.data }, { on := 36, ground := Ground.data }, { on := 31, ground := Ground.guard }], guard := some (31, true) }) rfl (by kernel_rfl) (by kernel_rfl) (by kernel_rfl) (fun _ _ _ h => h) (yields_op (by kernel_rfl) .eql 34 (.tmp 54) (.tmp 57) 34 rfl (.bool true) _ _ rfl rfl (eqGuard_at_string ..) (fun V => HE37.out V)) (by assumption) ?_
    try simp only [Act.put, List.setIfInBounds_toArray, List.set_cons_zero, List.set_cons_succ]
    refine wpAnyH_take (i := 38) (oi := { dst := some 59, op := Op.pick (Operand.tmp 52) (Operand.tmp 58) (Operand.const (Value.bool false)), type := 4, pos := "law.go:157", after := #[{ on := 31, ground := Ground.data }, { on := 37, ground := Ground.data }], guard := none }) (v := ?_) rfl (by kernel_rfl) (by kernel_rfl) (by kernel_rfl) (fun _ _ _ h => h) (Or.inl ⟨by kernel_rfl, ?_⟩) (by assumption) ?_
    rotate_left 1
    focus (intro w hSw; (try dsimp only at hSw); go_simp; (try with_reducible rfl))
    try simp only [Act.put, List.setIfInBounds_toArray, List.set_cons_zero, List.set_cons_succ]
    refine wpAnyH_take (i := 39) (oi := { dst := some 60, op := Op.move (Operand.tmp 59), type := 4, pos := "law.go:157", after := #[{ on := 38, ground := Ground.data }, { on := 36, ground := Ground.chain }], guard := none }) (v := ?_) rfl (by kernel_rfl) (by kernel_rfl) (by kernel_rfl) (fun _ _ _ h => h) (Or.inl ⟨by kernel_rfl, ?_⟩) (by assumption) ?_
    rotate_left 1
    focus (intro w hSw; (try dsimp only at hSw); go_simp; (try with_reducible rfl))
    try simp only [Act.put, List.setIfInBounds_toArray, List.set_cons_zero, List.set_cons_succ]
    refine wpAnyH_take (i := 40) (oi := { dst := some 61, op := Op.load 25 (Operand.tmp 3), type := 25, pos := "law.go:157", after := #[{ on := 39, ground := Ground.guard }], guard := some (39, true) }) rfl (by kernel_rfl) (by kernel_rfl) (by kernel_rfl) (fun _ _ _ h => h) (yields_load (by kernel_rfl) 25 (.tmp 3) rfl (tv (f)) (fun V hV => ld (b := w.heap.size) (f := f) hV (by simp))) (by assumption) ?_
    try simp only [Act.put, List.setIfInBounds_toArray, List.set_cons_zero, List.set_cons_succ]
    refine wpAnyH_ready (rs := [41]) (by kernel_rfl) (by simp) (AllReadyH.cons (o := { dst := some 62, op := Op.call { callee := Callee.value (Operand.func 9), args := #[Operand.tmp 61], argTypes := #[25] }, type := 9, pos := "law.go:157", after := #[{ on := 40, ground := Ground.data }, { on := 39, ground := Ground.chain }, { on := 39, ground := Ground.guard }], guard := some (39, true) }) rfl (fun K hK => ?_) AllReadyH.nil)
    (go_simp; (go_at_call 9; (refine (St.call h47r4 (HBf.out _)).mono ?_); rintro e V8r4 ⟨rfl, h48r4⟩))
    refine hK.out _ _ ?_ (fun hHeld => ?_)
    · (first | exact h48r4 | exact h48r4.tl)
    clear hK K
    try simp only [Act.put, List.setIfInBounds_toArray, List.set_cons_zero, List.set_cons_succ]
    refine wpAnyH_take (i := 42) (oi := { dst := some 63, op := Op.call { callee := Callee.builtin Builtin.len, args := #[Operand.tmp 62], argTypes := #[9] }, type := 3, pos := "law.go:157", after := #[{ on := 41, ground := Ground.data }, { on := 39, ground := Ground.guard }], guard := some (39, true) }) (v := ?_) rfl (by kernel_rfl) (by kernel_rfl) (by kernel_rfl) (fun _ _ _ h => h) (Or.inl ⟨by kernel_rfl, ?_⟩) (by assumption) ?_
    rotate_left 1
    focus (intro w hSw; (try dsimp only at hSw); go_simp; (try with_reducible rfl))
    try simp only [Act.put, List.setIfInBounds_toArray, List.set_cons_zero, List.set_cons_succ]
    refine wpAnyH_take (i := 43) (oi := { dst := some 64, op := Op.binOp BinOp.eql 3 (Operand.tmp 63) (Operand.const (Value.int IntKind.i64 256)) 3, type := 4, pos := "law.go:157", after := #[{ on := 42, ground := Ground.data }, { on := 39, ground := Ground.guard }], guard := some (39, true) }) (v := ?_) rfl (by kernel_rfl) (by kernel_rfl) (by kernel_rfl) (fun _ _ _ h => h) (Or.inl ⟨by kernel_rfl, ?_⟩) (by assumption) ?_
    rotate_left 1
    focus (intro w hSw; (try dsimp only at hSw); go_simp; (try with_reducible rfl))
    try simp only [Act.put, List.setIfInBounds_toArray, List.set_cons_zero, List.set_cons_succ]
    refine wpAnyH_take (i := 44) (oi := { dst := some 65, op := Op.pick (Operand.tmp 60) (Operand.tmp 64) (Operand.const (Value.bool false)), type := 4, pos := "law.go:157", after := #[{ on := 39, ground := Ground.data }, { on := 43, ground := Ground.data }], guard := none }) (v := ?_) rfl (by kernel_rfl) (by kernel_rfl) (by kernel_rfl) (fun _ _ _ h => h) (Or.inl ⟨by kernel_rfl, ?_⟩) (by assumption) ?_
    rotate_left 1
    focus (intro w hSw; (try dsimp only at hSw); go_simp; (try with_reducible rfl))
    try simp only [Act.put, List.setIfInBounds_toArray, List.set_cons_zero, List.set_cons_succ]
    refine wpAnyH_take (i := 45) (oi := { dst := some 6, op := Op.assign (Operand.tmp 65), type := 4, pos := "law.go:157", after := #[{ on := 44, ground := Ground.data }, { on := 41, ground := Ground.chain }, { on := 0, ground := Ground.phase }, { on := 1, ground := Ground.phase }, { on := 2, ground := Ground.phase }, { on := 3, ground := Ground.phase }, { on := 4, ground := Ground.phase }, { on := 5, ground := Ground.phase }, { on := 6, ground := Ground.phase }, { on := 7, ground := Ground.phase }, { on := 8, ground := Ground.phase }, { on := 9, ground := Ground.phase }, { on := 10, ground := Ground.phase }, { on := 11, ground := Ground.phase }, { on := 12, ground := Ground.phase }, { on := 13, ground := Ground.phase }, { on := 14, ground := Ground.phase }, { on := 15, ground := Ground.phase }, { on := 16, ground := Ground.phase }, { on := 17, ground := Ground.phase }, { on := 18, ground := Ground.phase }, { on := 19, ground := Ground.phase }, { on := 20, ground := Ground.phase }, { on := 21, ground := Ground.phase }, { on := 22, ground := Ground.phase }, { on := 23, ground := Ground.phase }, { on := 24, ground := Ground.phase }, { on := 25, ground := Ground.phase }, { on := 26, ground := Ground.phase }, { on := 27, ground := Ground.phase }, { on := 28, ground := Ground.phase }, { on := 29, ground := Ground.phase }, { on := 30, ground := Ground.phase }, { on := 31, ground := Ground.phase }, { on := 32, ground := Ground.phase }, { on := 33, ground := Ground.phase }, { on := 34, ground := Ground.phase }, { on := 35, ground := Ground.phase }, { on := 36, ground := Ground.phase }, { on := 37, ground := Ground.phase }, { on := 38, ground := Ground.phase }, { on := 39, ground := Ground.phase }, { on := 40, ground := Ground.phase }, { on := 41, ground := Ground.phase }, { on := 42, ground := Ground.phase }, { on := 43, ground := Ground.phase }, { on := 44, ground := Ground.phase }], guard := none }) (v := ?_) rfl (by kernel_rfl) (by kernel_rfl) (by kernel_rfl) (fun _ _ _ h => h) (Or.inl ⟨by kernel_rfl, ?_⟩) (by assumption) ?_
    rotate_left 1
    focus (intro w hSw; (try dsimp only at hSw); go_simp; (try with_reducible rfl))
    try simp only [Act.put, List.setIfInBounds_toArray, List.set_cons_zero, List.set_cons_succ]
    refine wpAnyH_done (by kernel_rfl) ?_ _
    have HB := Lib.hid h48r4.below
    go_wp2_with fail
    go_ret
    exact ⟨by show Ending.returned (.bool ((S.size : Int) == 256)) = _; rw [HSZ.out]; rfl, HB.out⟩

theorem okin (W : World) (base : Nat) : Input.okWide Tryd.checked.prog W .any base 4 ⟨#[], #[tv z0, tv z0, .int .u8 0], []⟩ := by
  refine ⟨by simp, by simp, by kernel_rfl, Tryd.f4, Tryd.func4, by kernel_rfl, by kernel_rfl, by kernel_rfl, by rw [Tryd.params4]; rfl, ?_⟩
  intro j t v ht hv
  rw [Tryd.params4] at ht
  match j with
  | 0 => cases (Option.some.inj ht); cases (Option.some.inj hv); exact ok_tile W base
  | 1 => cases (Option.some.inj ht); cases (Option.some.inj hv); exact ok_tile W base
  | 2 => cases (Option.some.inj ht); cases (Option.some.inj hv); exact ok_u8 W base
  | j + 3 => simp at ht
set_option maxRecDepth 100000 in
theorem lifted (os : Os) (started : os.Started) (H : Type) (enc : TypeId × Value → H) :
    ReturnsInHanded {} Tryd.checked os 4 .any (fun w args => (Rows.tileKeysSpec.pre enc Tryd.prog Tryd.f4 [] false w args ∧ laidMetH Tryd.prog laid1 w) ∧ sizedMet enc Tryd.prog Tryd.f4 (OpenSpec.ofChange Rows.tileKeysSpec) false w args) (Rows.tileKeysSpec.post enc Tryd.prog Tryd.f4 false true false false) := by
  refine returnsInHanded_of_change_and (C := Tryd.checked) (X := fun w _ => laidMetH Tryd.prog laid1 w) (fun _ _ _ hh h => h.of_heap hh) own started (by kernel_rfl) Tryd.func4
    (witness8 (enc := enc) (C := Tryd.checked) (os := os) (X := fun w _ => laidMetH Tryd.prog laid1 w) false (World.doorLaid Tryd.prog 400 os) #[tv z0, tv z0, .int .u8 0] 8 rfl (World.shaped_of_RefB (by kernel_rfl) (by kernel_rfl)) (fun W base => okin W base) (by kernel_rfl) (by kernel_rfl) (door_met os _)) ?_
  intro W base args ds gs before hval0 hW _ hsz0 hL _
  have hval : ∀ (j : Nat) t v, Tryd.f4.params[j]? = some t → args[j]? = some v → Value.okWide Tryd.prog W .any base t v := hval0
  have hsz : (DataW.weightsEach Tryd.prog (Tryd.f4.params.toList ++ Rows.tileKeysSpec.plain.varTypes Tryd.prog) (ds ++ gs)).all (· ≤ reachBytes) = true := hsz0
  have hW' := hW
  obtain ⟨p, q, hA0, hV, rfl, hfz, hnd⟩ := hW
  have hA : DataW.TrodAll enc Tryd.prog W 0 (fun _ => true) true Tryd.f4.params.toList args.toList ds p := hA0
  rw [Tryd.params4] at hA hval hsz
  obtain ⟨v0, v1, v2, d0, d1, d2, p0, p1, p2, rfl, rfl, rfl, h0, h1, h2⟩ := trodAll_three hA
  obtain ⟨rfl, rfl⟩ := trodVars_none hV
  obtain ⟨f, rfl, hf⟩ := open_tile (hval 0 25 v0 rfl rfl)
  obtain ⟨g, rfl, hg⟩ := open_tile (hval 1 25 v1 rfl rfl)
  obtain ⟨a, rfl, ha⟩ := open_u8 (hval 2 5 v2 rfl rfl)
  refine (walk f g a W (kt_of_laid hL) hf hg ha).mono fun e W' ⟨he, hb⟩ => ?_
  subst he
  exact ⟨_, rfl, law_post hW' rfl (by kernel_rfl) rfl (by intro t ht; rw [Tryd.params4] at ht; simp at ht; rcases ht with rfl | rfl <;> exact ⟨by kernel_rfl, of_decide_eq_true (by kernel_rfl)⟩) hb⟩

theorem holds : Rows.TileKeysSaid :=
  OpenClaim.holds_of_wide 4 Tryd.f4 rfl rfl rfl rfl rfl rfl rfl ⟨rfl, rfl, rfl, rfl, rfl⟩ rfl rfl rfl rfl rfl (by kernel_rfl) Tryd.func4 (by kernel_rfl)
    (of_decide_eq_true (by kernel_rfl)) (by unfold Func.isWrapper; first | (rw [if_pos (by decide +kernel)]; kernel_rfl) | (rw [if_neg (by decide +kernel)]; exact ⟨rfl, rfl⟩))
    (fun os started H enc _ => lifted os started H enc)

theorem card_holds : Rows.TileKeysCardSaid :=
  Claim7.holds_tied_plain_at .later [] [.data] true Rows.tileKeysCard.stood.harness false
    holds (fun _ h => by cases h) (by kernel_rfl) (fun _ h => by cases h) tileKeys_row_tie rfl ⟨rfl, rfl⟩ (by kernel_rfl) rfl
    (fun f fn hf hfn => by
      obtain rfl : f = 4 := Option.some.inj ((show Tryd.prog.funcNamed Rows.tileKeysRow.func = some 4 by kernel_rfl).symm.trans hf) |>.symm
      obtain rfl : fn = Tryd.f4 := (Option.some.inj (Tryd.func4.symm.trans hfn)).symm
      exact ⟨by kernel_rfl, fun j t ht => by
        rw [Tryd.params4] at ht
        have hm : t ∈ [25, 25, 5] := by simpa using Array.mem_of_getElem? ht
        have hall : ([25, 25, 5].all fun u => !Tryd.prog.wantsStandIn u) = true := by kernel_rfl
        exact (show Tryd.prog.wantsStandIn t = false by simpa using List.all_eq_true.1 hall t hm)⟩)
    (by kernel_rfl)
end Go.Proofs.YtligojllbnahcaaDoor.T.TLKeys
