/-
  For every tile and every string, Bytes and Key return what the reference returns, Read does for every string, and it inverts Bytes. No conditions on the arguments; the table of round constants is as the program lays it (tied).
-/
import Derived.Test.YtligojllbnahcaaDoorTDLaw
import Derived.Test.YtligojllbnahcaaDoorTRead
namespace Go.Proofs.YtligojllbnahcaaDoor.T.TLBytes
open Go.ChangeShapes Go.WideShapes Go.ChangeAt Go.RowKit Go.Shelf D
set_option maxRecDepth 100000

theorem ld_gotE {L : List (Nat × Obj)} {W V : World} {b : Nat} {g : Nat → Px} {x : Int} (h : St W L V) (hm : (b, gob g x) ∈ L) : (Instr.loadAt 28 (.pointer (some ⟨b, 256, none⟩))).run Tryd.prog V = .ok (.int .i64 x) V := by
  have ht : (isAgg 28).run Tryd.prog V = .ok false V := by kernel_rfl
  have hc : V.cell? ⟨b, 256, none⟩ = some (.int .i64 x) := by
    rw [cell_of_row V b 256 _ _ (0, 0) (h.row hm)]
    unfold gotc
    rw [Array.getElem?_append_right (by rw [tc_size]; omega), tc_size]; rfl
  simp only [Instr.loadAt, Instr.sureAddr, loadVar, Sem.run_bind, Sem.run_pure, Result.andThen_ok, ht, run_load, hc, Bool.false_eq_true, if_false]
theorem ld_gotT {L : List (Nat × Obj)} {W V : World} {b : Nat} {g : Nat → Px} {x : Int} (h : St W L V) (hm : (b, gob g x) ∈ L) : (Instr.loadAt 25 (.pointer (some ⟨b, 0, none⟩))).run Tryd.prog V = .ok (tv g) V := by
  have hr : V.rangeAt b 0 (tc g).toList := fun j v hv => by
    rw [Nat.zero_add, cell_of_row V b j _ _ (0, 0) (h.row hm)]
    have hj : j < (tc g).toList.length := (List.getElem?_eq_some_iff.1 hv).1
    unfold gotc
    rw [Array.getElem?_append_left (by simpa using hj), ← hv]
    simp
  have := run_loadAt_mid V b 0 25 (tc g).toList _ hr Tryd.underlying25 rfl (by rw [info_tile, Array.length_toList, tc_size])
  simpa using this
theorem got_st {L : List (Nat × Obj)} {W V : World} {c : Nat} {g : Nat → Px} {x : Int} (h : St W ((c, gob z0 0) :: L) V) (hb : W.heap.size ≤ c) (hL : ∀ y ∈ L, y.1 ≠ c) : St W ((c, gob g x) :: L) (V.setRow c (gotc g x)) := St.rowset h hb hL

set_option maxHeartbeats 8000000 in
set_option maxRecDepth 100000 in
theorem walk (f : Nat → Px) (s : ByteArray) (w : World) (hk : KT w) (hf : ∀ i, i < 64 → Pc (f i)) (hs : s.size ≤ 140737488355328) : Calls Tryd.prog 3 #[tv f, .string s] w fun e w' => e = .returned (.bool true) ∧ Below w.heap.size w w' := by
  have hs := (St.start w).alloc (tob f)
  have HBY := Lib.hid (fun V => bytes_any f V hf)
  have HRB := Lib.hid (fun V => refBytes_any f V hf)
  have HKY := Lib.hid (fun V (hk : KT V) => key_any f V hk hf)
  have HRK := Lib.hid (fun V => refKey_any f V hf)
  have HKK := Lib.hid (fun V => (show (Go.binOp .eql 34 (.string (kd f)) (.string (kd f))).run Tryd.prog V = .ok (.bool true) V by rw [eql_str]; simp))
  have hSz := bys_size f
  have HA0 : Hid (∀ i, i < 64 → rdT (str (bys 64 f)) i = f i) := fun i hi => by rw [rdT_yes hSz]; show rdp (str (bys 64 f)).data.toList i = f i; rw [show (str (bys 64 f)).data.toList = bys 64 f by simp [str]]; exact rdp_bys i hi (hf i hi)
  have HR1 := Lib.hid (fun V => (by have := read_any (str (bys 64 f)) V; rwa [rdE_yes hSz] at this : Calls Tryd.prog 7 #[.string (str (bys 64 f))] V fun e w' => e = .returned (.tuple #[tv (rdT (str (bys 64 f))), .int .i64 0]) ∧ Below V.heap.size V w'))
  generalize kd f = K at *
  generalize str (bys 64 f) = S at *
  generalize rdT S = A at *
  have HR2 := Lib.hid (fun V => read_any s V)
  have HRR := Lib.hid (fun V => refRead_any s V)
  generalize rdT s = B at *
  generalize rdE s = E at *
  have hsl : ∀ W, (Instr.slice 9 (.string S) none (some (.int .i64 ((s.size : Int) % 256))) none).run Tryd.prog W = .ok (.string (S.extract 0 (s.size % 256))) W := fun W => by
    have := run_slice_string_h W 9 S Tryd.underlying9 .i64 ((s.size : Int) % 256) (by omega) (by rw [hSz]; omega)
    rwa [show ((s.size : Int) % 256).toNat = s.size % 256 by omega] at this
  have HR3 := Lib.hid (fun V => (by
    have h3 : ¬ (S.extract 0 (s.size % 256)).size = 256 := by rw [ByteArray.size_extract]; omega
    have := read_any (S.extract 0 (s.size % 256)) V
    rwa [rdE_no h3, rdT_no h3] at this : Calls Tryd.prog 7 #[.string (S.extract 0 (s.size % 256))] V fun e w' => e = .returned (.tuple #[tv z0, .int .i64 11]) ∧ Below V.heap.size V w'))
  generalize S.extract 0 (s.size % 256) = S3 at *
  have HSS := Lib.hid (fun V => (show (Go.binOp .eql 9 (.string S) (.string S)).run Tryd.prog V = .ok (.bool true) V by rw [eql_str]; simp))
  have HEA := Lib.hid (eqlTT (f := A) (g := f) HA0.out)
  have HEB := Lib.hid (eqlTT (f := B) (g := B) (fun _ _ => rfl))
  have HEZ := Lib.hid (eqlTT (f := z0) (g := z0) (fun _ _ => rfl))
  have HK := Lib.hid hk
  have hlen : (s.size : Int) ≤ 140737488355328 := by omega
  clear hk hf hSz
  go_enter Tryd.func3, Tryd.ntmps3
  go_upto_region 3 with (first
    | (go_at_call 5; (refine (St.call hs (tsane_any _)).mono ?_); rintro e V1 ⟨rfl, h1⟩)
    | (refine wpList_load_of rfl 25 (.tmp 2) rfl _ (ld (b := w.heap.size) (f := f) h1 (by simp)) ?_)
    | (go_at_call 6; (refine (St.call h1 (HRB.out _)).mono ?_); rintro e V2 ⟨rfl, h2⟩))
  have H2 := Lib.hid h2
  clear hs h1 h2
  have HX := Lib.hid (St.call H2.out (HR1.out _))
  go_upto_region 4 with (first
    | (go_at_call 7; (refine HX.out.mono ?_); rintro e U3 ⟨rfl, h⟩; have hA := World.alloc_heap_new U3 (tob z0); have h2 := (h.alloc (tob z0)).newT A h.below.size h.ne; have H3 := Lib.hid h2; have HA := Lib.hid hA; clear h h2 hA)
    | (refine wpList_alloc_of rfl 25 rfl _ (zero_tile _) ?_)
    | (refine wpList_store_of rfl 25 _ _ rfl (store_tile _ z0 _ _ HA.out) ?_))
  generalize U3.heap.size = b7 at *
  generalize (U3.alloc (.cells (tc z0) 25)).setRow b7 (tc A) = X3 at H3 ⊢
  clear HA HX
  try simp only [Act.put, List.setIfInBounds_toArray, List.set_cons_zero, List.set_cons_succ]
  have HX := Lib.hid (St.call H3.out (HR2.out _))
  go_upto_region 5 with (first
    | (go_at_call 7; (refine HX.out.mono ?_); rintro e U4 ⟨rfl, h⟩; have hA := World.alloc_heap_new U4 (tob z0); have h2 := (h.alloc (tob z0)).newT B h.below.size h.ne; have H4 := Lib.hid h2; have HA := Lib.hid hA; clear h h2 hA)
    | (refine wpList_alloc_of rfl 25 rfl _ (zero_tile _) ?_)
    | (refine wpList_store_of rfl 25 _ _ rfl (store_tile _ z0 _ _ HA.out) ?_))
  generalize U4.heap.size = b9 at *
  generalize (U4.alloc (.cells (tc z0) 25)).setRow b9 (tc B) = X4 at H4 ⊢
  clear HA HX
  try simp only [Act.put, List.setIfInBounds_toArray, List.set_cons_zero, List.set_cons_succ]
  have HX := Lib.hid (St.call H4.out (HR3.out _))
  go_upto_region 6 with (first
    | (go_at_call 7; (refine HX.out.mono ?_); rintro e U5 ⟨rfl, h⟩; have hA := World.alloc_heap_new U5 (tob z0); have h2 := (h.alloc (tob z0)).newT z0 h.below.size h.ne; have H5 := Lib.hid h2; have HA := Lib.hid hA; clear h h2 hA)
    | (refine wpList_alloc_of rfl 25 rfl _ (zero_tile _) ?_)
    | (refine wpList_store_of rfl 25 _ _ rfl (store_tile _ z0 _ _ HA.out) ?_))
  generalize U5.heap.size = b11 at *
  generalize (U5.alloc (.cells (tc z0) 25)).setRow b11 (tc z0) = X5 at H5 ⊢
  clear HA HX
  try simp only [Act.put, List.setIfInBounds_toArray, List.set_cons_zero, List.set_cons_succ]
  have HX := Lib.hid (St.call H5.out (HRR.out _))
  go_upto_region 7 with (first
    | (go_at_call 8; (refine HX.out.mono ?_); rintro e U6 ⟨rfl, h⟩; have hA := World.alloc_heap_new U6 (gob z0 0); have h2 := got_st (g := B) (x := E) (h.alloc (gob z0 0)) h.below.size h.ne; have H6 := Lib.hid h2; have HA := Lib.hid hA; clear h h2 hA)
    | (refine wpList_alloc_of rfl 32 rfl _ (zero_got _) ?_)
    | (refine wpList_store_of rfl 32 _ _ rfl (store_got _ z0 B 0 E _ HA.out) ?_))
  generalize U6.heap.size = b13 at *
  generalize (U6.alloc (.cells (gotc z0 0) 32)).setRow b13 (gotc B E) = X6 at H6 ⊢
  clear HA HX
  try simp only [Act.put, List.setIfInBounds_toArray, List.set_cons_zero, List.set_cons_succ]
  have h7 := H6.out
  refine wp_region_held_drew (S := fun V9 => St w ((b13, gob B E) :: ((b11, tob z0) :: ((b9, tob B) :: ((b7, tob A) :: [(w.heap.size, tob f)])))) V9) (by kernel_rfl) ?_ (fun hHeld => ?_)
  · first | exact h7.drew | exact h7.drew.tl
  have h70 := h7.drew
  refine wpAnyH_take (i := 0) (oi := { dst := some 38, op := Op.move (Operand.tmp 5), type := 4, pos := "law.go:68", after := #[], guard := none }) (v := ?_) rfl (by kernel_rfl) (by kernel_rfl) (by kernel_rfl) (fun _ _ _ h => h) (Or.inl ⟨by kernel_rfl, ?_⟩) (by assumption) ?_
  rotate_left 1
  focus (intro w hSw; (try dsimp only at hSw); go_simp; (try with_reducible rfl))
  try simp only [Act.put, List.setIfInBounds_toArray, List.set_cons_zero, List.set_cons_succ]
  refine wpAnyH_take (i := 1) (oi := { dst := some 39, op := Op.move (Operand.tmp 38), type := 4, pos := "law.go:68", after := #[{ on := 0, ground := Ground.data }], guard := none }) (v := ?_) rfl (by kernel_rfl) (by kernel_rfl) (by kernel_rfl) (fun _ _ _ h => h) (Or.inl ⟨by kernel_rfl, ?_⟩) (by assumption) ?_
  rotate_left 1
  focus (intro w hSw; (try dsimp only at hSw); go_simp; (try with_reducible rfl))
  try simp only [Act.put, List.setIfInBounds_toArray, List.set_cons_zero, List.set_cons_succ]
  refine wpAnyH_take (i := 2) (oi := { dst := some 40, op := Op.load 25 (Operand.tmp 2), type := 25, pos := "law.go:68", after := #[{ on := 1, ground := Ground.guard }], guard := some (1, true) }) rfl (by kernel_rfl) (by kernel_rfl) (by kernel_rfl) (fun _ _ _ h => h) (yields_load (by kernel_rfl) 25 (.tmp 2) rfl (tv (f)) (fun V hV => ld (b := w.heap.size) (f := f) hV (by simp))) (by assumption) ?_
  try simp only [Act.put, List.setIfInBounds_toArray, List.set_cons_zero, List.set_cons_succ]
  refine wpAnyH_take (i := 4) (oi := { dst := some 42, op := Op.move (Operand.tmp 6), type := 9, pos := "law.go:68", after := #[{ on := 1, ground := Ground.guard }], guard := some (1, true) }) (v := ?_) rfl (by kernel_rfl) (by kernel_rfl) (by kernel_rfl) (fun _ _ _ h => h) (Or.inl ⟨by kernel_rfl, ?_⟩) (by assumption) ?_
  rotate_left 1
  focus (intro w hSw; (try dsimp only at hSw); go_simp; (try with_reducible rfl))
  try simp only [Act.put, List.setIfInBounds_toArray, List.set_cons_zero, List.set_cons_succ]
  refine wpAnyH_ready (rs := [3]) (by kernel_rfl) (by simp) (AllReadyH.cons (o := { dst := some 41, op := Op.call { callee := Callee.value (Operand.func 9), args := #[Operand.tmp 40], argTypes := #[25] }, type := 9, pos := "law.go:68", after := #[{ on := 2, ground := Ground.data }, { on := 1, ground := Ground.chain }, { on := 1, ground := Ground.guard }], guard := some (1, true) }) rfl (fun K hK => ?_) AllReadyH.nil)
  (go_simp; (go_at_call 9; (refine (St.call h70 (HBY.out _)).mono ?_); rintro e V1r7 ⟨rfl, h71r7⟩))
  refine hK.out _ _ ?_ (fun hHeld => ?_)
  · (first | exact h71r7 | exact h71r7.tl)
  clear hK K
  try simp only [Act.put, List.setIfInBounds_toArray, List.set_cons_zero, List.set_cons_succ]
  refine wpAnyH_take (i := 5) (oi := { dst := some 43, op := Op.binOp BinOp.eql 9 (Operand.tmp 41) (Operand.tmp 42) 9, type := 4, pos := "law.go:68", after := #[{ on := 3, ground := Ground.data }, { on := 4, ground := Ground.data }, { on := 1, ground := Ground.guard }], guard := some (1, true) }) rfl (by kernel_rfl) (by kernel_rfl) (by kernel_rfl) (fun _ _ _ h => h) (yields_op (by kernel_rfl) .eql 9 (.tmp 41) (.tmp 42) 9 rfl (.bool true) _ _ rfl rfl (eqGuard_at_string ..) (fun V => HSS.out V)) (by assumption) ?_
  try simp only [Act.put, List.setIfInBounds_toArray, List.set_cons_zero, List.set_cons_succ]
  refine wpAnyH_take (i := 6) (oi := { dst := some 44, op := Op.pick (Operand.tmp 39) (Operand.tmp 43) (Operand.const (Value.bool false)), type := 4, pos := "law.go:68", after := #[{ on := 1, ground := Ground.data }, { on := 5, ground := Ground.data }], guard := none }) (v := ?_) rfl (by kernel_rfl) (by kernel_rfl) (by kernel_rfl) (fun _ _ _ h => h) (Or.inl ⟨by kernel_rfl, ?_⟩) (by assumption) ?_
  rotate_left 1
  focus (intro w hSw; (try dsimp only at hSw); go_simp; (try with_reducible rfl))
  try simp only [Act.put, List.setIfInBounds_toArray, List.set_cons_zero, List.set_cons_succ]
  refine wpAnyH_take (i := 7) (oi := { dst := some 45, op := Op.move (Operand.tmp 44), type := 4, pos := "law.go:68", after := #[{ on := 6, ground := Ground.data }, { on := 3, ground := Ground.chain }], guard := none }) (v := ?_) rfl (by kernel_rfl) (by kernel_rfl) (by kernel_rfl) (fun _ _ _ h => h) (Or.inl ⟨by kernel_rfl, ?_⟩) (by assumption) ?_
  rotate_left 1
  focus (intro w hSw; (try dsimp only at hSw); go_simp; (try with_reducible rfl))
  try simp only [Act.put, List.setIfInBounds_toArray, List.set_cons_zero, List.set_cons_succ]
  refine wpAnyH_take (i := 8) (oi := { dst := some 46, op := Op.load 25 (Operand.tmp 2), type := 25, pos := "law.go:68", after := #[{ on := 7, ground := Ground.guard }], guard := some (7, true) }) rfl (by kernel_rfl) (by kernel_rfl) (by kernel_rfl) (fun _ _ _ h => h) (yields_load (by kernel_rfl) 25 (.tmp 2) rfl (tv (f)) (fun V hV => ld (b := w.heap.size) (f := f) hV (by simp))) (by assumption) ?_
  try simp only [Act.put, List.setIfInBounds_toArray, List.set_cons_zero, List.set_cons_succ]
  refine wpAnyH_take (i := 10) (oi := { dst := some 48, op := Op.load 25 (Operand.tmp 2), type := 25, pos := "law.go:68", after := #[{ on := 7, ground := Ground.guard }], guard := some (7, true) }) rfl (by kernel_rfl) (by kernel_rfl) (by kernel_rfl) (fun _ _ _ h => h) (yields_load (by kernel_rfl) 25 (.tmp 2) rfl (tv (f)) (fun V hV => ld (b := w.heap.size) (f := f) hV (by simp))) (by assumption) ?_
  try simp only [Act.put, List.setIfInBounds_toArray, List.set_cons_zero, List.set_cons_succ]
  refine wpAnyH_ready (rs := [9]) (by kernel_rfl) (by simp) (AllReadyH.cons (o := { dst := some 47, op := Op.call { callee := Callee.value (Operand.func 10), args := #[Operand.tmp 46], argTypes := #[25] }, type := 34, pos := "law.go:68", after := #[{ on := 8, ground := Ground.data }, { on := 7, ground := Ground.chain }, { on := 7, ground := Ground.guard }], guard := some (7, true) }) rfl (fun K hK => ?_) AllReadyH.nil)
  (go_simp; (go_at_call 10; (refine (St.call h71r7 (HKY.out _ (HK.out.later h71r7.below))).mono ?_); rintro e V2r7 ⟨rfl, h72r7⟩))
  refine hK.out _ _ ?_ (fun hHeld => ?_)
  · (first | exact h72r7 | exact h72r7.tl)
  clear hK K
  try simp only [Act.put, List.setIfInBounds_toArray, List.set_cons_zero, List.set_cons_succ]
  refine wpAnyH_ready (rs := [11]) (by kernel_rfl) (by simp) (AllReadyH.cons (o := { dst := some 49, op := Op.call { callee := Callee.value (Operand.func 11), args := #[Operand.tmp 48], argTypes := #[25] }, type := 34, pos := "law.go:68", after := #[{ on := 10, ground := Ground.data }, { on := 9, ground := Ground.chain }, { on := 7, ground := Ground.guard }], guard := some (7, true) }) rfl (fun K hK => ?_) AllReadyH.nil)
  (go_simp; (go_at_call 11; (refine (St.call h72r7 (HRK.out _)).mono ?_); rintro e V3r7 ⟨rfl, h73r7⟩))
  refine hK.out _ _ ?_ (fun hHeld => ?_)
  · (first | exact h73r7 | exact h73r7.tl)
  clear hK K
  try simp only [Act.put, List.setIfInBounds_toArray, List.set_cons_zero, List.set_cons_succ]
  refine wpAnyH_take (i := 12) (oi := { dst := some 50, op := Op.binOp BinOp.eql 34 (Operand.tmp 47) (Operand.tmp 49) 34, type := 4, pos := "law.go:68", after := #[{ on := 9, ground := Ground.data }, { on := 11, ground := Ground.data }, { on := 7, ground := Ground.guard }], guard := some (7, true) }) rfl (by kernel_rfl) (by kernel_rfl) (by kernel_rfl) (fun _ _ _ h => h) (yields_op (by kernel_rfl) .eql 34 (.tmp 47) (.tmp 49) 34 rfl (.bool true) _ _ rfl rfl (eqGuard_at_string ..) (fun V => HKK.out V)) (by assumption) ?_
  try simp only [Act.put, List.setIfInBounds_toArray, List.set_cons_zero, List.set_cons_succ]
  refine wpAnyH_take (i := 13) (oi := { dst := some 51, op := Op.pick (Operand.tmp 45) (Operand.tmp 50) (Operand.const (Value.bool false)), type := 4, pos := "law.go:68", after := #[{ on := 7, ground := Ground.data }, { on := 12, ground := Ground.data }], guard := none }) (v := ?_) rfl (by kernel_rfl) (by kernel_rfl) (by kernel_rfl) (fun _ _ _ h => h) (Or.inl ⟨by kernel_rfl, ?_⟩) (by assumption) ?_
  rotate_left 1
  focus (intro w hSw; (try dsimp only at hSw); go_simp; (try with_reducible rfl))
  try simp only [Act.put, List.setIfInBounds_toArray, List.set_cons_zero, List.set_cons_succ]
  refine wpAnyH_take (i := 14) (oi := { dst := some 52, op := Op.move (Operand.tmp 51), type := 4, pos := "law.go:68", after := #[{ on := 13, ground := Ground.data }, { on := 11, ground := Ground.chain }], guard := none }) (v := ?_) rfl (by kernel_rfl) (by kernel_rfl) (by kernel_rfl) (fun _ _ _ h => h) (Or.inl ⟨by kernel_rfl, ?_⟩) (by assumption) ?_
  rotate_left 1
  focus (intro w hSw; (try dsimp only at hSw); go_simp; (try with_reducible rfl))
  try simp only [Act.put, List.setIfInBounds_toArray, List.set_cons_zero, List.set_cons_succ]
  refine wpAnyH_take (i := 15) (oi := { dst := some 53, op := Op.move (Operand.tmp 8), type := 28, pos := "law.go:68", after := #[{ on := 14, ground := Ground.guard }], guard := some (14, true) }) (v := ?_) rfl (by kernel_rfl) (by kernel_rfl) (by kernel_rfl) (fun _ _ _ h => h) (Or.inl ⟨by kernel_rfl, ?_⟩) (by assumption) ?_
  rotate_left 1
  focus (intro w hSw; (try dsimp only at hSw); go_simp; (try with_reducible rfl))
  try simp only [Act.put, List.setIfInBounds_toArray, List.set_cons_zero, List.set_cons_succ]
  refine wpAnyH_take (i := 16) (oi := { dst := some 54, op := Op.binOp BinOp.eql 28 (Operand.tmp 53) (Operand.const (Value.int IntKind.i64 0)) 28, type := 4, pos := "law.go:68", after := #[{ on := 15, ground := Ground.data }, { on := 14, ground := Ground.guard }], guard := some (14, true) }) (v := ?_) rfl (by kernel_rfl) (by kernel_rfl) (by kernel_rfl) (fun _ _ _ h => h) (Or.inl ⟨by kernel_rfl, ?_⟩) (by assumption) ?_
  rotate_left 1
  focus (intro w hSw; (try dsimp only at hSw); go_simp; (try with_reducible rfl))
  try simp only [Act.put, List.setIfInBounds_toArray, List.set_cons_zero, List.set_cons_succ]
  refine wpAnyH_take (i := 17) (oi := { dst := some 55, op := Op.pick (Operand.tmp 52) (Operand.tmp 54) (Operand.const (Value.bool false)), type := 4, pos := "law.go:68", after := #[{ on := 14, ground := Ground.data }, { on := 16, ground := Ground.data }], guard := none }) (v := ?_) rfl (by kernel_rfl) (by kernel_rfl) (by kernel_rfl) (fun _ _ _ h => h) (Or.inl ⟨by kernel_rfl, ?_⟩) (by assumption) ?_
  rotate_left 1
  focus (intro w hSw; (try dsimp only at hSw); go_simp; (try with_reducible rfl))
  try simp only [Act.put, List.setIfInBounds_toArray, List.set_cons_zero, List.set_cons_succ]
  refine wpAnyH_take (i := 18) (oi := { dst := some 56, op := Op.move (Operand.tmp 55), type := 4, pos := "law.go:68", after := #[{ on := 17, ground := Ground.data }, { on := 14, ground := Ground.chain }], guard := none }) (v := ?_) rfl (by kernel_rfl) (by kernel_rfl) (by kernel_rfl) (fun _ _ _ h => h) (Or.inl ⟨by kernel_rfl, ?_⟩) (by assumption) ?_
  rotate_left 1
  focus (intro w hSw; (try dsimp only at hSw); go_simp; (try with_reducible rfl))
  try simp only [Act.put, List.setIfInBounds_toArray, List.set_cons_zero, List.set_cons_succ]
  refine wpAnyH_take (i := 19) (oi := { dst := some 57, op := Op.load 25 (Operand.tmp 7), type := 25, pos := "law.go:68", after := #[{ on := 18, ground := Ground.guard }], guard := some (18, true) }) rfl (by kernel_rfl) (by kernel_rfl) (by kernel_rfl) (fun _ _ _ h => h) (yields_load (by kernel_rfl) 25 (.tmp 7) rfl (tv (A)) (fun V hV => ld (b := b7) (f := A) hV (by simp))) (by assumption) ?_
  try simp only [Act.put, List.setIfInBounds_toArray, List.set_cons_zero, List.set_cons_succ]
  refine wpAnyH_take (i := 20) (oi := { dst := some 58, op := Op.load 25 (Operand.tmp 2), type := 25, pos := "law.go:68", after := #[{ on := 18, ground := Ground.guard }], guard := some (18, true) }) rfl (by kernel_rfl) (by kernel_rfl) (by kernel_rfl) (fun _ _ _ h => h) (yields_load (by kernel_rfl) 25 (.tmp 2) rfl (tv (f)) (fun V hV => ld (b := w.heap.size) (f := f) hV (by simp))) (by assumption) ?_
  try simp only [Act.put, List.setIfInBounds_toArray, List.set_cons_zero, List.set_cons_succ]
  refine wpAnyH_take (i := 21) (oi := { dst := some 59, op := Op.binOp BinOp.eql 25 (Operand.tmp 57) (Operand.tmp 58) 25, type := 4, pos := "law.go:68", after := #[{ on := 19, ground := Ground.data }, { on := 20, ground := Ground.data }, { on := 18, ground := Ground.guard }], guard := some (18, true) }) rfl (by kernel_rfl) (by kernel_rfl) (by kernel_rfl) (fun _ _ _ h => h) (yields_bin (by kernel_rfl) .eql 25 (.tmp 57) (.tmp 58) 25 rfl _ _ rfl rfl guard_tile (.bool true) (fun V => HEA.out V)) (by assumption) ?_
  try simp only [Act.put, List.setIfInBounds_toArray, List.set_cons_zero, List.set_cons_succ]
  refine wpAnyH_take (i := 22) (oi := { dst := some 60, op := Op.pick (Operand.tmp 56) (Operand.tmp 59) (Operand.const (Value.bool false)), type := 4, pos := "law.go:68", after := #[{ on := 18, ground := Ground.data }, { on := 21, ground := Ground.data }], guard := none }) (v := ?_) rfl (by kernel_rfl) (by kernel_rfl) (by kernel_rfl) (fun _ _ _ h => h) (Or.inl ⟨by kernel_rfl, ?_⟩) (by assumption) ?_
  rotate_left 1
  focus (intro w hSw; (try dsimp only at hSw); go_simp; (try with_reducible rfl))
  try simp only [Act.put, List.setIfInBounds_toArray, List.set_cons_zero, List.set_cons_succ]
  refine wpAnyH_take (i := 23) (oi := { dst := some 61, op := Op.move (Operand.tmp 60), type := 4, pos := "law.go:68", after := #[{ on := 22, ground := Ground.data }, { on := 18, ground := Ground.chain }], guard := none }) (v := ?_) rfl (by kernel_rfl) (by kernel_rfl) (by kernel_rfl) (fun _ _ _ h => h) (Or.inl ⟨by kernel_rfl, ?_⟩) (by assumption) ?_
  rotate_left 1
  focus (intro w hSw; (try dsimp only at hSw); go_simp; (try with_reducible rfl))
  try simp only [Act.put, List.setIfInBounds_toArray, List.set_cons_zero, List.set_cons_succ]
  refine wpAnyH_take (i := 24) (oi := { dst := some 62, op := Op.move (Operand.tmp 10), type := 28, pos := "law.go:68", after := #[{ on := 23, ground := Ground.guard }], guard := some (23, true) }) (v := ?_) rfl (by kernel_rfl) (by kernel_rfl) (by kernel_rfl) (fun _ _ _ h => h) (Or.inl ⟨by kernel_rfl, ?_⟩) (by assumption) ?_
  rotate_left 1
  focus (intro w hSw; (try dsimp only at hSw); go_simp; (try with_reducible rfl))
  try simp only [Act.put, List.setIfInBounds_toArray, List.set_cons_zero, List.set_cons_succ]
  refine wpAnyH_take (i := 25) (oi := { dst := some 63, op := Op.fieldAddr 32 (Operand.tmp 13) 1, type := 0, pos := "law.go:68", after := #[{ on := 23, ground := Ground.guard }], guard := some (23, true) }) (v := ?_) rfl (by kernel_rfl) (by kernel_rfl) (by kernel_rfl) (fun _ _ _ h => h) (Or.inl ⟨by kernel_rfl, ?_⟩) (by assumption) ?_
  rotate_left 1
  focus (intro w hSw; (try dsimp only at hSw); go_simp; (try with_reducible rfl))
  try simp only [Act.put, List.setIfInBounds_toArray, List.set_cons_zero, List.set_cons_succ]
  refine wpAnyH_take (i := 26) (oi := { dst := some 64, op := Op.load 28 (Operand.tmp 63), type := 28, pos := "law.go:68", after := #[{ on := 25, ground := Ground.data }, { on := 23, ground := Ground.guard }], guard := some (23, true) }) rfl (by kernel_rfl) (by kernel_rfl) (by kernel_rfl) (fun _ _ _ h => h) (yields_load (by kernel_rfl) 28 (.tmp 63) rfl (.int .i64 E) (fun V hV => ld_gotE (g := B) hV (by simp))) (by assumption) ?_
  try simp only [Act.put, List.setIfInBounds_toArray, List.set_cons_zero, List.set_cons_succ]
  refine wpAnyH_take (i := 27) (oi := { dst := some 65, op := Op.binOp BinOp.eql 28 (Operand.tmp 62) (Operand.tmp 64) 28, type := 4, pos := "law.go:68", after := #[{ on := 24, ground := Ground.data }, { on := 26, ground := Ground.data }, { on := 23, ground := Ground.guard }], guard := some (23, true) }) (v := ?_) rfl (by kernel_rfl) (by kernel_rfl) (by kernel_rfl) (fun _ _ _ h => h) (Or.inl ⟨by kernel_rfl, ?_⟩) (by assumption) ?_
  rotate_left 1
  focus (intro w hSw; (try dsimp only at hSw); go_simp; (try with_reducible rfl))
  try simp only [Act.put, List.setIfInBounds_toArray, List.set_cons_zero, List.set_cons_succ]
  refine wpAnyH_take (i := 28) (oi := { dst := some 66, op := Op.pick (Operand.tmp 61) (Operand.tmp 65) (Operand.const (Value.bool false)), type := 4, pos := "law.go:68", after := #[{ on := 23, ground := Ground.data }, { on := 27, ground := Ground.data }], guard := none }) (v := ?_) rfl (by kernel_rfl) (by kernel_rfl) (by kernel_rfl) (fun _ _ _ h => h) (Or.inl ⟨by kernel_rfl, ?_⟩) (by assumption) ?_
  rotate_left 1
  focus (intro w hSw; (try dsimp only at hSw); go_simp; (try with_reducible rfl))
  try simp only [Act.put, List.setIfInBounds_toArray, List.set_cons_zero, List.set_cons_succ]
  refine wpAnyH_take (i := 29) (oi := { dst := some 67, op := Op.move (Operand.tmp 66), type := 4, pos := "law.go:68", after := #[{ on := 28, ground := Ground.data }, { on := 23, ground := Ground.chain }], guard := none }) (v := ?_) rfl (by kernel_rfl) (by kernel_rfl) (by kernel_rfl) (fun _ _ _ h => h) (Or.inl ⟨by kernel_rfl, ?_⟩) (by assumption) ?_
  rotate_left 1
  focus (intro w hSw; (try dsimp only at hSw); go_simp; (try with_reducible rfl))
  try simp only [Act.put, List.setIfInBounds_toArray, List.set_cons_zero, List.set_cons_succ]
  refine wpAnyH_take (i := 30) (oi := { dst := some 68, op := Op.load 25 (Operand.tmp 9), type := 25, pos := "law.go:68", after := #[{ on := 29, ground := Ground.guard }], guard := some (29, true) }) rfl (by kernel_rfl) (by kernel_rfl) (by kernel_rfl) (fun _ _ _ h => h) (yields_load (by kernel_rfl) 25 (.tmp 9) rfl (tv (B)) (fun V hV => ld (b := b9) (f := B) hV (by simp))) (by assumption) ?_
  try simp only [Act.put, List.setIfInBounds_toArray, List.set_cons_zero, List.set_cons_succ]
  refine wpAnyH_take (i := 31) (oi := { dst := some 69, op := Op.fieldAddr 32 (Operand.tmp 13) 0, type := 0, pos := "law.go:68", after := #[{ on := 29, ground := Ground.guard }], guard := some (29, true) }) (v := ?_) rfl (by kernel_rfl) (by kernel_rfl) (by kernel_rfl) (fun _ _ _ h => h) (Or.inl ⟨by kernel_rfl, ?_⟩) (by assumption) ?_
  rotate_left 1
  focus (intro w hSw; (try dsimp only at hSw); go_simp; (try with_reducible rfl))
  try simp only [Act.put, List.setIfInBounds_toArray, List.set_cons_zero, List.set_cons_succ]
  refine wpAnyH_take (i := 32) (oi := { dst := some 70, op := Op.load 25 (Operand.tmp 69), type := 25, pos := "law.go:68", after := #[{ on := 31, ground := Ground.data }, { on := 29, ground := Ground.guard }], guard := some (29, true) }) rfl (by kernel_rfl) (by kernel_rfl) (by kernel_rfl) (fun _ _ _ h => h) (yields_load (by kernel_rfl) 25 (.tmp 69) rfl (tv B) (fun V hV => ld_gotT (b := b13) (x := E) hV (by simp))) (by assumption) ?_
  try simp only [Act.put, List.setIfInBounds_toArray, List.set_cons_zero, List.set_cons_succ]
  refine wpAnyH_take (i := 33) (oi := { dst := some 71, op := Op.binOp BinOp.eql 25 (Operand.tmp 68) (Operand.tmp 70) 25, type := 4, pos := "law.go:68", after := #[{ on := 30, ground := Ground.data }, { on := 32, ground := Ground.data }, { on := 29, ground := Ground.guard }], guard := some (29, true) }) rfl (by kernel_rfl) (by kernel_rfl) (by kernel_rfl) (fun _ _ _ h => h) (yields_bin (by kernel_rfl) .eql 25 (.tmp 68) (.tmp 70) 25 rfl _ _ rfl rfl guard_tile (.bool true) (fun V => HEB.out V)) (by assumption) ?_
  try simp only [Act.put, List.setIfInBounds_toArray, List.set_cons_zero, List.set_cons_succ]
  refine wpAnyH_take (i := 34) (oi := { dst := some 72, op := Op.pick (Operand.tmp 67) (Operand.tmp 71) (Operand.const (Value.bool false)), type := 4, pos := "law.go:68", after := #[{ on := 29, ground := Ground.data }, { on := 33, ground := Ground.data }], guard := none }) (v := ?_) rfl (by kernel_rfl) (by kernel_rfl) (by kernel_rfl) (fun _ _ _ h => h) (Or.inl ⟨by kernel_rfl, ?_⟩) (by assumption) ?_
  rotate_left 1
  focus (intro w hSw; (try dsimp only at hSw); go_simp; (try with_reducible rfl))
  try simp only [Act.put, List.setIfInBounds_toArray, List.set_cons_zero, List.set_cons_succ]
  refine wpAnyH_take (i := 35) (oi := { dst := some 73, op := Op.move (Operand.tmp 72), type := 4, pos := "law.go:68", after := #[{ on := 34, ground := Ground.data }, { on := 29, ground := Ground.chain }], guard := none }) (v := ?_) rfl (by kernel_rfl) (by kernel_rfl) (by kernel_rfl) (fun _ _ _ h => h) (Or.inl ⟨by kernel_rfl, ?_⟩) (by assumption) ?_
  rotate_left 1
  focus (intro w hSw; (try dsimp only at hSw); go_simp; (try with_reducible rfl))
  try simp only [Act.put, List.setIfInBounds_toArray, List.set_cons_zero, List.set_cons_succ]
  refine wpAnyH_take (i := 36) (oi := { dst := some 74, op := Op.move (Operand.tmp 12), type := 28, pos := "law.go:68", after := #[{ on := 35, ground := Ground.guard }], guard := some (35, true) }) (v := ?_) rfl (by kernel_rfl) (by kernel_rfl) (by kernel_rfl) (fun _ _ _ h => h) (Or.inl ⟨by kernel_rfl, ?_⟩) (by assumption) ?_
  rotate_left 1
  focus (intro w hSw; (try dsimp only at hSw); go_simp; (try with_reducible rfl))
  try simp only [Act.put, List.setIfInBounds_toArray, List.set_cons_zero, List.set_cons_succ]
  refine wpAnyH_take (i := 37) (oi := { dst := some 75, op := Op.binOp BinOp.eql 28 (Operand.tmp 74) (Operand.const (Value.int IntKind.i64 11)) 28, type := 4, pos := "law.go:68", after := #[{ on := 36, ground := Ground.data }, { on := 35, ground := Ground.guard }], guard := some (35, true) }) (v := ?_) rfl (by kernel_rfl) (by kernel_rfl) (by kernel_rfl) (fun _ _ _ h => h) (Or.inl ⟨by kernel_rfl, ?_⟩) (by assumption) ?_
  rotate_left 1
  focus (intro w hSw; (try dsimp only at hSw); go_simp; (try with_reducible rfl))
  try simp only [Act.put, List.setIfInBounds_toArray, List.set_cons_zero, List.set_cons_succ]
  refine wpAnyH_take (i := 38) (oi := { dst := some 76, op := Op.pick (Operand.tmp 73) (Operand.tmp 75) (Operand.const (Value.bool false)), type := 4, pos := "law.go:68", after := #[{ on := 35, ground := Ground.data }, { on := 37, ground := Ground.data }], guard := none }) (v := ?_) rfl (by kernel_rfl) (by kernel_rfl) (by kernel_rfl) (fun _ _ _ h => h) (Or.inl ⟨by kernel_rfl, ?_⟩) (by assumption) ?_
  rotate_left 1
  focus (intro w hSw; (try dsimp only at hSw); go_simp; (try with_reducible rfl))
  try simp only [Act.put, List.setIfInBounds_toArray, List.set_cons_zero, List.set_cons_succ]
  refine wpAnyH_take (i := 39) (oi := { dst := some 77, op := Op.move (Operand.tmp 76), type := 4, pos := "law.go:68", after := #[{ on := 38, ground := Ground.data }, { on := 35, ground := Ground.chain }], guard := none }) (v := ?_) rfl (by kernel_rfl) (by kernel_rfl) (by kernel_rfl) (fun _ _ _ h => h) (Or.inl ⟨by kernel_rfl, ?_⟩) (by assumption) ?_
  rotate_left 1
  focus (intro w hSw; (try dsimp only at hSw); go_simp; (try with_reducible rfl))
  try simp only [Act.put, List.setIfInBounds_toArray, List.set_cons_zero, List.set_cons_succ]
  refine wpAnyH_take (i := 40) (oi := { dst := some 78, op := Op.load 25 (Operand.tmp 11), type := 25, pos := "law.go:68", after := #[{ on := 39, ground := Ground.guard }], guard := some (39, true) }) rfl (by kernel_rfl) (by kernel_rfl) (by kernel_rfl) (fun _ _ _ h => h) (yields_load (by kernel_rfl) 25 (.tmp 11) rfl (tv (z0)) (fun V hV => ld (b := b11) (f := z0) hV (by simp))) (by assumption) ?_
  try simp only [Act.put, List.setIfInBounds_toArray, List.set_cons_zero, List.set_cons_succ]
  refine wpAnyH_take (i := 41) (oi := { dst := some 79, op := Op.build 25 #[], type := 25, pos := "law.go:68", after := #[{ on := 39, ground := Ground.guard }], guard := some (39, true) }) rfl (by kernel_rfl) (by kernel_rfl) (by kernel_rfl) (fun _ _ _ h => h) (yields_build0 (by kernel_rfl) 25 rfl (tv z0) (fun V => built0 V)) (by assumption) ?_
  try simp only [Act.put, List.setIfInBounds_toArray, List.set_cons_zero, List.set_cons_succ]
  refine wpAnyH_take (i := 42) (oi := { dst := some 80, op := Op.binOp BinOp.eql 25 (Operand.tmp 78) (Operand.tmp 79) 25, type := 4, pos := "law.go:68", after := #[{ on := 40, ground := Ground.data }, { on := 41, ground := Ground.data }, { on := 39, ground := Ground.guard }], guard := some (39, true) }) rfl (by kernel_rfl) (by kernel_rfl) (by kernel_rfl) (fun _ _ _ h => h) (yields_bin (by kernel_rfl) .eql 25 (.tmp 78) (.tmp 79) 25 rfl _ _ rfl rfl guard_tile (.bool true) (fun V => HEZ.out V)) (by assumption) ?_
  try simp only [Act.put, List.setIfInBounds_toArray, List.set_cons_zero, List.set_cons_succ]
  refine wpAnyH_take (i := 43) (oi := { dst := some 81, op := Op.pick (Operand.tmp 77) (Operand.tmp 80) (Operand.const (Value.bool false)), type := 4, pos := "law.go:68", after := #[{ on := 39, ground := Ground.data }, { on := 42, ground := Ground.data }], guard := none }) (v := ?_) rfl (by kernel_rfl) (by kernel_rfl) (by kernel_rfl) (fun _ _ _ h => h) (Or.inl ⟨by kernel_rfl, ?_⟩) (by assumption) ?_
  rotate_left 1
  focus (intro w hSw; (try dsimp only at hSw); go_simp; (try with_reducible rfl))
  try simp only [Act.put, List.setIfInBounds_toArray, List.set_cons_zero, List.set_cons_succ]
  refine wpAnyH_take (i := 44) (oi := { dst := some 4, op := Op.assign (Operand.tmp 81), type := 4, pos := "law.go:68", after := #[{ on := 43, ground := Ground.data }, { on := 39, ground := Ground.chain }, { on := 0, ground := Ground.phase }, { on := 1, ground := Ground.phase }, { on := 2, ground := Ground.phase }, { on := 3, ground := Ground.phase }, { on := 4, ground := Ground.phase }, { on := 5, ground := Ground.phase }, { on := 6, ground := Ground.phase }, { on := 7, ground := Ground.phase }, { on := 8, ground := Ground.phase }, { on := 9, ground := Ground.phase }, { on := 10, ground := Ground.phase }, { on := 11, ground := Ground.phase }, { on := 12, ground := Ground.phase }, { on := 13, ground := Ground.phase }, { on := 14, ground := Ground.phase }, { on := 15, ground := Ground.phase }, { on := 16, ground := Ground.phase }, { on := 17, ground := Ground.phase }, { on := 18, ground := Ground.phase }, { on := 19, ground := Ground.phase }, { on := 20, ground := Ground.phase }, { on := 21, ground := Ground.phase }, { on := 22, ground := Ground.phase }, { on := 23, ground := Ground.phase }, { on := 24, ground := Ground.phase }, { on := 25, ground := Ground.phase }, { on := 26, ground := Ground.phase }, { on := 27, ground := Ground.phase }, { on := 28, ground := Ground.phase }, { on := 29, ground := Ground.phase }, { on := 30, ground := Ground.phase }, { on := 31, ground := Ground.phase }, { on := 32, ground := Ground.phase }, { on := 33, ground := Ground.phase }, { on := 34, ground := Ground.phase }, { on := 35, ground := Ground.phase }, { on := 36, ground := Ground.phase }, { on := 37, ground := Ground.phase }, { on := 38, ground := Ground.phase }, { on := 39, ground := Ground.phase }, { on := 40, ground := Ground.phase }, { on := 41, ground := Ground.phase }, { on := 42, ground := Ground.phase }, { on := 43, ground := Ground.phase }], guard := none }) (v := ?_) rfl (by kernel_rfl) (by kernel_rfl) (by kernel_rfl) (fun _ _ _ h => h) (Or.inl ⟨by kernel_rfl, ?_⟩) (by assumption) ?_
  rotate_left 1
  focus (intro w hSw; (try dsimp only at hSw); go_simp; (try with_reducible rfl))
  try simp only [Act.put, List.setIfInBounds_toArray, List.set_cons_zero, List.set_cons_succ]
  refine wpAnyH_done (by kernel_rfl) ?_ _
  have HB := Lib.hid h73r7.below
  go_wp2_with fail
  go_ret
  exact ⟨rfl, HB.out⟩

theorem okin (W : World) (base : Nat) : Input.okWide Tryd.checked.prog W .any base 3 ⟨#[], #[tv z0, .string ByteArray.empty], []⟩ := by
  refine ⟨by simp, by simp, by kernel_rfl, Tryd.f3, Tryd.func3, by kernel_rfl, by kernel_rfl, by kernel_rfl, by rw [Tryd.params3]; rfl, ?_⟩
  intro j t v ht hv
  rw [Tryd.params3] at ht
  match j with
  | 0 => cases (Option.some.inj ht); cases (Option.some.inj hv); exact ok_tile W base
  | 1 => cases (Option.some.inj ht); cases (Option.some.inj hv); exact ok_str W base
  | j + 2 => simp at ht
set_option maxRecDepth 100000 in
theorem lifted (os : Os) (started : os.Started) (H : Type) (enc : TypeId × Value → H) :
    ReturnsInHanded {} Tryd.checked os 3 .any (fun w args => (Rows.tileBytesSpec.pre enc Tryd.prog Tryd.f3 [] false w args ∧ laidMetH Tryd.prog laid1 w) ∧ sizedMet enc Tryd.prog Tryd.f3 (OpenSpec.ofChange Rows.tileBytesSpec) false w args) (Rows.tileBytesSpec.post enc Tryd.prog Tryd.f3 false true false false) := by
  refine returnsInHanded_of_change_and (C := Tryd.checked) (X := fun w _ => laidMetH Tryd.prog laid1 w) (fun _ _ _ hh h => h.of_heap hh) own started (by kernel_rfl) Tryd.func3
    (witness8 (enc := enc) (C := Tryd.checked) (os := os) (X := fun w _ => laidMetH Tryd.prog laid1 w) false (World.doorLaid Tryd.prog 400 os) #[tv z0, .string ByteArray.empty] 8 rfl (World.shaped_of_RefB (by kernel_rfl) (by kernel_rfl)) (fun W base => okin W base) (by kernel_rfl) (by kernel_rfl) (door_met os _)) ?_
  intro W base args ds gs before hval0 hW _ hsz0 hL _
  have hval : ∀ (j : Nat) t v, Tryd.f3.params[j]? = some t → args[j]? = some v → Value.okWide Tryd.prog W .any base t v := hval0
  have hsz : (DataW.weightsEach Tryd.prog (Tryd.f3.params.toList ++ Rows.tileBytesSpec.plain.varTypes Tryd.prog) (ds ++ gs)).all (· ≤ reachBytes) = true := hsz0
  have hW' := hW
  obtain ⟨p, q, hA0, hV, rfl, hfz, hnd⟩ := hW
  have hA : DataW.TrodAll enc Tryd.prog W 0 (fun _ => true) true Tryd.f3.params.toList args.toList ds p := hA0
  rw [Tryd.params3] at hA hval hsz
  obtain ⟨v0, v1, d0, d1, p0, p1, rfl, rfl, rfl, h0, h1⟩ := trodAll_two hA
  obtain ⟨rfl, rfl⟩ := trodVars_none hV
  obtain ⟨f, rfl, hf⟩ := open_tile (hval 0 25 v0 rfl rfl)
  obtain ⟨s, rfl, rfl, rfl, _⟩ := Go.ChangeMaps.open_string Tryd.underlying9 (hval 1 9 v1 rfl rfl) h1
  have hs : s.size ≤ 140737488355328 := by have h := sized_string hsz (j := 1) (t := 9) rfl rfl; rw [Array.length_toList] at h; exact Nat.le_trans h (by decide)
  refine (walk f s W (kt_of_laid hL) hf hs).mono fun e W' ⟨he, hb⟩ => ?_
  subst he
  exact ⟨_, rfl, law_post hW' rfl (by kernel_rfl) rfl (by intro t ht; rw [Tryd.params3] at ht; simp at ht; rcases ht with rfl | rfl <;> exact ⟨by kernel_rfl, of_decide_eq_true (by kernel_rfl)⟩) hb⟩

theorem holds : Rows.TileBytesSaid :=
  OpenClaim.holds_of_wide 3 Tryd.f3 rfl rfl rfl rfl rfl rfl rfl ⟨rfl, rfl, rfl, rfl, rfl⟩ rfl rfl rfl rfl rfl (by kernel_rfl) Tryd.func3 (by kernel_rfl)
    (of_decide_eq_true (by kernel_rfl)) (by unfold Func.isWrapper; first | (rw [if_pos (by decide +kernel)]; kernel_rfl) | (rw [if_neg (by decide +kernel)]; exact ⟨rfl, rfl⟩))
    (fun os started H enc _ => lifted os started H enc)

theorem card_holds : Rows.TileBytesCardSaid :=
  Claim7.holds_tied_plain_at .later [] [.data] true Rows.tileBytesCard.stood.harness false
    holds (fun _ h => by cases h) (by kernel_rfl) (fun _ h => by cases h) tileBytes_row_tie rfl ⟨rfl, rfl⟩ (by kernel_rfl) rfl
    (fun f fn hf hfn => by
      obtain rfl : f = 3 := Option.some.inj ((show Tryd.prog.funcNamed Rows.tileBytesRow.func = some 3 by kernel_rfl).symm.trans hf) |>.symm
      obtain rfl : fn = Tryd.f3 := (Option.some.inj (Tryd.func3.symm.trans hfn)).symm
      exact ⟨by kernel_rfl, fun j t ht => by
        rw [Tryd.params3] at ht
        have hm : t ∈ [25, 9] := by simpa using Array.mem_of_getElem? ht
        have hall : ([25, 9].all fun u => !Tryd.prog.wantsStandIn u) = true := by kernel_rfl
        exact (show Tryd.prog.wantsStandIn t = false by simpa using List.all_eq_true.1 hall t hm)⟩)
    (by kernel_rfl)
end Go.Proofs.YtligojllbnahcaaDoor.T.TLBytes
