/-
  For every square of four tiles, Halve returns what the reference returns.
-/
import Derived.Test.YtkomknhloimhcaaTLaw
namespace Go.Proofs.Ytkomknhloimhcaa.T.TLHalve
open Go.ChangeShapes Go.WideShapes Go.ChangeAt Go.RowKit Go.Shelf

theorem sub_pc {G : Nat → Px} (hG : ∀ i, i < 256 → Pc (G i)) (q i : Nat) (hq : q < 4) (hi : i < 64) : Pc (sub4 G q i) := hG _ (by omega)
theorem sq_pcs {a b c d : Nat → Px} (ha : ∀ i, i < 64 → Pc (a i)) (hb : ∀ i, i < 64 → Pc (b i)) (hc : ∀ i, i < 64 → Pc (c i)) (hd : ∀ i, i < 64 → Pc (d i)) (k : Nat) (hk : k < 256) : Pc (sqG a b c d k) := by
  unfold sqG app
  by_cases h0 : k < 128
  · rw [if_pos h0]
    by_cases h1 : k < 64
    · rw [if_pos h1]; exact ha k h1
    · rw [if_neg h1]; exact hb _ (by omega)
  · rw [if_neg h0]
    by_cases h1 : k - 128 < 64
    · rw [if_pos h1]; exact hc _ h1
    · rw [if_neg h1]; exact hd _ (by omega)

set_option maxHeartbeats 8000000 in
set_option maxRecDepth 100000 in
theorem walk (G : Nat → Px) (w : World) (hG : ∀ i, i < 256 → Pc (G i)) : Calls Try.prog 6 #[.agg (fc 256 G)] w fun e w' => e = .returned (.bool true) ∧ Below w.heap.size w w' := by
  have hs := (St.start w).alloc (sq4 G)
  have HPC := Lib.hid (sq_pcs (sub_pc hG 0 · (by omega)) (sub_pc hG 1 · (by omega)) (sub_pc hG 2 · (by omega)) (sub_pc hG 3 · (by omega)))
  have HE1 := Lib.hid (eqlTT (f := fun i => m4 (four (sqG (sub4 G 0) (sub4 G 1) (sub4 G 2) (sub4 G 3)) i)) (g := fun i => m4 (four (sqG (sub4 G 0) (sub4 G 1) (sub4 G 2) (sub4 G 3)) i)) (fun _ _ => rfl))
  have hi0 : ∀ W, (Instr.indexAt 43 (.pointer (some ⟨w.heap.size, 0, none⟩)) (.int .i64 0)).run Try.prog W = .ok (.pointer (some ⟨w.heap.size, 0, none⟩)) W := fun W => index_at (t := 43) (n := 4) Try.underlying43 size_tile (w.heap.size) 0 0 0 (by omega) (by omega) W
  have hi1 : ∀ W, (Instr.indexAt 43 (.pointer (some ⟨w.heap.size, 0, none⟩)) (.int .i64 1)).run Try.prog W = .ok (.pointer (some ⟨w.heap.size, 256, none⟩)) W := fun W => index_at (t := 43) (n := 4) Try.underlying43 size_tile (w.heap.size) 0 1 1 (by omega) (by omega) W
  have hi2 : ∀ W, (Instr.indexAt 43 (.pointer (some ⟨w.heap.size, 0, none⟩)) (.int .i64 2)).run Try.prog W = .ok (.pointer (some ⟨w.heap.size, 512, none⟩)) W := fun W => index_at (t := 43) (n := 4) Try.underlying43 size_tile (w.heap.size) 0 2 2 (by omega) (by omega) W
  have hi3 : ∀ W, (Instr.indexAt 43 (.pointer (some ⟨w.heap.size, 0, none⟩)) (.int .i64 3)).run Try.prog W = .ok (.pointer (some ⟨w.heap.size, 768, none⟩)) W := fun W => index_at (t := 43) (n := 4) Try.underlying43 size_tile (w.heap.size) 0 3 3 (by omega) (by omega) W
  clear hG
  go_enter Try.func6, Try.ntmps6
  go_upto_region 2 with (go_at_call 11; (refine (St.call hs (sane_any _)).mono ?_); rintro e V1 ⟨rfl, h1⟩)
  clear hs
  refine wp_region_held_drew (S := fun V9 => St w [(w.heap.size, sq4 G)] V9) (by kernel_rfl) ?_ (fun hHeld => ?_)
  · exact h1.drew
  have h10 := h1.drew
  refine wpAnyH_take (i := 0) (oi := { dst := some 5, op := Op.move (Operand.tmp 3), type := 4, pos := "law.go:74", after := #[], guard := none }) (v := ?_) rfl (by kernel_rfl) (by kernel_rfl) (by kernel_rfl) (fun _ _ _ h => h) (Or.inl ⟨by kernel_rfl, ?_⟩) (by assumption) ?_
  rotate_left 1
  focus (intro w hSw; (try dsimp only at hSw); go_simp; (try with_reducible rfl))
  try simp only [Act.put, List.setIfInBounds_toArray, List.set_cons_zero, List.set_cons_succ]
  refine wpAnyH_take (i := 1) (oi := { dst := some 6, op := Op.move (Operand.tmp 5), type := 4, pos := "law.go:74", after := #[{ on := 0, ground := Ground.data }], guard := none }) (v := ?_) rfl (by kernel_rfl) (by kernel_rfl) (by kernel_rfl) (fun _ _ _ h => h) (Or.inl ⟨by kernel_rfl, ?_⟩) (by assumption) ?_
  rotate_left 1
  focus (intro w hSw; (try dsimp only at hSw); go_simp; (try with_reducible rfl))
  try simp only [Act.put, List.setIfInBounds_toArray, List.set_cons_zero, List.set_cons_succ]
  refine wpAnyH_take (i := 2) (oi := { dst := some 7, op := Op.indexAddr 43 (Operand.tmp 1) (Operand.const (Value.int IntKind.i64 0)), type := 0, pos := "law.go:74", after := #[{ on := 1, ground := Ground.guard }], guard := some (1, true) }) (v := ?_) rfl (by kernel_rfl) (by kernel_rfl) (by kernel_rfl) (fun _ _ _ h => h) (Or.inl ⟨by kernel_rfl, ?_⟩) (by assumption) ?_
  rotate_left 1
  focus (intro w hSw; (try dsimp only at hSw); go_simp; (try with_reducible rfl))
  try simp only [Act.put, List.setIfInBounds_toArray, List.set_cons_zero, List.set_cons_succ]
  refine wpAnyH_take (i := 3) (oi := { dst := some 8, op := Op.load 25 (Operand.tmp 7), type := 25, pos := "law.go:74", after := #[{ on := 2, ground := Ground.data }, { on := 1, ground := Ground.guard }], guard := some (1, true) }) rfl (by kernel_rfl) (by kernel_rfl) (by kernel_rfl) (fun _ _ _ h => h) (yields_load (by kernel_rfl) 25 (.tmp 7) rfl (tv (sub4 G 0)) (fun V hV => load_tmid (w.heap.size) 0 G V (by omega) (hV.row (b := w.heap.size) (o := sq4 G) (by simp)))) (by assumption) ?_
  try simp only [Act.put, List.setIfInBounds_toArray, List.set_cons_zero, List.set_cons_succ]
  refine wpAnyH_take (i := 4) (oi := { dst := some 9, op := Op.indexAddr 43 (Operand.tmp 1) (Operand.const (Value.int IntKind.i64 1)), type := 0, pos := "law.go:74", after := #[{ on := 1, ground := Ground.guard }], guard := some (1, true) }) (v := ?_) rfl (by kernel_rfl) (by kernel_rfl) (by kernel_rfl) (fun _ _ _ h => h) (Or.inl ⟨by kernel_rfl, ?_⟩) (by assumption) ?_
  rotate_left 1
  focus (intro w hSw; (try dsimp only at hSw); go_simp; (try with_reducible rfl))
  try simp only [Act.put, List.setIfInBounds_toArray, List.set_cons_zero, List.set_cons_succ]
  refine wpAnyH_take (i := 5) (oi := { dst := some 10, op := Op.load 25 (Operand.tmp 9), type := 25, pos := "law.go:74", after := #[{ on := 4, ground := Ground.data }, { on := 1, ground := Ground.guard }], guard := some (1, true) }) rfl (by kernel_rfl) (by kernel_rfl) (by kernel_rfl) (fun _ _ _ h => h) (yields_load (by kernel_rfl) 25 (.tmp 9) rfl (tv (sub4 G 1)) (fun V hV => load_tmid (w.heap.size) 1 G V (by omega) (hV.row (b := w.heap.size) (o := sq4 G) (by simp)))) (by assumption) ?_
  try simp only [Act.put, List.setIfInBounds_toArray, List.set_cons_zero, List.set_cons_succ]
  refine wpAnyH_take (i := 6) (oi := { dst := some 11, op := Op.indexAddr 43 (Operand.tmp 1) (Operand.const (Value.int IntKind.i64 2)), type := 0, pos := "law.go:74", after := #[{ on := 1, ground := Ground.guard }], guard := some (1, true) }) (v := ?_) rfl (by kernel_rfl) (by kernel_rfl) (by kernel_rfl) (fun _ _ _ h => h) (Or.inl ⟨by kernel_rfl, ?_⟩) (by assumption) ?_
  rotate_left 1
  focus (intro w hSw; (try dsimp only at hSw); go_simp; (try with_reducible rfl))
  try simp only [Act.put, List.setIfInBounds_toArray, List.set_cons_zero, List.set_cons_succ]
  refine wpAnyH_take (i := 7) (oi := { dst := some 12, op := Op.load 25 (Operand.tmp 11), type := 25, pos := "law.go:74", after := #[{ on := 6, ground := Ground.data }, { on := 1, ground := Ground.guard }], guard := some (1, true) }) rfl (by kernel_rfl) (by kernel_rfl) (by kernel_rfl) (fun _ _ _ h => h) (yields_load (by kernel_rfl) 25 (.tmp 11) rfl (tv (sub4 G 2)) (fun V hV => load_tmid (w.heap.size) 2 G V (by omega) (hV.row (b := w.heap.size) (o := sq4 G) (by simp)))) (by assumption) ?_
  try simp only [Act.put, List.setIfInBounds_toArray, List.set_cons_zero, List.set_cons_succ]
  refine wpAnyH_take (i := 8) (oi := { dst := some 13, op := Op.indexAddr 43 (Operand.tmp 1) (Operand.const (Value.int IntKind.i64 3)), type := 0, pos := "law.go:74", after := #[{ on := 1, ground := Ground.guard }], guard := some (1, true) }) (v := ?_) rfl (by kernel_rfl) (by kernel_rfl) (by kernel_rfl) (fun _ _ _ h => h) (Or.inl ⟨by kernel_rfl, ?_⟩) (by assumption) ?_
  rotate_left 1
  focus (intro w hSw; (try dsimp only at hSw); go_simp; (try with_reducible rfl))
  try simp only [Act.put, List.setIfInBounds_toArray, List.set_cons_zero, List.set_cons_succ]
  refine wpAnyH_take (i := 9) (oi := { dst := some 14, op := Op.load 25 (Operand.tmp 13), type := 25, pos := "law.go:74", after := #[{ on := 8, ground := Ground.data }, { on := 1, ground := Ground.guard }], guard := some (1, true) }) rfl (by kernel_rfl) (by kernel_rfl) (by kernel_rfl) (fun _ _ _ h => h) (yields_load (by kernel_rfl) 25 (.tmp 13) rfl (tv (sub4 G 3)) (fun V hV => load_tmid (w.heap.size) 3 G V (by omega) (hV.row (b := w.heap.size) (o := sq4 G) (by simp)))) (by assumption) ?_
  try simp only [Act.put, List.setIfInBounds_toArray, List.set_cons_zero, List.set_cons_succ]
  refine wpAnyH_take (i := 11) (oi := { dst := some 16, op := Op.indexAddr 43 (Operand.tmp 1) (Operand.const (Value.int IntKind.i64 0)), type := 0, pos := "law.go:74", after := #[{ on := 1, ground := Ground.guard }], guard := some (1, true) }) (v := ?_) rfl (by kernel_rfl) (by kernel_rfl) (by kernel_rfl) (fun _ _ _ h => h) (Or.inl ⟨by kernel_rfl, ?_⟩) (by assumption) ?_
  rotate_left 1
  focus (intro w hSw; (try dsimp only at hSw); go_simp; (try with_reducible rfl))
  try simp only [Act.put, List.setIfInBounds_toArray, List.set_cons_zero, List.set_cons_succ]
  refine wpAnyH_take (i := 12) (oi := { dst := some 17, op := Op.load 25 (Operand.tmp 16), type := 25, pos := "law.go:74", after := #[{ on := 11, ground := Ground.data }, { on := 1, ground := Ground.guard }], guard := some (1, true) }) rfl (by kernel_rfl) (by kernel_rfl) (by kernel_rfl) (fun _ _ _ h => h) (yields_load (by kernel_rfl) 25 (.tmp 16) rfl (tv (sub4 G 0)) (fun V hV => load_tmid (w.heap.size) 0 G V (by omega) (hV.row (b := w.heap.size) (o := sq4 G) (by simp)))) (by assumption) ?_
  try simp only [Act.put, List.setIfInBounds_toArray, List.set_cons_zero, List.set_cons_succ]
  refine wpAnyH_take (i := 13) (oi := { dst := some 18, op := Op.indexAddr 43 (Operand.tmp 1) (Operand.const (Value.int IntKind.i64 1)), type := 0, pos := "law.go:74", after := #[{ on := 1, ground := Ground.guard }], guard := some (1, true) }) (v := ?_) rfl (by kernel_rfl) (by kernel_rfl) (by kernel_rfl) (fun _ _ _ h => h) (Or.inl ⟨by kernel_rfl, ?_⟩) (by assumption) ?_
  rotate_left 1
  focus (intro w hSw; (try dsimp only at hSw); go_simp; (try with_reducible rfl))
  try simp only [Act.put, List.setIfInBounds_toArray, List.set_cons_zero, List.set_cons_succ]
  refine wpAnyH_take (i := 14) (oi := { dst := some 19, op := Op.load 25 (Operand.tmp 18), type := 25, pos := "law.go:74", after := #[{ on := 13, ground := Ground.data }, { on := 1, ground := Ground.guard }], guard := some (1, true) }) rfl (by kernel_rfl) (by kernel_rfl) (by kernel_rfl) (fun _ _ _ h => h) (yields_load (by kernel_rfl) 25 (.tmp 18) rfl (tv (sub4 G 1)) (fun V hV => load_tmid (w.heap.size) 1 G V (by omega) (hV.row (b := w.heap.size) (o := sq4 G) (by simp)))) (by assumption) ?_
  try simp only [Act.put, List.setIfInBounds_toArray, List.set_cons_zero, List.set_cons_succ]
  refine wpAnyH_take (i := 15) (oi := { dst := some 20, op := Op.indexAddr 43 (Operand.tmp 1) (Operand.const (Value.int IntKind.i64 2)), type := 0, pos := "law.go:74", after := #[{ on := 1, ground := Ground.guard }], guard := some (1, true) }) (v := ?_) rfl (by kernel_rfl) (by kernel_rfl) (by kernel_rfl) (fun _ _ _ h => h) (Or.inl ⟨by kernel_rfl, ?_⟩) (by assumption) ?_
  rotate_left 1
  focus (intro w hSw; (try dsimp only at hSw); go_simp; (try with_reducible rfl))
  try simp only [Act.put, List.setIfInBounds_toArray, List.set_cons_zero, List.set_cons_succ]
  refine wpAnyH_take (i := 16) (oi := { dst := some 21, op := Op.load 25 (Operand.tmp 20), type := 25, pos := "law.go:74", after := #[{ on := 15, ground := Ground.data }, { on := 1, ground := Ground.guard }], guard := some (1, true) }) rfl (by kernel_rfl) (by kernel_rfl) (by kernel_rfl) (fun _ _ _ h => h) (yields_load (by kernel_rfl) 25 (.tmp 20) rfl (tv (sub4 G 2)) (fun V hV => load_tmid (w.heap.size) 2 G V (by omega) (hV.row (b := w.heap.size) (o := sq4 G) (by simp)))) (by assumption) ?_
  try simp only [Act.put, List.setIfInBounds_toArray, List.set_cons_zero, List.set_cons_succ]
  refine wpAnyH_take (i := 17) (oi := { dst := some 22, op := Op.indexAddr 43 (Operand.tmp 1) (Operand.const (Value.int IntKind.i64 3)), type := 0, pos := "law.go:74", after := #[{ on := 1, ground := Ground.guard }], guard := some (1, true) }) (v := ?_) rfl (by kernel_rfl) (by kernel_rfl) (by kernel_rfl) (fun _ _ _ h => h) (Or.inl ⟨by kernel_rfl, ?_⟩) (by assumption) ?_
  rotate_left 1
  focus (intro w hSw; (try dsimp only at hSw); go_simp; (try with_reducible rfl))
  try simp only [Act.put, List.setIfInBounds_toArray, List.set_cons_zero, List.set_cons_succ]
  refine wpAnyH_take (i := 18) (oi := { dst := some 23, op := Op.load 25 (Operand.tmp 22), type := 25, pos := "law.go:74", after := #[{ on := 17, ground := Ground.data }, { on := 1, ground := Ground.guard }], guard := some (1, true) }) rfl (by kernel_rfl) (by kernel_rfl) (by kernel_rfl) (fun _ _ _ h => h) (yields_load (by kernel_rfl) 25 (.tmp 22) rfl (tv (sub4 G 3)) (fun V hV => load_tmid (w.heap.size) 3 G V (by omega) (hV.row (b := w.heap.size) (o := sq4 G) (by simp)))) (by assumption) ?_
  try simp only [Act.put, List.setIfInBounds_toArray, List.set_cons_zero, List.set_cons_succ]
  refine wpAnyH_ready (rs := [10]) (by kernel_rfl) (by simp) (AllReadyH.cons (o := { dst := some 15, op := Op.call { callee := Callee.value (Operand.func 32), args := #[Operand.tmp 8, Operand.tmp 10, Operand.tmp 12, Operand.tmp 14], argTypes := #[25, 25, 25, 25] }, type := 25, pos := "law.go:74", after := #[{ on := 3, ground := Ground.data }, { on := 5, ground := Ground.data }, { on := 7, ground := Ground.data }, { on := 9, ground := Ground.data }, { on := 1, ground := Ground.chain }, { on := 1, ground := Ground.guard }], guard := some (1, true) }) rfl (fun K hK => ?_) AllReadyH.nil)
  (go_simp; (go_at_call 32; (refine (St.call h10 (halve_any (sub4 G 0) (sub4 G 1) (sub4 G 2) (sub4 G 3) _ HPC.out)).mono ?_); rintro e V1r2 ⟨rfl, h11r2⟩))
  refine hK.out _ _ ?_ (fun hHeld => ?_)
  · (first | exact h11r2 | exact h11r2.tl)
  clear hK K
  try simp only [Act.put, List.setIfInBounds_toArray, List.set_cons_zero, List.set_cons_succ]
  refine wpAnyH_ready (rs := [19]) (by kernel_rfl) (by simp) (AllReadyH.cons (o := { dst := some 24, op := Op.call { callee := Callee.value (Operand.func 33), args := #[Operand.tmp 17, Operand.tmp 19, Operand.tmp 21, Operand.tmp 23], argTypes := #[25, 25, 25, 25] }, type := 25, pos := "law.go:74", after := #[{ on := 12, ground := Ground.data }, { on := 14, ground := Ground.data }, { on := 16, ground := Ground.data }, { on := 18, ground := Ground.data }, { on := 10, ground := Ground.chain }, { on := 1, ground := Ground.guard }], guard := some (1, true) }) rfl (fun K hK => ?_) AllReadyH.nil)
  (go_simp; (go_at_call 33; (refine (St.call h11r2 (refHalve_any (sub4 G 0) (sub4 G 1) (sub4 G 2) (sub4 G 3) _ HPC.out)).mono ?_); rintro e V2r2 ⟨rfl, h12r2⟩))
  refine hK.out _ _ ?_ (fun hHeld => ?_)
  · (first | exact h12r2 | exact h12r2.tl)
  clear hK K
  try simp only [Act.put, List.setIfInBounds_toArray, List.set_cons_zero, List.set_cons_succ]
  refine wpAnyH_take (i := 20) (oi := { dst := some 25, op := Op.binOp BinOp.eql 25 (Operand.tmp 15) (Operand.tmp 24) 25, type := 4, pos := "law.go:74", after := #[{ on := 10, ground := Ground.data }, { on := 19, ground := Ground.data }, { on := 1, ground := Ground.guard }], guard := some (1, true) }) rfl (by kernel_rfl) (by kernel_rfl) (by kernel_rfl) (fun _ _ _ h => h) (yields_bin (by kernel_rfl) .eql 25 (.tmp 15) (.tmp 24) 25 rfl _ _ rfl rfl guard_tile (.bool true) (fun V => HE1.out V)) (by assumption) ?_
  try simp only [Act.put, List.setIfInBounds_toArray, List.set_cons_zero, List.set_cons_succ]
  refine wpAnyH_take (i := 21) (oi := { dst := some 26, op := Op.pick (Operand.tmp 6) (Operand.tmp 25) (Operand.const (Value.bool false)), type := 4, pos := "law.go:74", after := #[{ on := 1, ground := Ground.data }, { on := 20, ground := Ground.data }], guard := none }) (v := ?_) rfl (by kernel_rfl) (by kernel_rfl) (by kernel_rfl) (fun _ _ _ h => h) (Or.inl ⟨by kernel_rfl, ?_⟩) (by assumption) ?_
  rotate_left 1
  focus (intro w hSw; (try dsimp only at hSw); go_simp; (try with_reducible rfl))
  try simp only [Act.put, List.setIfInBounds_toArray, List.set_cons_zero, List.set_cons_succ]
  refine wpAnyH_take (i := 22) (oi := { dst := some 2, op := Op.assign (Operand.tmp 26), type := 4, pos := "law.go:74", after := #[{ on := 21, ground := Ground.data }, { on := 19, ground := Ground.chain }, { on := 0, ground := Ground.phase }, { on := 1, ground := Ground.phase }, { on := 2, ground := Ground.phase }, { on := 3, ground := Ground.phase }, { on := 4, ground := Ground.phase }, { on := 5, ground := Ground.phase }, { on := 6, ground := Ground.phase }, { on := 7, ground := Ground.phase }, { on := 8, ground := Ground.phase }, { on := 9, ground := Ground.phase }, { on := 10, ground := Ground.phase }, { on := 11, ground := Ground.phase }, { on := 12, ground := Ground.phase }, { on := 13, ground := Ground.phase }, { on := 14, ground := Ground.phase }, { on := 15, ground := Ground.phase }, { on := 16, ground := Ground.phase }, { on := 17, ground := Ground.phase }, { on := 18, ground := Ground.phase }, { on := 19, ground := Ground.phase }, { on := 20, ground := Ground.phase }, { on := 21, ground := Ground.phase }], guard := none }) (v := ?_) rfl (by kernel_rfl) (by kernel_rfl) (by kernel_rfl) (fun _ _ _ h => h) (Or.inl ⟨by kernel_rfl, ?_⟩) (by assumption) ?_
  rotate_left 1
  focus (intro w hSw; (try dsimp only at hSw); go_simp; (try with_reducible rfl))
  try simp only [Act.put, List.setIfInBounds_toArray, List.set_cons_zero, List.set_cons_succ]
  refine wpAnyH_done (by kernel_rfl) ?_ _
  have HB := Lib.hid h12r2.below
  go_wp2_with fail
  go_ret
  exact ⟨rfl, HB.out⟩

theorem okin (W : World) (base : Nat) : Input.okWide Try.checked.prog W .any base 6 ⟨#[], #[.agg (fc 256 z0)], []⟩ := by
  refine ⟨by simp, by simp, by kernel_rfl, Try.f6, Try.func6, by kernel_rfl, by kernel_rfl, by kernel_rfl, by rw [Try.params6]; rfl, ?_⟩
  intro j t v ht hv
  rw [Try.params6] at ht
  match j with
  | 0 => cases (Option.some.inj ht); cases (Option.some.inj hv); exact ok_sq W base
  | j + 1 => simp at ht
set_option maxRecDepth 100000 in
theorem lifted (os : Os) (started : os.Started) (H : Type) (enc : TypeId × Value → H) :
    ReturnsInHanded {} Try.checked os 6 .any (Rows.tileHalveSpec.pre6 enc Try.prog Try.f6 Rows.tileHalveRow.domain false) (Rows.tileHalveSpec.post enc Try.prog Try.f6 false true false false) := by
  refine returnsInHanded_of_change_sized (C := Try.checked) own started (by kernel_rfl) Try.func6
    (witness7 (enc := enc) (C := Try.checked) false ⟨#[], #[.agg (fc 256 z0)], []⟩ 8 (by kernel_rfl) (by kernel_rfl) (fun W base => okin W base) (by kernel_rfl) (by kernel_rfl)) ?_
  intro W base args ds gs before hval0 hW _ _ _
  have hval : ∀ (j : Nat) t v, Try.f6.params[j]? = some t → args[j]? = some v → Value.okWide Try.prog W .any base t v := hval0
  have hW' := hW
  obtain ⟨p, q, hA0, hV, rfl, hfz, hnd⟩ := hW
  have hA : DataW.TrodAll enc Try.prog W 0 (fun _ => true) true Try.f6.params.toList args.toList ds p := hA0
  rw [Try.params6] at hA hval
  obtain ⟨v0, d0, rfl, rfl, h0⟩ := trodAll_one hA
  obtain ⟨rfl, rfl⟩ := trodVars_none hV
  obtain ⟨G, rfl, hG⟩ := open_sq (hval 0 43 v0 rfl rfl)
  refine (walk G W hG).mono fun e W' ⟨he, hb⟩ => ?_
  subst he
  exact ⟨_, rfl, law_post hW' rfl (by kernel_rfl) rfl (by intro t ht; rw [Try.params6] at ht; simp at ht; subst ht; exact ⟨by kernel_rfl, of_decide_eq_true (by kernel_rfl)⟩) hb⟩

theorem holds : Rows.TileHalveSaid :=
  OpenClaim.holds_of_wide 6 Try.f6 rfl rfl rfl rfl rfl rfl rfl ⟨rfl, rfl, rfl, rfl, rfl⟩ rfl rfl rfl rfl rfl (by kernel_rfl) Try.func6 (by kernel_rfl)
    (of_decide_eq_true (by kernel_rfl)) (by unfold Func.isWrapper; first | (rw [if_pos (by decide +kernel)]; kernel_rfl) | (rw [if_neg (by decide +kernel)]; exact ⟨rfl, rfl⟩))
    (fun os started H enc _ => lifted os started H enc)
end Go.Proofs.Ytkomknhloimhcaa.T.TLHalve
