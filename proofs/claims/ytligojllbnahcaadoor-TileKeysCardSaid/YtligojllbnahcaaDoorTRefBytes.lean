/-
  Bytes of the reference (contract).
-/
import Derived.Test.YtligojllbnahcaaDoorTOwn
namespace Go.Proofs.YtligojllbnahcaaDoor
open Go.RowKit T
variable {W w w' : World} {L : List (Nat × Obj)}
theorem St.up {B : Nat} (h : St W L w) (hb : Below B w w') (hL : ∀ x ∈ L, x.1 < B) (hB : W.heap.size ≤ B := by omega) : St W L w' :=
  ⟨h.below.trans (hb.mono hB), fun x hx => (hb.block x.1 (hL x hx)).trans (h.rows x hx)⟩
end Go.Proofs.YtligojllbnahcaaDoor
namespace Go.Proofs.YtligojllbnahcaaDoor.T
open Go.RowKit Go.Shelf

theorem ld_u8 {a : Addr} {v : Value} (w : World) (h : w.cell? a = some v) : (Instr.loadAt 5 (.pointer (some a))).run Tryd.prog w = .ok v w := by
  have ht : (isAgg 5).run Tryd.prog w = .ok false w := by kernel_rfl
  simp only [Instr.loadAt, Instr.sureAddr, loadVar, Sem.run_bind, Sem.run_pure, Result.andThen_ok, ht, run_load, h, Bool.false_eq_true, if_false]
theorem owns_none {B : Nat} {w : World} {n : Nat} (hn : B ≤ n) (h : w.heap[n]? = some (.cells #[] 5)) : OwnsB B w (.slice (some ⟨n, 0, none⟩) 0 0) [] :=
  ⟨by decide, .inr ⟨n, 0, #[], rfl, hn, h, by simp, by simp, by simp, by simp⟩⟩
set_option maxRecDepth 100000 in
set_option maxHeartbeats 4000000 in
theorem refBytes_any (f : Nat → Px) (w : World) (hf : ∀ i, i < 64 → Pc (f i)) : Calls Tryd.prog 6 #[tv f] w fun e w' => e = .returned (.string (str (bys 64 f))) ∧ Below w.heap.size w w' := by
  have hs := (St.start w).alloc (tob f)
  have HP := Lib.hid hf
  have h1 := hs.alloc (.cells #[] 5)
  have H1 := Lib.hid (h1.tl)
  have HO : Hid (OwnsB (w.heap.size + 1) ((w.alloc (tob f)).alloc (.cells #[] 5)) (.slice (some ⟨w.heap.size + 1, 0, none⟩) 0 0) (bys 0 f)) := owns_none (Nat.le_refl _) (by have := World.alloc_heap_new (w.alloc (tob f)) (.cells #[] 5); rwa [World.size_alloc] at this)
  clear hf hs h1
  go_enter Tryd.func6, Tryd.ntmps6
  go_upto_region 2 with fail
  generalize (w.alloc (.cells (tc f) 25)).alloc (.cells #[] 5) = V3 at H1 HO ⊢
  go_wp2
  go_loopw [3, 4] (fun v3 v wr => ∃ k : Nat, k ≤ 64 ∧ v = .int .i64 k ∧ Hid (OwnsB (w.heap.size + 1) wr v3 (bys k f)) ∧ Hid (St w [(w.heap.size, tob f)] wr)) (fun _ i _ => 64 - (intOf i).toNat)
  case atStart => exact ⟨0, by omega, rfl, HO, H1⟩
  case round =>
    obtain ⟨k, hk, rfl, HOW, HU⟩ := hrel
    by_cases hlt : k < 64
    · have hix := index_px w.heap.size k hlt
      have h2 := HU.out
      have HBB : Hid (w.heap.size + 1 ≤ wr.drew.heap.size) := Lib.hid (h2.drew.lt (b := w.heap.size) (o := tob f) (by simp))
      go_upto_region 5 with fail
      refine wp_region_held_drew (S := fun V9 => St w [(w.heap.size, tob f)] V9) (by kernel_rfl) ?_ (fun hHeld => ?_)
      · first | exact h2.drew | exact h2.drew.tl
      have h20 := h2.drew
      refine wpAnyH_take (i := 0) (oi := { dst := some 10, op := Op.move (Operand.tmp 3), type := 44, pos := "ref.go:117", after := #[], guard := none }) (v := ?_) rfl (by kernel_rfl) (by kernel_rfl) (by kernel_rfl) (fun _ _ _ h => h) (Or.inl ⟨by kernel_rfl, ?_⟩) (by assumption) ?_
      rotate_left 1
      focus (intro w hSw; (try dsimp only at hSw); go_simp; (try with_reducible rfl))
      try simp only [Act.put, List.setIfInBounds_toArray, List.set_cons_zero, List.set_cons_succ]
      refine wpAnyH_take (i := 1) (oi := { dst := some 11, op := Op.move (Operand.tmp 4), type := 3, pos := "ref.go:117", after := #[], guard := none }) (v := ?_) rfl (by kernel_rfl) (by kernel_rfl) (by kernel_rfl) (fun _ _ _ h => h) (Or.inl ⟨by kernel_rfl, ?_⟩) (by assumption) ?_
      rotate_left 1
      focus (intro w hSw; (try dsimp only at hSw); go_simp; (try with_reducible rfl))
      try simp only [Act.put, List.setIfInBounds_toArray, List.set_cons_zero, List.set_cons_succ]
      refine wpAnyH_take (i := 2) (oi := { dst := some 12, op := Op.indexAddr 25 (Operand.tmp 1) (Operand.tmp 11), type := 0, pos := "ref.go:117", after := #[{ on := 1, ground := Ground.data }], guard := none }) (v := ?_) rfl (by kernel_rfl) (by kernel_rfl) (by kernel_rfl) (fun _ _ _ h => h) (Or.inl ⟨by kernel_rfl, ?_⟩) (by assumption) ?_
      rotate_left 1
      focus (intro w hSw; (try dsimp only at hSw); go_simp; (try with_reducible rfl))
      try simp only [Act.put, List.setIfInBounds_toArray, List.set_cons_zero, List.set_cons_succ]
      refine wpAnyH_take (i := 3) (oi := { dst := some 13, op := Op.fieldAddr 23 (Operand.tmp 12) 0, type := 0, pos := "ref.go:117", after := #[{ on := 2, ground := Ground.data }], guard := none }) (v := ?_) rfl (by kernel_rfl) (by kernel_rfl) (by kernel_rfl) (fun _ _ _ h => h) (Or.inl ⟨by kernel_rfl, ?_⟩) (by assumption) ?_
      rotate_left 1
      focus (intro w hSw; (try dsimp only at hSw); go_simp; (try with_reducible rfl))
      try simp only [Act.put, List.setIfInBounds_toArray, List.set_cons_zero, List.set_cons_succ]
      refine wpAnyH_take (i := 4) (oi := { dst := some 14, op := Op.load 5 (Operand.tmp 13), type := 5, pos := "ref.go:117", after := #[{ on := 3, ground := Ground.data }], guard := none }) rfl (by kernel_rfl) (by kernel_rfl) (by kernel_rfl) (fun _ _ _ h => h) (yields_load (by kernel_rfl) 5 (.tmp 13) rfl (.int .u8 (f k).r) (fun V hV => ld_u8 V (St.q4 hV (b := w.heap.size) (f := f) (by simp) k hlt).1)) (by assumption) ?_
      try simp only [Act.put, List.setIfInBounds_toArray, List.set_cons_zero, List.set_cons_succ]
      refine wpAnyH_take (i := 5) (oi := { dst := some 15, op := Op.move (Operand.tmp 4), type := 3, pos := "ref.go:117", after := #[], guard := none }) (v := ?_) rfl (by kernel_rfl) (by kernel_rfl) (by kernel_rfl) (fun _ _ _ h => h) (Or.inl ⟨by kernel_rfl, ?_⟩) (by assumption) ?_
      rotate_left 1
      focus (intro w hSw; (try dsimp only at hSw); go_simp; (try with_reducible rfl))
      try simp only [Act.put, List.setIfInBounds_toArray, List.set_cons_zero, List.set_cons_succ]
      refine wpAnyH_take (i := 6) (oi := { dst := some 16, op := Op.indexAddr 25 (Operand.tmp 1) (Operand.tmp 15), type := 0, pos := "ref.go:117", after := #[{ on := 5, ground := Ground.data }], guard := none }) (v := ?_) rfl (by kernel_rfl) (by kernel_rfl) (by kernel_rfl) (fun _ _ _ h => h) (Or.inl ⟨by kernel_rfl, ?_⟩) (by assumption) ?_
      rotate_left 1
      focus (intro w hSw; (try dsimp only at hSw); go_simp; (try with_reducible rfl))
      try simp only [Act.put, List.setIfInBounds_toArray, List.set_cons_zero, List.set_cons_succ]
      refine wpAnyH_take (i := 7) (oi := { dst := some 17, op := Op.fieldAddr 23 (Operand.tmp 16) 1, type := 0, pos := "ref.go:117", after := #[{ on := 6, ground := Ground.data }], guard := none }) (v := ?_) rfl (by kernel_rfl) (by kernel_rfl) (by kernel_rfl) (fun _ _ _ h => h) (Or.inl ⟨by kernel_rfl, ?_⟩) (by assumption) ?_
      rotate_left 1
      focus (intro w hSw; (try dsimp only at hSw); go_simp; (try with_reducible rfl))
      try simp only [Act.put, List.setIfInBounds_toArray, List.set_cons_zero, List.set_cons_succ]
      refine wpAnyH_take (i := 8) (oi := { dst := some 18, op := Op.load 5 (Operand.tmp 17), type := 5, pos := "ref.go:117", after := #[{ on := 7, ground := Ground.data }], guard := none }) rfl (by kernel_rfl) (by kernel_rfl) (by kernel_rfl) (fun _ _ _ h => h) (yields_load (by kernel_rfl) 5 (.tmp 17) rfl (.int .u8 (f k).g) (fun V hV => ld_u8 V (St.q4 hV (b := w.heap.size) (f := f) (by simp) k hlt).2.1)) (by assumption) ?_
      try simp only [Act.put, List.setIfInBounds_toArray, List.set_cons_zero, List.set_cons_succ]
      refine wpAnyH_take (i := 9) (oi := { dst := some 19, op := Op.move (Operand.tmp 4), type := 3, pos := "ref.go:117", after := #[], guard := none }) (v := ?_) rfl (by kernel_rfl) (by kernel_rfl) (by kernel_rfl) (fun _ _ _ h => h) (Or.inl ⟨by kernel_rfl, ?_⟩) (by assumption) ?_
      rotate_left 1
      focus (intro w hSw; (try dsimp only at hSw); go_simp; (try with_reducible rfl))
      try simp only [Act.put, List.setIfInBounds_toArray, List.set_cons_zero, List.set_cons_succ]
      refine wpAnyH_take (i := 10) (oi := { dst := some 20, op := Op.indexAddr 25 (Operand.tmp 1) (Operand.tmp 19), type := 0, pos := "ref.go:117", after := #[{ on := 9, ground := Ground.data }], guard := none }) (v := ?_) rfl (by kernel_rfl) (by kernel_rfl) (by kernel_rfl) (fun _ _ _ h => h) (Or.inl ⟨by kernel_rfl, ?_⟩) (by assumption) ?_
      rotate_left 1
      focus (intro w hSw; (try dsimp only at hSw); go_simp; (try with_reducible rfl))
      try simp only [Act.put, List.setIfInBounds_toArray, List.set_cons_zero, List.set_cons_succ]
      refine wpAnyH_take (i := 11) (oi := { dst := some 21, op := Op.fieldAddr 23 (Operand.tmp 20) 2, type := 0, pos := "ref.go:117", after := #[{ on := 10, ground := Ground.data }], guard := none }) (v := ?_) rfl (by kernel_rfl) (by kernel_rfl) (by kernel_rfl) (fun _ _ _ h => h) (Or.inl ⟨by kernel_rfl, ?_⟩) (by assumption) ?_
      rotate_left 1
      focus (intro w hSw; (try dsimp only at hSw); go_simp; (try with_reducible rfl))
      try simp only [Act.put, List.setIfInBounds_toArray, List.set_cons_zero, List.set_cons_succ]
      refine wpAnyH_take (i := 12) (oi := { dst := some 22, op := Op.load 5 (Operand.tmp 21), type := 5, pos := "ref.go:117", after := #[{ on := 11, ground := Ground.data }], guard := none }) rfl (by kernel_rfl) (by kernel_rfl) (by kernel_rfl) (fun _ _ _ h => h) (yields_load (by kernel_rfl) 5 (.tmp 21) rfl (.int .u8 (f k).b) (fun V hV => ld_u8 V (St.q4 hV (b := w.heap.size) (f := f) (by simp) k hlt).2.2.1)) (by assumption) ?_
      try simp only [Act.put, List.setIfInBounds_toArray, List.set_cons_zero, List.set_cons_succ]
      refine wpAnyH_take (i := 13) (oi := { dst := some 23, op := Op.move (Operand.tmp 4), type := 3, pos := "ref.go:117", after := #[], guard := none }) (v := ?_) rfl (by kernel_rfl) (by kernel_rfl) (by kernel_rfl) (fun _ _ _ h => h) (Or.inl ⟨by kernel_rfl, ?_⟩) (by assumption) ?_
      rotate_left 1
      focus (intro w hSw; (try dsimp only at hSw); go_simp; (try with_reducible rfl))
      try simp only [Act.put, List.setIfInBounds_toArray, List.set_cons_zero, List.set_cons_succ]
      refine wpAnyH_take (i := 14) (oi := { dst := some 24, op := Op.indexAddr 25 (Operand.tmp 1) (Operand.tmp 23), type := 0, pos := "ref.go:117", after := #[{ on := 13, ground := Ground.data }], guard := none }) (v := ?_) rfl (by kernel_rfl) (by kernel_rfl) (by kernel_rfl) (fun _ _ _ h => h) (Or.inl ⟨by kernel_rfl, ?_⟩) (by assumption) ?_
      rotate_left 1
      focus (intro w hSw; (try dsimp only at hSw); go_simp; (try with_reducible rfl))
      try simp only [Act.put, List.setIfInBounds_toArray, List.set_cons_zero, List.set_cons_succ]
      refine wpAnyH_take (i := 15) (oi := { dst := some 25, op := Op.fieldAddr 23 (Operand.tmp 24) 3, type := 0, pos := "ref.go:117", after := #[{ on := 14, ground := Ground.data }], guard := none }) (v := ?_) rfl (by kernel_rfl) (by kernel_rfl) (by kernel_rfl) (fun _ _ _ h => h) (Or.inl ⟨by kernel_rfl, ?_⟩) (by assumption) ?_
      rotate_left 1
      focus (intro w hSw; (try dsimp only at hSw); go_simp; (try with_reducible rfl))
      try simp only [Act.put, List.setIfInBounds_toArray, List.set_cons_zero, List.set_cons_succ]
      refine wpAnyH_take (i := 16) (oi := { dst := some 26, op := Op.load 5 (Operand.tmp 25), type := 5, pos := "ref.go:117", after := #[{ on := 15, ground := Ground.data }], guard := none }) rfl (by kernel_rfl) (by kernel_rfl) (by kernel_rfl) (fun _ _ _ h => h) (yields_load (by kernel_rfl) 5 (.tmp 25) rfl (.int .u8 (f k).a) (fun V hV => ld_u8 V (St.q4 hV (b := w.heap.size) (f := f) (by simp) k hlt).2.2.2)) (by assumption) ?_
      try simp only [Act.put, List.setIfInBounds_toArray, List.set_cons_zero, List.set_cons_succ]
      refine wpAnyH_ready (rs := [17]) (by kernel_rfl) (by simp) (AllReadyH.cons (o := { dst := some 27, op := Op.buildSlice 44 4 #[(0, Operand.tmp 14), (1, Operand.tmp 18), (2, Operand.tmp 22), (3, Operand.tmp 26)], type := 44, pos := "ref.go:117", after := #[{ on := 4, ground := Ground.data }, { on := 8, ground := Ground.data }, { on := 12, ground := Ground.data }, { on := 16, ground := Ground.data }], guard := none }) rfl (fun K hK => ?_) AllReadyH.nil)
      go_simp
      have h21r5 := h20.alloc (.cells (pl (f k)).toArray 5)
      refine hK.out _ _ ?_ (fun hHeld => ?_)
      · (first | exact h21r5 | exact h21r5.tl)
      clear hK K
      try simp only [Act.put, List.setIfInBounds_toArray, List.set_cons_zero, List.set_cons_succ]
      refine wpAnyH_ready (rs := [18]) (by kernel_rfl) (by simp) (AllReadyH.cons (o := { dst := some 28, op := Op.call { callee := Callee.builtin Builtin.append, args := #[Operand.tmp 10, Operand.tmp 27], argTypes := #[44, 44] }, type := 44, pos := "ref.go:117", after := #[{ on := 0, ground := Ground.data }, { on := 17, ground := Ground.data }], guard := none }) rfl (fun K hK => ?_) AllReadyH.nil)
      refine wp_app4 (.tmp 10) (.tmp 27) rfl (w.heap.size + 1) wr.drew _ (bys k f) (f k) (HP.out k hlt) rfl HOW.out rfl (by rw [bys_len]; omega) HBB.out ?_
      intro v5 w5 ho5 hb5
      have h22r5 := St.up h20 hb5 (by simp)
      refine hK.out _ _ ?_ (fun hHeld => ?_)
      · (first | exact h22r5 | exact h22r5.tl)
      clear hK K
      try simp only [Act.put, List.setIfInBounds_toArray, List.set_cons_zero, List.set_cons_succ]
      refine wpAnyH_take (i := 19) (oi := { dst := some 3, op := Op.assign (Operand.tmp 28), type := 44, pos := "ref.go:117", after := #[{ on := 18, ground := Ground.data }, { on := 18, ground := Ground.chain }, { on := 0, ground := Ground.phase }, { on := 1, ground := Ground.phase }, { on := 2, ground := Ground.phase }, { on := 3, ground := Ground.phase }, { on := 4, ground := Ground.phase }, { on := 5, ground := Ground.phase }, { on := 6, ground := Ground.phase }, { on := 7, ground := Ground.phase }, { on := 8, ground := Ground.phase }, { on := 9, ground := Ground.phase }, { on := 10, ground := Ground.phase }, { on := 11, ground := Ground.phase }, { on := 12, ground := Ground.phase }, { on := 13, ground := Ground.phase }, { on := 14, ground := Ground.phase }, { on := 15, ground := Ground.phase }, { on := 16, ground := Ground.phase }, { on := 17, ground := Ground.phase }, { on := 18, ground := Ground.phase }], guard := none }) (v := ?_) rfl (by kernel_rfl) (by kernel_rfl) (by kernel_rfl) (fun _ _ _ h => h) (Or.inl ⟨by kernel_rfl, ?_⟩) (by assumption) ?_
      rotate_left 1
      focus (intro w hSw; (try dsimp only at hSw); go_simp; (try with_reducible rfl))
      try simp only [Act.put, List.setIfInBounds_toArray, List.set_cons_zero, List.set_cons_succ]
      refine wpAnyH_done (by kernel_rfl) ?_ _
      have h5 := h22r5
      have H5 := Lib.hid h5
      have HO5 := Lib.hid ho5
      go_wp2
      go_roundw
      case rel => exact ⟨k + 1, by omega, by go_num, by rw [bys_succ]; exact HO5, H5⟩
      case measure => simp [intOf]; omega
    · obtain rfl : k = 64 := by omega
      have hcv := owns_conv HOW.out
      have HB := Lib.hid HU.out.below
      go_wp2
      go_ret
      exact ⟨rfl, HB.out⟩
end Go.Proofs.YtligojllbnahcaaDoor.T
