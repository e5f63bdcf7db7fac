/-
  Mask of the reference (contract).
-/
import Derived.Test.YtkomknhloimhcaaTRefB
namespace Go.Proofs.Ytkomknhloimhcaa.T
open Go.RowKit Go.Shelf

set_option maxRecDepth 100000 in
set_option maxHeartbeats 4000000 in
theorem refTMask_any (f g : Nat → Px) (w : World) (hf : ∀ i, i < 64 → Pc (f i)) (hg : ∀ i, i < 64 → Pc (g i)) : Calls Try.prog 27 #[tv f, tv g] w fun e w' => e = .returned (tv (fun i => fad (f i) (g i).a)) ∧ Below w.heap.size w w' := by
  obtain ⟨V2, hV2⟩ : ∃ V2, V2 = (((w.alloc (tob f)).alloc (tob g)).alloc (tob z0)) := ⟨_, rfl⟩
  have hs := ((((St.start w).alloc (tob f)).alloc (tob g)).alloc (tob z0))
  simp only [World.size_alloc] at hs
  rw [← hV2] at hs
  have H4 := Lib.hid hs
  have HV := Lib.hid hV2
  have hzt := zero_tile
  clear hs hV2
  go_enter Try.func27, Try.ntmps27
  go_upto_region 1 with fail
  have e1 : (((w.alloc (tob f)).alloc (tob g)).alloc (tob z0)) = V2 := HV.out.symm
  rw [e1]
  clear e1
  have H4 := Lib.hid (H4.out.sub (L' := [(w.heap.size, tob (f)), (w.heap.size + 1, tob g), (w.heap.size + 1 + 1, tob z0)]) (by simp))
  have HF := Lib.hid hf
  have HG := Lib.hid hg
  clear hf hg
  go_wp2
  go_loopw [5] (fun v wr => ∃ k : Nat, k ≤ 64 ∧ v = .int .i64 k ∧ Hid (St w [(w.heap.size, tob (pt f (fun i => fad (f i) (g i).a) k)), (w.heap.size + 1, tob g), (w.heap.size + 1 + 1, tob z0)] wr)) (fun i _ => 64 - (intOf i).toNat)
  case atStart => exact ⟨0, by omega, rfl, by rw [pt_zero]; exact H4.out⟩
  case round =>
    obtain ⟨k, hk, rfl, HT⟩ := hrel
    by_cases hlt : k < 64
    · have hix := index_px w.heap.size k hlt
      have hiy := index_px (w.heap.size + 1) k hlt
      have hcw : IntKind.i64.wrap (g k).a = (g k).a := w64 (HG.out k hlt).2.2.2
      have HJ : Hid (∀ F V3, St w [(w.heap.size, tob (F)), (w.heap.size + 1, tob g), (w.heap.size + 1 + 1, tob z0)] V3 → V3.cell? ⟨w.heap.size + 1, 4 * k + 3, none⟩ = some (.int .u8 (g k).a)) := fun F V3 h => (h.q4 (b := w.heap.size + 1) (f := g) (by simp) k hlt).2.2.2
      have hs := HT.out.drew
      have hl := load_px w.heap.size _ k hlt wr.drew (hs.row (b := w.heap.size) (o := tob (pt f (fun i => fad (f i) (g i).a) k)) (by simp))
      rw [pt_at] at hl
      have HLD := Lib.hid hl
      have e5 : upd (pt f (fun i => fad (f i) (g i).a) k) k (fad (f k) (g k).a) = pt f (fun i => fad (f i) (g i).a) (k + 1) := pt_succ f (fun i => fad (f i) (g i).a) k
      have HX := Lib.hid (St.call hs (refFade_any (f k).r (f k).g (f k).b (f k).a (g k).a wr.drew (HF.out k hlt).2.2.2))
      have HE := Lib.hid e5
      clear hl e5
      go_upto_region 4 with fail
      refine wp_region_held_drew (S := fun V3 => V3.cell? ⟨w.heap.size + 1, 4 * k + 3, none⟩ = some (.int .u8 (g k).a)) (by kernel_rfl) ?_ (fun hHeld => ?_)
      · (first | exact HJ.out _ _ h5 | exact HJ.out _ _ h4 | exact HJ.out _ _ hs)
      refine wpAnyH_take (i := 0) (oi := { dst := some 10, op := Op.move (Operand.tmp 5), type := 3, pos := "ref.go:86", after := #[], guard := none }) (v := ?_) rfl (by kernel_rfl) (by kernel_rfl) (by kernel_rfl) (fun _ _ _ h => h) (Or.inl ⟨by kernel_rfl, ?_⟩) (by assumption) ?_
      rotate_left 1
      focus (intro w hSw; (try dsimp only at hSw); go_simp; (try with_reducible rfl))
      try simp only [Act.put, List.setIfInBounds_toArray, List.set_cons_zero, List.set_cons_succ]
      refine wpAnyH_take (i := 1) (oi := { dst := some 11, op := Op.move (Operand.tmp 5), type := 3, pos := "ref.go:86", after := #[], guard := none }) (v := ?_) rfl (by kernel_rfl) (by kernel_rfl) (by kernel_rfl) (fun _ _ _ h => h) (Or.inl ⟨by kernel_rfl, ?_⟩) (by assumption) ?_
      rotate_left 1
      focus (intro w hSw; (try dsimp only at hSw); go_simp; (try with_reducible rfl))
      try simp only [Act.put, List.setIfInBounds_toArray, List.set_cons_zero, List.set_cons_succ]
      refine wpAnyH_take (i := 2) (oi := { dst := some 12, op := Op.indexAddr 25 (Operand.tmp 2) (Operand.tmp 11), type := 0, pos := "ref.go:86", after := #[{ on := 1, ground := Ground.data }], guard := none }) (v := ?_) rfl (by kernel_rfl) (by kernel_rfl) (by kernel_rfl) (fun _ _ _ h => h) (Or.inl ⟨by kernel_rfl, ?_⟩) (by assumption) ?_
      rotate_left 1
      focus (intro w hSw; (try dsimp only at hSw); go_simp; (try with_reducible rfl))
      try simp only [Act.put, List.setIfInBounds_toArray, List.set_cons_zero, List.set_cons_succ]
      refine wpAnyH_take (i := 4) (oi := { dst := some 14, op := Op.move (Operand.tmp 5), type := 3, pos := "ref.go:86", after := #[], guard := none }) (v := ?_) rfl (by kernel_rfl) (by kernel_rfl) (by kernel_rfl) (fun _ _ _ h => h) (Or.inl ⟨by kernel_rfl, ?_⟩) (by assumption) ?_
      rotate_left 1
      focus (intro w hSw; (try dsimp only at hSw); go_simp; (try with_reducible rfl))
      try simp only [Act.put, List.setIfInBounds_toArray, List.set_cons_zero, List.set_cons_succ]
      refine wpAnyH_take (i := 5) (oi := { dst := some 15, op := Op.indexAddr 25 (Operand.tmp 3) (Operand.tmp 14), type := 0, pos := "ref.go:86", after := #[{ on := 4, ground := Ground.data }], guard := none }) (v := ?_) rfl (by kernel_rfl) (by kernel_rfl) (by kernel_rfl) (fun _ _ _ h => h) (Or.inl ⟨by kernel_rfl, ?_⟩) (by assumption) ?_
      rotate_left 1
      focus (intro w hSw; (try dsimp only at hSw); go_simp; (try with_reducible rfl))
      try simp only [Act.put, List.setIfInBounds_toArray, List.set_cons_zero, List.set_cons_succ]
      refine wpAnyH_take (i := 6) (oi := { dst := some 16, op := Op.fieldAddr 23 (Operand.tmp 15) 3, type := 0, pos := "ref.go:86", after := #[{ on := 5, ground := Ground.data }], guard := none }) (v := ?_) rfl (by kernel_rfl) (by kernel_rfl) (by kernel_rfl) (fun _ _ _ h => h) (Or.inl ⟨by kernel_rfl, ?_⟩) (by assumption) ?_
      rotate_left 1
      focus (intro w hSw; (try dsimp only at hSw); go_simp; (try with_reducible rfl))
      try simp only [Act.put, List.setIfInBounds_toArray, List.set_cons_zero, List.set_cons_succ]
      refine wpAnyH_take (i := 7) (oi := { dst := some 17, op := Op.load 5 (Operand.tmp 16), type := 5, pos := "ref.go:86", after := #[{ on := 6, ground := Ground.data }], guard := none }) (v := ?_) rfl (by kernel_rfl) (by kernel_rfl) (by kernel_rfl) (fun _ _ _ h => h) (Or.inl ⟨by kernel_rfl, ?_⟩) (by assumption) ?_
      rotate_left 1
      focus (intro w hSw; (try dsimp only at hSw); go_simp; (try with_reducible rfl))
      try simp only [Act.put, List.setIfInBounds_toArray, List.set_cons_zero, List.set_cons_succ]
      refine wpAnyH_take (i := 8) (oi := { dst := some 18, op := Op.convert 5 3 (Operand.tmp 17), type := 3, pos := "ref.go:86", after := #[{ on := 7, ground := Ground.data }], guard := none }) (v := ?_) rfl (by kernel_rfl) (by kernel_rfl) (by kernel_rfl) (fun _ _ _ h => h) (Or.inl ⟨by kernel_rfl, ?_⟩) (by assumption) ?_
      rotate_left 1
      focus (intro w hSw; (try dsimp only at hSw); go_simp; (try with_reducible rfl))
      try simp only [Act.put, List.setIfInBounds_toArray, List.set_cons_zero, List.set_cons_succ]
      refine wpAnyH_ready (rs := [3]) (by kernel_rfl) (by simp) (AllReadyH.cons (o := { dst := some 13, op := Op.load 23 (Operand.tmp 12), type := 23, pos := "ref.go:86", after := #[{ on := 2, ground := Ground.data }], guard := none }) rfl (fun K hK => ?_) AllReadyH.nil)
      refine wp_load_of 23 _ rfl _ HLD.out ?_
      refine hK.out _ _ ?_ (fun hHeld => ?_)
      · (first | exact HJ.out _ _ h5 | exact HJ.out _ _ h4 | exact HJ.out _ _ hs)
      clear hK K
      try simp only [Act.put, List.setIfInBounds_toArray, List.set_cons_zero, List.set_cons_succ]
      refine wpAnyH_ready (rs := [9]) (by kernel_rfl) (by simp) (AllReadyH.cons (o := { dst := some 19, op := Op.call { callee := Callee.value (Operand.func 49), args := #[Operand.tmp 13, Operand.tmp 18], argTypes := #[23, 3] }, type := 23, pos := "ref.go:86", after := #[{ on := 3, ground := Ground.data }, { on := 8, ground := Ground.data }], guard := none }) rfl (fun K hK => ?_) AllReadyH.nil)
      (go_simp; (go_at_call 49; (refine HX.out.mono ?_); rintro e V4 ⟨rfl, h4⟩; have hst := store_px w.heap.size _ k (fad (f k) (g k).a) hlt V4 (h4.row (b := w.heap.size) (o := tob (pt f (fun i => fad (f i) (g i).a) k)) (by simp)); have h5 := St.rowset (ds := tc (upd (pt f (fun i => fad (f i) (g i).a) k) k (fad (f k) (g k).a))) h4 (by omega) (by first | (simp; done) | (simp; omega)); rw [HE.out] at h5 hst; have HST := Lib.hid hst; clear hst))
      refine hK.out _ _ ?_ (fun hHeld => ?_)
      · (first | exact HJ.out _ _ h5 | exact HJ.out _ _ h4 | exact HJ.out _ _ hs)
      clear hK K
      try simp only [Act.put, List.setIfInBounds_toArray, List.set_cons_zero, List.set_cons_succ]
      refine wpAnyH_take (i := 10) (oi := { dst := some 20, op := Op.indexAddr 25 (Operand.tmp 2) (Operand.tmp 10), type := 0, pos := "ref.go:86", after := #[{ on := 0, ground := Ground.data }, { on := 0, ground := Ground.phase }, { on := 1, ground := Ground.phase }, { on := 2, ground := Ground.phase }, { on := 3, ground := Ground.phase }, { on := 4, ground := Ground.phase }, { on := 5, ground := Ground.phase }, { on := 6, ground := Ground.phase }, { on := 7, ground := Ground.phase }, { on := 8, ground := Ground.phase }, { on := 9, ground := Ground.phase }], guard := none }) (v := ?_) rfl (by kernel_rfl) (by kernel_rfl) (by kernel_rfl) (fun _ _ _ h => h) (Or.inl ⟨by kernel_rfl, ?_⟩) (by assumption) ?_
      rotate_left 1
      focus (intro w hSw; (try dsimp only at hSw); go_simp; (try with_reducible rfl))
      try simp only [Act.put, List.setIfInBounds_toArray, List.set_cons_zero, List.set_cons_succ]
      refine wpAnyH_ready (rs := [11]) (by kernel_rfl) (by simp) (AllReadyH.cons (o := { dst := none, op := Op.store 23 (Operand.tmp 20) (Operand.tmp 19), type := 0, pos := "ref.go:86", after := #[{ on := 10, ground := Ground.data }, { on := 9, ground := Ground.data }, { on := 9, ground := Ground.chain }, { on := 0, ground := Ground.phase }, { on := 1, ground := Ground.phase }, { on := 2, ground := Ground.phase }, { on := 3, ground := Ground.phase }, { on := 4, ground := Ground.phase }, { on := 5, ground := Ground.phase }, { on := 6, ground := Ground.phase }, { on := 7, ground := Ground.phase }, { on := 8, ground := Ground.phase }, { on := 9, ground := Ground.phase }], guard := none }) rfl (fun K hK => ?_) AllReadyH.nil)
      refine wp_store_of 23 _ _ rfl HST.out ?_
      refine hK.out _ _ ?_ (fun hHeld => ?_)
      · (first | exact HJ.out _ _ h5 | exact HJ.out _ _ h4 | exact HJ.out _ _ hs)
      clear hK K
      try simp only [Act.put]
      refine wpAnyH_done (by kernel_rfl) ?_ _
      have H5 := Lib.hid h5
      go_wp2
      go_roundw
      case rel => exact ⟨k + 1, by omega, by go_num, H5.out⟩
      case measure => simp [intOf]; omega
    · obtain rfl : k = 64 := by omega
      have HLA := Lib.hid (load_all (HT.out.row (b := w.heap.size) (o := tob (pt (f) (fun i => fad (f i) (g i).a) 64)) (by simp)))
      have HR := Lib.hid (HT.out.row (b := w.heap.size + 1 + 1) (o := tob z0) (by simp))
      have HSA := Lib.hid (store_tile (w.heap.size + 1 + 1) z0 (fun i => fad (f i) (g i).a) wr HR.out)
      have HB := Lib.hid HT.out.below
      go_wp2_with (first
        | (refine wpList_load_of rfl 25 _ rfl _ HLA.out ?_)
        | (refine wpList_store_of rfl 25 _ _ rfl HSA.out ?_))
      exact bodyPost_ret (v := tv (fun i => fad (f i) (g i).a)) (results_cell_row rfl _ _ (w.heap.size + 1 + 1) _ _ _ _ rfl (setRow_heap _ _ _ _ _ _ HR.out) Try.underlying25 rfl (by rw [info_tile, tc_size])) rfl ⟨rfl, Below.setRow HB.out (by omega) _⟩
end Go.Proofs.Ytkomknhloimhcaa.T
