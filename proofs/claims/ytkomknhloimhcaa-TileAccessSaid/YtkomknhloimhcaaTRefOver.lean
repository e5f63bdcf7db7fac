/-
  Over of the reference (contract).
-/
import Derived.Test.YtkomknhloimhcaaTRefB
import Derived.Test.YtkomknhloimhcaaRefOver
namespace Go.Proofs.Ytkomknhloimhcaa.T
open Go.RowKit Go.Shelf

set_option maxRecDepth 100000 in
set_option maxHeartbeats 4000000 in
theorem refTOver_any (p q : Nat → Px) (m : Int) (c : Nat → Int) (w : World) (hp : ∀ i, i < 64 → Pc (p i)) (hq : ∀ i, i < 64 → Pc (q i)) (hc : ∀ i, i < 64 → Ch (c i)) : Calls Try.prog 25 #[tv p, tv q, .int .i64 m, .agg (cvc c)] w fun e w' => e = .returned (tv (fun i => ovr (p i) (q i) m (c i))) ∧ Below w.heap.size w w' := by
  obtain ⟨V2, hV2⟩ : ∃ V2, V2 = ((((w.alloc (tob p)).alloc (tob q)).alloc (cvo c)).alloc (tob z0)) := ⟨_, rfl⟩
  have hs := (((((St.start w).alloc (tob p)).alloc (tob q)).alloc (cvo c)).alloc (tob z0))
  simp only [World.size_alloc] at hs
  rw [← hV2] at hs
  have hz2 : V2.heap.size = w.heap.size + 1 + 1 + 1 + 1 := by rw [hV2]; simp
  have h3 := hs.alloc (tob z0)
  have hA := World.alloc_heap_new V2 (tob z0)
  have h4 := St.rowset (ds := tc z0) h3 (by omega) (by simp; omega)
  rw [hz2] at hA h4
  have HA := Lib.hid hA
  have HZ2 := Lib.hid hz2
  have H4 := Lib.hid h4
  clear hA hz2 h3 h4
  have HV := Lib.hid hV2
  have hzt := zero_tile
  clear hs hV2
  go_enter Try.func25, Try.ntmps25
  go_upto_region 1 with fail
  have e1 : ((((w.alloc (tob p)).alloc (tob q)).alloc (cvo c)).alloc (tob z0)) = V2 := HV.out.symm
  rw [e1]
  clear e1
  refine wp_region_lit ?_
  refine wpList_build0 rfl 25 rfl _ (built0 _) ?_
  simp only [Act.put, List.setIfInBounds_toArray, List.set_cons_zero, List.set_cons_succ]
  refine wpList_alloc_of rfl 25 rfl _ (zero_tile _) ?_
  simp only [Act.put, List.setIfInBounds_toArray, List.set_cons_zero, List.set_cons_succ]
  rw [HZ2.out]
  refine wpList_store_of rfl 25 _ _ rfl (store_tile (w.heap.size + 1 + 1 + 1 + 1) z0 z0 _ HA.out) ?_
  simp only [Act.put]
  generalize (V2.alloc (.cells (tc z0) 25)).setRow (w.heap.size + 1 + 1 + 1 + 1) (tc z0) = V3 at H4 ⊢
  have HP := Lib.hid hp
  have HQ := Lib.hid hq
  have HC := Lib.hid hc
  clear hp hq hc
  go_wp2
  go_loopw [10] (fun v wr => ∃ k : Nat, k ≤ 64 ∧ v = .int .i64 k ∧ Hid (St w [(w.heap.size + 1 + 1 + 1 + 1, tob (pt z0 (fun i => ovr (p i) (q i) m (c i)) k)), (w.heap.size + 1 + 1 + 1, tob z0), (w.heap.size + 1 + 1, cvo c), (w.heap.size + 1, tob q), (w.heap.size, tob p)] wr)) (fun i _ => 64 - (intOf i).toNat)
  case atStart => exact ⟨0, by omega, rfl, by rw [pt_zero]; exact H4.out⟩
  case round =>
    obtain ⟨k, hk, rfl, HT⟩ := hrel
    by_cases hlt : k < 64
    · have hix := index_px w.heap.size k hlt
      have hiy := index_px (w.heap.size + 1) k hlt
      have hiz := index_cov (w.heap.size + 1 + 1) k hlt
      have hiu := index_px (w.heap.size + 1 + 1 + 1 + 1) k hlt
      have hcw : IntKind.i64.wrap (c k) = c k := w64 (HC.out k hlt)
      have HJ : Hid (∀ F V3, St w [(w.heap.size + 1 + 1 + 1 + 1, tob (F)), (w.heap.size + 1 + 1 + 1, tob z0), (w.heap.size + 1 + 1, cvo c), (w.heap.size + 1, tob q), (w.heap.size, tob p)] V3 → Q4 V3 w.heap.size k (p k) ∧ Q4 V3 (w.heap.size + 1) k (q k) ∧ V3.cell? ⟨w.heap.size + 1 + 1, k, none⟩ = some (.int .u8 (c k))) := fun F V3 h => ⟨h.q4 (b := w.heap.size) (f := p) (by simp) k hlt, h.q4 (b := w.heap.size + 1) (f := q) (by simp) k hlt, (h.cell (b := w.heap.size + 1 + 1) (t := 37) (cs := cvc c) (by simp) k).trans (cvc_get c k hlt)⟩
      have hs := HT.out.drew
      have e5 : upd (pt z0 (fun i => ovr (p i) (q i) m (c i)) k) k (ovr (p k) (q k) m (c k)) = pt z0 (fun i => ovr (p i) (q i) m (c i)) (k + 1) := pt_succ z0 (fun i => ovr (p i) (q i) m (c i)) k
      have hpk := HP.out k hlt
      have hqk := HQ.out k hlt
      have HX := Lib.hid (St.call hs (refOver_any (p k).r (p k).g (p k).b (p k).a (q k).r (q k).g (q k).b (q k).a m (c k) wr.drew hpk.1 hpk.2.1 hpk.2.2.1 hpk.2.2.2 hqk.1 hqk.2.1 hqk.2.2.1 hqk.2.2.2))
      have HE := Lib.hid e5
      clear e5 hpk hqk
      go_upto_region 5 with fail
      refine wp_region_held_drew (S := fun V3 => Q4 V3 w.heap.size k (p k) ∧ Q4 V3 (w.heap.size + 1) k (q k) ∧ V3.cell? ⟨w.heap.size + 1 + 1, k, none⟩ = some (.int .u8 (c k))) (by kernel_rfl) ?_ (fun hHeld => ?_)
      · (first | exact HJ.out _ _ h5 | exact HJ.out _ _ h4 | exact HJ.out _ _ hs)
      refine wpAnyH_take (i := 0) (oi := { dst := some 16, op := Op.move (Operand.tmp 10), type := 3, pos := "ref.go:78", after := #[], guard := none }) (v := ?_) rfl (by kernel_rfl) (by kernel_rfl) (by kernel_rfl) (fun _ _ _ h => h) (Or.inl ⟨by kernel_rfl, ?_⟩) (by assumption) ?_
      rotate_left 1
      focus (intro w hSw; (try dsimp only at hSw); go_simp; (try with_reducible rfl))
      try simp only [Act.put, List.setIfInBounds_toArray, List.set_cons_zero, List.set_cons_succ]
      refine wpAnyH_take (i := 1) (oi := { dst := some 17, op := Op.move (Operand.tmp 10), type := 3, pos := "ref.go:78", after := #[], guard := none }) (v := ?_) rfl (by kernel_rfl) (by kernel_rfl) (by kernel_rfl) (fun _ _ _ h => h) (Or.inl ⟨by kernel_rfl, ?_⟩) (by assumption) ?_
      rotate_left 1
      focus (intro w hSw; (try dsimp only at hSw); go_simp; (try with_reducible rfl))
      try simp only [Act.put, List.setIfInBounds_toArray, List.set_cons_zero, List.set_cons_succ]
      refine wpAnyH_take (i := 2) (oi := { dst := some 18, op := Op.indexAddr 25 (Operand.tmp 4) (Operand.tmp 17), type := 0, pos := "ref.go:78", after := #[{ on := 1, ground := Ground.data }], guard := none }) (v := ?_) rfl (by kernel_rfl) (by kernel_rfl) (by kernel_rfl) (fun _ _ _ h => h) (Or.inl ⟨by kernel_rfl, ?_⟩) (by assumption) ?_
      rotate_left 1
      focus (intro w hSw; (try dsimp only at hSw); go_simp; (try with_reducible rfl))
      try simp only [Act.put, List.setIfInBounds_toArray, List.set_cons_zero, List.set_cons_succ]
      refine wpAnyH_take (i := 3) (oi := { dst := some 19, op := Op.load 23 (Operand.tmp 18), type := 23, pos := "ref.go:78", after := #[{ on := 2, ground := Ground.data }], guard := none }) (v := ?_) rfl (by kernel_rfl) (by kernel_rfl) (by kernel_rfl) (fun _ _ _ h => h) (Or.inl ⟨by kernel_rfl, ?_⟩) (by assumption) ?_
      rotate_left 1
      focus (intro w hSw; (try dsimp only at hSw); go_simp; (try with_reducible rfl))
      try simp only [Act.put, List.setIfInBounds_toArray, List.set_cons_zero, List.set_cons_succ]
      refine wpAnyH_take (i := 4) (oi := { dst := some 20, op := Op.move (Operand.tmp 10), type := 3, pos := "ref.go:78", after := #[], guard := none }) (v := ?_) rfl (by kernel_rfl) (by kernel_rfl) (by kernel_rfl) (fun _ _ _ h => h) (Or.inl ⟨by kernel_rfl, ?_⟩) (by assumption) ?_
      rotate_left 1
      focus (intro w hSw; (try dsimp only at hSw); go_simp; (try with_reducible rfl))
      try simp only [Act.put, List.setIfInBounds_toArray, List.set_cons_zero, List.set_cons_succ]
      refine wpAnyH_take (i := 5) (oi := { dst := some 21, op := Op.indexAddr 25 (Operand.tmp 5) (Operand.tmp 20), type := 0, pos := "ref.go:78", after := #[{ on := 4, ground := Ground.data }], guard := none }) (v := ?_) rfl (by kernel_rfl) (by kernel_rfl) (by kernel_rfl) (fun _ _ _ h => h) (Or.inl ⟨by kernel_rfl, ?_⟩) (by assumption) ?_
      rotate_left 1
      focus (intro w hSw; (try dsimp only at hSw); go_simp; (try with_reducible rfl))
      try simp only [Act.put, List.setIfInBounds_toArray, List.set_cons_zero, List.set_cons_succ]
      refine wpAnyH_take (i := 6) (oi := { dst := some 22, op := Op.load 23 (Operand.tmp 21), type := 23, pos := "ref.go:78", after := #[{ on := 5, ground := Ground.data }], guard := none }) (v := ?_) rfl (by kernel_rfl) (by kernel_rfl) (by kernel_rfl) (fun _ _ _ h => h) (Or.inl ⟨by kernel_rfl, ?_⟩) (by assumption) ?_
      rotate_left 1
      focus (intro w hSw; (try dsimp only at hSw); go_simp; (try with_reducible rfl))
      try simp only [Act.put, List.setIfInBounds_toArray, List.set_cons_zero, List.set_cons_succ]
      refine wpAnyH_take (i := 7) (oi := { dst := some 23, op := Op.move (Operand.tmp 2), type := 3, pos := "ref.go:78", after := #[], guard := none }) (v := ?_) rfl (by kernel_rfl) (by kernel_rfl) (by kernel_rfl) (fun _ _ _ h => h) (Or.inl ⟨by kernel_rfl, ?_⟩) (by assumption) ?_
      rotate_left 1
      focus (intro w hSw; (try dsimp only at hSw); go_simp; (try with_reducible rfl))
      try simp only [Act.put, List.setIfInBounds_toArray, List.set_cons_zero, List.set_cons_succ]
      refine wpAnyH_take (i := 8) (oi := { dst := some 24, op := Op.move (Operand.tmp 10), type := 3, pos := "ref.go:78", after := #[], guard := none }) (v := ?_) rfl (by kernel_rfl) (by kernel_rfl) (by kernel_rfl) (fun _ _ _ h => h) (Or.inl ⟨by kernel_rfl, ?_⟩) (by assumption) ?_
      rotate_left 1
      focus (intro w hSw; (try dsimp only at hSw); go_simp; (try with_reducible rfl))
      try simp only [Act.put, List.setIfInBounds_toArray, List.set_cons_zero, List.set_cons_succ]
      refine wpAnyH_take (i := 9) (oi := { dst := some 25, op := Op.indexAddr 37 (Operand.tmp 7) (Operand.tmp 24), type := 0, pos := "ref.go:78", after := #[{ on := 8, ground := Ground.data }], guard := none }) (v := ?_) rfl (by kernel_rfl) (by kernel_rfl) (by kernel_rfl) (fun _ _ _ h => h) (Or.inl ⟨by kernel_rfl, ?_⟩) (by assumption) ?_
      rotate_left 1
      focus (intro w hSw; (try dsimp only at hSw); go_simp; (try with_reducible rfl))
      try simp only [Act.put, List.setIfInBounds_toArray, List.set_cons_zero, List.set_cons_succ]
      refine wpAnyH_take (i := 10) (oi := { dst := some 26, op := Op.load 5 (Operand.tmp 25), type := 5, pos := "ref.go:78", after := #[{ on := 9, ground := Ground.data }], guard := none }) (v := ?_) rfl (by kernel_rfl) (by kernel_rfl) (by kernel_rfl) (fun _ _ _ h => h) (Or.inl ⟨by kernel_rfl, ?_⟩) (by assumption) ?_
      rotate_left 1
      focus (intro w hSw; (try dsimp only at hSw); go_simp; (try with_reducible rfl))
      try simp only [Act.put, List.setIfInBounds_toArray, List.set_cons_zero, List.set_cons_succ]
      refine wpAnyH_take (i := 11) (oi := { dst := some 27, op := Op.convert 5 3 (Operand.tmp 26), type := 3, pos := "ref.go:78", after := #[{ on := 10, ground := Ground.data }], guard := none }) (v := ?_) rfl (by kernel_rfl) (by kernel_rfl) (by kernel_rfl) (fun _ _ _ h => h) (Or.inl ⟨by kernel_rfl, ?_⟩) (by assumption) ?_
      rotate_left 1
      focus (intro w hSw; (try dsimp only at hSw); go_simp; (try with_reducible rfl))
      try simp only [Act.put, List.setIfInBounds_toArray, List.set_cons_zero, List.set_cons_succ]
      refine wpAnyH_ready (rs := [12]) (by kernel_rfl) (by simp) (AllReadyH.cons (o := { dst := some 28, op := Op.call { callee := Callee.value (Operand.func 47), args := #[Operand.tmp 19, Operand.tmp 22, Operand.tmp 23, Operand.tmp 27], argTypes := #[23, 23, 3, 3] }, type := 23, pos := "ref.go:78", after := #[{ on := 3, ground := Ground.data }, { on := 6, ground := Ground.data }, { on := 7, ground := Ground.data }, { on := 11, ground := Ground.data }], guard := none }) rfl (fun K hK => ?_) AllReadyH.nil)
      (go_simp; (go_at_call 47; (refine HX.out.mono ?_); rintro e V4 ⟨rfl, h4⟩; have hst := store_px (w.heap.size + 1 + 1 + 1 + 1) _ k (ovr (p k) (q k) m (c k)) hlt V4 (h4.row (b := w.heap.size + 1 + 1 + 1 + 1) (o := tob (pt z0 (fun i => ovr (p i) (q i) m (c i)) k)) (by simp)); have h5 := St.rowset (ds := tc (upd (pt z0 (fun i => ovr (p i) (q i) m (c i)) k) k (ovr (p k) (q k) m (c k)))) h4 (by omega) (by simp; omega); rw [HE.out] at h5 hst; have HST := Lib.hid hst; clear hst))
      refine hK.out _ _ ?_ (fun hHeld => ?_)
      · (first | exact HJ.out _ _ h5 | exact HJ.out _ _ h4 | exact HJ.out _ _ hs)
      clear hK K
      try simp only [Act.put, List.setIfInBounds_toArray, List.set_cons_zero, List.set_cons_succ]
      refine wpAnyH_take (i := 13) (oi := { dst := some 29, op := Op.indexAddr 25 (Operand.tmp 9) (Operand.tmp 16), type := 0, pos := "ref.go:78", after := #[{ on := 0, ground := Ground.data }, { on := 0, ground := Ground.phase }, { on := 1, ground := Ground.phase }, { on := 2, ground := Ground.phase }, { on := 3, ground := Ground.phase }, { on := 4, ground := Ground.phase }, { on := 5, ground := Ground.phase }, { on := 6, ground := Ground.phase }, { on := 7, ground := Ground.phase }, { on := 8, ground := Ground.phase }, { on := 9, ground := Ground.phase }, { on := 10, ground := Ground.phase }, { on := 11, ground := Ground.phase }, { on := 12, ground := Ground.phase }], guard := none }) (v := ?_) rfl (by kernel_rfl) (by kernel_rfl) (by kernel_rfl) (fun _ _ _ h => h) (Or.inl ⟨by kernel_rfl, ?_⟩) (by assumption) ?_
      rotate_left 1
      focus (intro w hSw; (try dsimp only at hSw); go_simp; (try with_reducible rfl))
      try simp only [Act.put, List.setIfInBounds_toArray, List.set_cons_zero, List.set_cons_succ]
      refine wpAnyH_ready (rs := [14]) (by kernel_rfl) (by simp) (AllReadyH.cons (o := { dst := none, op := Op.store 23 (Operand.tmp 29) (Operand.tmp 28), type := 0, pos := "ref.go:78", after := #[{ on := 13, ground := Ground.data }, { on := 12, ground := Ground.data }, { on := 12, ground := Ground.chain }, { on := 0, ground := Ground.phase }, { on := 1, ground := Ground.phase }, { on := 2, ground := Ground.phase }, { on := 3, ground := Ground.phase }, { on := 4, ground := Ground.phase }, { on := 5, ground := Ground.phase }, { on := 6, ground := Ground.phase }, { on := 7, ground := Ground.phase }, { on := 8, ground := Ground.phase }, { on := 9, ground := Ground.phase }, { on := 10, ground := Ground.phase }, { on := 11, ground := Ground.phase }, { on := 12, ground := Ground.phase }], guard := none }) rfl (fun K hK => ?_) AllReadyH.nil)
      refine wp_store_of 23 _ _ rfl HST.out ?_
      refine hK.out _ _ ?_ (fun hHeld => ?_)
      · (first | exact HJ.out _ _ h5 | exact HJ.out _ _ h4 | exact HJ.out _ _ hs)
      clear hK K
      try simp only [Act.put]
      refine wpAnyH_done (by kernel_rfl) ?_ _
      have H5 := Lib.hid h5
      go_wp2
      go_roundw
      case rel => exact ⟨k + 1, by omega, by go_num, H5.out⟩
      case measure => simp [intOf]; omega
    · obtain rfl : k = 64 := by omega
      have HLA := Lib.hid (load_all (HT.out.row (b := w.heap.size + 1 + 1 + 1 + 1) (o := tob (pt (z0) (fun i => ovr (p i) (q i) m (c i)) 64)) (by simp)))
      have HR := Lib.hid (HT.out.row (b := w.heap.size + 1 + 1 + 1) (o := tob z0) (by simp))
      have HSA := Lib.hid (store_tile (w.heap.size + 1 + 1 + 1) z0 (fun i => ovr (p i) (q i) m (c i)) wr HR.out)
      have HB := Lib.hid HT.out.below
      go_wp2_with (first
        | (refine wpList_load_of rfl 25 _ rfl _ HLA.out ?_)
        | (refine wpList_store_of rfl 25 _ _ rfl HSA.out ?_))
      exact bodyPost_ret (v := tv (fun i => ovr (p i) (q i) m (c i))) (results_cell_row rfl _ _ (w.heap.size + 1 + 1 + 1) _ _ _ _ rfl (setRow_heap _ _ _ _ _ _ HR.out) Try.underlying25 rfl (by rw [info_tile, tc_size])) rfl ⟨rfl, Below.setRow HB.out (by omega) _⟩
end Go.Proofs.Ytkomknhloimhcaa.T
