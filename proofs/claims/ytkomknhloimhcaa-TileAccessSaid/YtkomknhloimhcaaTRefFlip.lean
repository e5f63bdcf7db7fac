/-
  Flip of the reference (contract).
-/
import Derived.Test.YtkomknhloimhcaaTRefB
import Derived.Test.YtkomknhloimhcaaTSym
namespace Go.Proofs.Ytkomknhloimhcaa.T
open Go.RowKit Go.Shelf

theorem flip_step (f : Nat → Px) (k j : Nat) (hk : k < 8) (hj : j < 8) : tc (upd (pt z0 (fun i => f (flipI i)) (8 * k + j)) (8 * k + j) (f (8 * k + 7 - j))) = tc (pt z0 (fun i => f (flipI i)) (8 * k + (j + 1))) := by
  have e : flipI (8 * k + j) = 8 * k + 7 - j := by unfold flipI; omega
  rw [← e]
  exact congrArg tc (pt_succ z0 (fun i => f (flipI i)) (8 * k + j))
set_option maxRecDepth 100000 in
set_option maxHeartbeats 4000000 in
theorem refFlip_any (f : Nat → Px) (w : World)  : Calls Try.prog 29 #[tv f] w fun e w' => e = .returned (tv (fun i => f (flipI i))) ∧ Below w.heap.size w w' := by
  obtain ⟨V2, hV2⟩ : ∃ V2, V2 = ((w.alloc (tob f)).alloc (tob z0)) := ⟨_, rfl⟩
  have hs := (((St.start w).alloc (tob f)).alloc (tob z0))
  simp only [World.size_alloc] at hs
  rw [← hV2] at hs
  have hz2 : V2.heap.size = w.heap.size + 1 + 1 := by rw [hV2]; simp
  have h3 := hs.alloc (tob z0)
  have hA := World.alloc_heap_new V2 (tob z0)
  have h4 := St.rowset (ds := tc z0) h3 (by omega) (by simp; omega)
  rw [hz2] at hA h4
  have HA := Lib.hid hA
  have HZ2 := Lib.hid hz2
  have H4 := Lib.hid h4
  clear hA hz2 h3 h4
  have HV := Lib.hid hV2
  have hzt := zero_tile
  clear hs hV2
  go_enter Try.func29, Try.ntmps29
  go_upto_region 1 with fail
  have e1 : ((w.alloc (tob f)).alloc (tob z0)) = V2 := HV.out.symm
  rw [e1]
  clear e1
  refine wp_region_lit ?_
  refine wpList_build0 rfl 25 rfl _ (built0 _) ?_
  simp only [Act.put, List.setIfInBounds_toArray, List.set_cons_zero, List.set_cons_succ]
  refine wpList_alloc_of rfl 25 rfl _ (zero_tile _) ?_
  simp only [Act.put, List.setIfInBounds_toArray, List.set_cons_zero, List.set_cons_succ]
  rw [HZ2.out]
  refine wpList_store_of rfl 25 _ _ rfl (store_tile (w.heap.size + 1 + 1) z0 z0 _ HA.out) ?_
  simp only [Act.put]
  generalize (V2.alloc (.cells (tc z0) 25)).setRow (w.heap.size + 1 + 1) (tc z0) = V3 at H4 ⊢
  go_wp2
  go_loopw [4] (fun v wr => ∃ k : Nat, k ≤ 8 ∧ v = .int .i64 k ∧ Hid (St w [(w.heap.size + 1 + 1, tob (pt z0 (fun i => f (flipI i)) (8 * k))), (w.heap.size + 1, tob z0), (w.heap.size, tob f)] wr)) (fun i _ => 8 - (intOf i).toNat)
  case atStart => exact ⟨0, by omega, rfl, by rw [Nat.mul_zero, pt_zero]; exact H4.out⟩
  case round =>
    obtain ⟨k, hk, rfl, HT⟩ := hrel
    by_cases hlt : k < 8
    · go_wp2
      generalize decide ((k : Int) < 8) = bz0
      go_loopw [5] (fun v wr => ∃ j : Nat, j ≤ 8 ∧ v = .int .i64 j ∧ Hid (St w [(w.heap.size + 1 + 1, tob (pt z0 (fun i => f (flipI i)) (8 * k + j))), (w.heap.size + 1, tob z0), (w.heap.size, tob f)] wr)) (fun i _ => 8 - (intOf i).toNat)
      case atStart => exact ⟨0, by omega, rfl, HT.out⟩
      case round =>
        obtain ⟨j, hj, rfl, HT⟩ := hrel
        by_cases hlj : j < 8
        · have hix := fun W => index_at (t := 25) (n := 64) Try.underlying25 size_px (w.heap.size + 1 + 1) 0 (8 * k + j) (8 * (k : Int) + (j : Int)) (by omega) (by omega) W
          have hiy := fun W => index_at (t := 25) (n := 64) Try.underlying25 size_px (w.heap.size) 0 (8 * k + 7 - j) (8 * (k : Int) + 7 - (j : Int)) (by omega) (by omega) W
          rw [show 0 + (8 * k + j) * 4 = 4 * (8 * k + j) by omega] at hix
          rw [show 0 + (8 * k + 7 - j) * 4 = 4 * (8 * k + 7 - j) by omega] at hiy
          have HL := Lib.hid (load_px w.heap.size f (8 * k + 7 - j) (by omega) wr (HT.out.row (b := w.heap.size) (o := tob f) (by simp)))
          have hst := store_px (w.heap.size + 1 + 1) _ (8 * k + j) (f (8 * k + 7 - j)) (by omega) wr (HT.out.row (b := w.heap.size + 1 + 1) (o := tob (pt z0 (fun i => f (flipI i)) (8 * k + j))) (by simp))
          have h5 := St.rowset (ds := tc (upd (pt z0 (fun i => f (flipI i)) (8 * k + j)) (8 * k + j) (f (8 * k + 7 - j)))) HT.out (by omega) (by simp; omega)
          have e5 : tc (upd (pt z0 (fun i => f (flipI i)) (8 * k + j)) (8 * k + j) (f (8 * k + 7 - j))) = tc (pt z0 (fun i => f (flipI i)) (8 * k + (j + 1))) := flip_step f k j hlt hlj
          rw [e5] at h5 hst
          have H5 := Lib.hid h5
          have HST := Lib.hid hst
          clear h5 hst e5
          go_wp2_with (first
            | (refine wpList_load_of rfl 23 _ rfl _ HL.out ?_)
            | (refine wpList_store_of rfl 23 _ _ rfl HST.out ?_))
          go_roundw
          case rel => exact ⟨j + 1, by omega, by go_num, H5.out⟩
          case measure => simp [intOf]; omega
        · obtain rfl : j = 8 := by omega
          go_wp2
          go_roundw
          case rel => exact ⟨k + 1, by omega, by go_num, HT.out⟩
          case measure => simp [intOf]; omega
    · obtain rfl : k = 8 := by omega
      have HLA := Lib.hid (load_all (HT.out.row (b := w.heap.size + 1 + 1) (o := tob (pt (z0) (fun i => f (flipI i)) 64)) (by simp)))
      have HR := Lib.hid (HT.out.row (b := w.heap.size + 1) (o := tob z0) (by simp))
      have HSA := Lib.hid (store_tile (w.heap.size + 1) z0 (fun i => f (flipI i)) wr HR.out)
      have HB := Lib.hid HT.out.below
      go_wp2_with (first
        | (refine wpList_load_of rfl 25 _ rfl _ HLA.out ?_)
        | (refine wpList_store_of rfl 25 _ _ rfl HSA.out ?_))
      exact bodyPost_ret (v := tv (fun i => f (flipI i))) (results_cell_row rfl _ _ (w.heap.size + 1) _ _ _ _ rfl (setRow_heap _ _ _ _ _ _ HR.out) Try.underlying25 rfl (by rw [info_tile, tc_size])) rfl ⟨rfl, Below.setRow HB.out (by omega) _⟩
end Go.Proofs.Ytkomknhloimhcaa.T
