/-
  A solid tile (contract of the laws' fill).
-/
import Derived.Test.YtjaipjgnchpjcaaPFwd
import Derived.Test.YtjaipjgnchpjcaaPCost
namespace Go.Proofs.Ytjaipjgnchpjcaa.P
open Go.RowKit T Go.Shelf
set_option maxRecDepth 100000

theorem load_pt {b : Nat} {f g : Nat → Px} {w : World} (h : w.heap[b]? = some (tob (pt f g 64))) : (Instr.loadAt 25 (.pointer (some ⟨b, 0, none⟩))).run Try.prog w = .ok (tv g) w := by
  have e : tob (pt f g 64) = tob g := congrArg (fun c => Obj.cells c 25) (pt_all f g)
  rw [e] at h
  exact load_tile b g w h
set_option maxHeartbeats 4000000 in
theorem fill_any (p : Px) (w : World) : Calls Try.prog 20 #[p.v] w fun e w' => e = .returned (tv (fun _ => p)) ∧ Below w.heap.size w w' := by
  have hs := ((St.start w).alloc (pxo p)).alloc (tob z0)
  simp only [World.size_alloc] at hs
  obtain ⟨V2, hV2⟩ : ∃ V2, V2 = (w.alloc (pxo p)).alloc (tob z0) := ⟨_, rfl⟩
  rw [← hV2] at hs
  have hz2 : V2.heap.size = w.heap.size + 1 + 1 := by rw [hV2]; simp
  obtain ⟨b0, hb0⟩ : ∃ b0, b0 = w.heap.size := ⟨_, rfl⟩
  rw [← hb0] at hs hz2
  have hA := World.alloc_heap_new V2 (tob z0)
  have h4 := St.rowset (ds := tc z0) (hs.alloc (tob z0)) (by omega) (by simp; omega)
  rw [hz2] at hA h4
  have HA := Lib.hid hA
  have HZ2 := Lib.hid hz2
  have H4 := Lib.hid h4
  have HV := Lib.hid hV2
  have HB0 := Lib.hid hb0
  have hzt := zero_tile
  clear hs hV2 hz2 hA h4 hb0
  go_enter Try.func20, Try.ntmps20
  go_upto_region 1 with fail
  try simp only [Act.put, List.setIfInBounds_toArray, List.set_cons_zero, List.set_cons_succ]
  have e1 : (w.alloc (.cells #[.int .u8 p.r, .int .u8 p.g, .int .u8 p.b, .int .u8 p.a] 23)).alloc (tob z0) = V2 := HV.out.symm
  rw [e1]
  clear e1 hzt
  try simp only [World.size_alloc]
  try rw [← HB0.out]
  refine wp_region_lit ?_
  refine wpList_build0 rfl 25 rfl _ (built0 _) ?_
  simp only [Act.put, List.setIfInBounds_toArray, List.set_cons_zero, List.set_cons_succ]
  refine wpList_alloc_of rfl 25 rfl _ (zero_tile _) ?_
  simp only [Act.put, List.setIfInBounds_toArray, List.set_cons_zero, List.set_cons_succ]
  rw [HZ2.out]
  refine wpList_store_of rfl 25 _ _ rfl (store_tile (b0 + 1 + 1) z0 z0 _ HA.out) ?_
  simp only [Act.put]
  generalize (V2.alloc (.cells (tc z0) 25)).setRow (b0 + 1 + 1) (tc z0) = V3 at H4 ⊢
  clear HA HZ2 HV
  go_wp2
  go_loopw [4] (fun v wr => ∃ k : Nat, k ≤ 64 ∧ v = .int .i64 k ∧ Hid (St w [(b0 + 1 + 1, tob (pt z0 (fun _ => p) k)), (b0 + 1, tob z0), (b0, pxo p)] wr)) (fun i _ => 64 - (intOf i).toNat)
  case atStart => exact ⟨0, by omega, rfl, by rw [pt_zero]; exact H4.out⟩
  case round =>
    clear H4
    obtain ⟨k, hk, rfl, HT⟩ := hrel
    by_cases hlt : k < 64
    · have hiy := index_px (b0 + 1 + 1) k hlt
      have HL := Lib.hid (load_px0 b0 p wr (HT.out.row (b := b0) (o := pxo p) (by simp)))
      have HST := Lib.hid (store_px (b0 + 1 + 1) (pt z0 (fun _ => p) k) k p hlt wr (HT.out.row (b := b0 + 1 + 1) (o := tob (pt z0 (fun _ => p) k)) (by simp)))
      have h5 := St.rowset (ds := tc (upd (pt z0 (fun _ => p) k) k p)) HT.out (by have := HB0.out; omega) (by first | (simp; done) | (simp; omega))
      have e5 := pt_succ z0 (fun _ => p) k
      rw [e5] at h5
      have H5 := Lib.hid h5
      have HE := Lib.hid e5
      clear h5 e5
      go_wp2_with (first
        | (refine wpList_load_of rfl 23 (.tmp 1) rfl _ HL.out ?_)
        | (refine wpList_store_of rfl 23 _ _ rfl HST.out ?_))
      rw [HE.out]
      go_roundw
      case rel => exact ⟨k + 1, by omega, by go_num, H5.out⟩
      case measure => simp [intOf]; omega
    · obtain rfl : k = 64 := by omega
      have HLA := Lib.hid (load_pt (HT.out.row (b := b0 + 1 + 1) (o := tob (pt z0 (fun _ => p) 64)) (by simp)))
      have HR := Lib.hid (HT.out.row (b := b0 + 1) (o := tob z0) (by simp))
      have HSA := Lib.hid (store_tile (b0 + 1) z0 (fun _ => p) wr HR.out)
      have HB := Lib.hid HT.out.below
      go_wp2_with (first
        | (refine wpList_load_of rfl 25 _ rfl _ HLA.out ?_)
        | (refine wpList_store_of rfl 25 _ _ rfl HSA.out ?_))
      exact bodyPost_ret (v := tv (fun _ => p)) (results_cell_row rfl _ _ (b0 + 1) _ _ _ _ rfl (setRow_heap _ _ _ _ _ _ HR.out) Try.underlying25 rfl (by rw [info_tile, tc_size])) rfl ⟨rfl, Below.setRow HB.out (by have := HB0.out; omega) _⟩
end Go.Proofs.Ytjaipjgnchpjcaa.P
