/-
  Turn of the reference (contract).
-/
import Derived.Test.YtkomknhloimhcaaTRefB
import Derived.Test.YtkomknhloimhcaaTSym
namespace Go.Proofs.Ytkomknhloimhcaa.T
open Go.RowKit Go.Shelf

/-- the pixels whose origin comes before number n -/
def ps (s : Nat → Nat) (g : Nat → Px) (n : Nat) : Nat → Px := fun k => if s k < n then g k else zp
theorem ps_zero (s : Nat → Nat) (g : Nat → Px) : ps s g 0 = z0 := by funext k; simp [ps, z0]
theorem ps_all (g : Nat → Px) : tc (ps turnI g 64) = tc g := tc_ext fun _ hi => if_pos (turnI_lt hi)
theorem turn_step (f : Nat → Px) (k j : Nat) (hk : k < 8) (hj : j < 8) : tc (upd (ps turnI (fun i => f (turnI i)) (8 * k + j)) (8 * j + (7 - k)) (f (8 * k + j))) = tc (ps turnI (fun i => f (turnI i)) (8 * k + (j + 1))) := by
  refine tc_ext fun i hi => ?_
  unfold upd ps
  by_cases h : i = 8 * j + (7 - k)
  · have e : turnI i = 8 * k + j := by subst h; unfold turnI; omega
    rw [if_pos h, e, if_pos (by omega)]
    exact congrArg f e.symm
  · have e : turnI i ≠ 8 * k + j := by unfold turnI; omega
    rw [if_neg h]
    by_cases h2 : turnI i < 8 * k + j
    · rw [if_pos h2, if_pos (by omega)]
    · rw [if_neg h2, if_neg (by omega)]
theorem load_alls {b : Nat} {g : Nat → Px} {w : World} (h : w.heap[b]? = some (tob (ps turnI g 64))) : (Instr.loadAt 25 (.pointer (some ⟨b, 0, none⟩))).run Try.prog w = .ok (tv g) w := by
  have e : tob (ps turnI g 64) = tob g := congrArg (fun c => Obj.cells c 25) (ps_all g)
  rw [e] at h
  exact load_tile b g w h
set_option maxRecDepth 100000 in
set_option maxHeartbeats 4000000 in
theorem refTurn_any (f : Nat → Px) (w : World)  : Calls Try.prog 31 #[tv f] w fun e w' => e = .returned (tv (fun i => f (turnI i))) ∧ Below w.heap.size w w' := by
  obtain ⟨V2, hV2⟩ : ∃ V2, V2 = ((w.alloc (tob f)).alloc (tob z0)) := ⟨_, rfl⟩
  have hs := (((St.start w).alloc (tob f)).alloc (tob z0))
  simp only [World.size_alloc] at hs
  rw [← hV2] at hs
  have hz2 : V2.heap.size = w.heap.size + 1 + 1 := by rw [hV2]; simp
  have h3 := hs.alloc (tob z0)
  have hA := World.alloc_heap_new V2 (tob z0)
  have h4 := St.rowset (ds := tc z0) h3 (by omega) (by simp; omega)
  rw [hz2] at hA h4
  have HA := Lib.hid hA
  have HZ2 := Lib.hid hz2
  have H4 := Lib.hid h4
  clear hA hz2 h3 h4
  have HV := Lib.hid hV2
  have hzt := zero_tile
  clear hs hV2
  go_enter Try.func31, Try.ntmps31
  go_upto_region 1 with fail
  have e1 : ((w.alloc (tob f)).alloc (tob z0)) = V2 := HV.out.symm
  rw [e1]
  clear e1
  refine wp_region_lit ?_
  refine wpList_build0 rfl 25 rfl _ (built0 _) ?_
  simp only [Act.put, List.setIfInBounds_toArray, List.set_cons_zero, List.set_cons_succ]
  refine wpList_alloc_of rfl 25 rfl _ (zero_tile _) ?_
  simp only [Act.put, List.setIfInBounds_toArray, List.set_cons_zero, List.set_cons_succ]
  rw [HZ2.out]
  refine wpList_store_of rfl 25 _ _ rfl (store_tile (w.heap.size + 1 + 1) z0 z0 _ HA.out) ?_
  simp only [Act.put]
  generalize (V2.alloc (.cells (tc z0) 25)).setRow (w.heap.size + 1 + 1) (tc z0) = V3 at H4 ⊢
  go_wp2
  go_loopw [4] (fun v wr => ∃ k : Nat, k ≤ 8 ∧ v = .int .i64 k ∧ Hid (St w [(w.heap.size + 1 + 1, tob (ps turnI (fun i => f (turnI i)) (8 * k))), (w.heap.size + 1, tob z0), (w.heap.size, tob f)] wr)) (fun i _ => 8 - (intOf i).toNat)
  case atStart => exact ⟨0, by omega, rfl, by rw [Nat.mul_zero, ps_zero]; exact H4.out⟩
  case round =>
    obtain ⟨k, hk, rfl, HT⟩ := hrel
    by_cases hlt : k < 8
    · go_wp2
      generalize decide ((k : Int) < 8) = bz0
      go_loopw [5] (fun v wr => ∃ j : Nat, j ≤ 8 ∧ v = .int .i64 j ∧ Hid (St w [(w.heap.size + 1 + 1, tob (ps turnI (fun i => f (turnI i)) (8 * k + j))), (w.heap.size + 1, tob z0), (w.heap.size, tob f)] wr)) (fun i _ => 8 - (intOf i).toNat)
      case atStart => exact ⟨0, by omega, rfl, HT.out⟩
      case round =>
        obtain ⟨j, hj, rfl, HT⟩ := hrel
        by_cases hlj : j < 8
        · have hix := fun W => index_at (t := 25) (n := 64) Try.underlying25 size_px (w.heap.size + 1 + 1) 0 (8 * j + (7 - k)) (8 * (j : Int) + 7 - (k : Int)) (by omega) (by omega) W
          have hiy := fun W => index_at (t := 25) (n := 64) Try.underlying25 size_px (w.heap.size) 0 (8 * k + j) (8 * (k : Int) + (j : Int)) (by omega) (by omega) W
          rw [show 0 + (8 * j + (7 - k)) * 4 = 4 * (8 * j + (7 - k)) by omega] at hix
          rw [show 0 + (8 * k + j) * 4 = 4 * (8 * k + j) by omega] at hiy
          have HL := Lib.hid (load_px w.heap.size f (8 * k + j) (by omega) wr (HT.out.row (b := w.heap.size) (o := tob f) (by simp)))
          have hst := store_px (w.heap.size + 1 + 1) _ (8 * j + (7 - k)) (f (8 * k + j)) (by omega) wr (HT.out.row (b := w.heap.size + 1 + 1) (o := tob (ps turnI (fun i => f (turnI i)) (8 * k + j))) (by simp))
          have h5 := St.rowset (ds := tc (upd (ps turnI (fun i => f (turnI i)) (8 * k + j)) (8 * j + (7 - k)) (f (8 * k + j)))) HT.out (by omega) (by simp; omega)
          have e5 : tc (upd (ps turnI (fun i => f (turnI i)) (8 * k + j)) (8 * j + (7 - k)) (f (8 * k + j))) = tc (ps turnI (fun i => f (turnI i)) (8 * k + (j + 1))) := turn_step f k j hlt hlj
          rw [e5] at h5 hst
          have H5 := Lib.hid h5
          have HST := Lib.hid hst
          clear h5 hst e5
          go_wp2_with (first
            | (refine wpList_load_of rfl 23 _ rfl _ HL.out ?_)
            | (refine wpList_store_of rfl 23 _ _ rfl HST.out ?_))
          go_roundw
          case rel => exact ⟨j + 1, by omega, by go_num, H5.out⟩
          case measure => simp [intOf]; omega
        · obtain rfl : j = 8 := by omega
          go_wp2
          go_roundw
          case rel => exact ⟨k + 1, by omega, by go_num, HT.out⟩
          case measure => simp [intOf]; omega
    · obtain rfl : k = 8 := by omega
      have HLA := Lib.hid (load_alls (HT.out.row (b := w.heap.size + 1 + 1) (o := tob (ps turnI (fun i => f (turnI i)) 64)) (by simp)))
      have HR := Lib.hid (HT.out.row (b := w.heap.size + 1) (o := tob z0) (by simp))
      have HSA := Lib.hid (store_tile (w.heap.size + 1) z0 (fun i => f (turnI i)) wr HR.out)
      have HB := Lib.hid HT.out.below
      go_wp2_with (first
        | (refine wpList_load_of rfl 25 _ rfl _ HLA.out ?_)
        | (refine wpList_store_of rfl 25 _ _ rfl HSA.out ?_))
      exact bodyPost_ret (v := tv (fun i => f (turnI i))) (results_cell_row rfl _ _ (w.heap.size + 1) _ _ _ _ rfl (setRow_heap _ _ _ _ _ _ HR.out) Try.underlying25 rfl (by rw [info_tile, tc_size])) rfl ⟨rfl, Below.setRow HB.out (by omega) _⟩
end Go.Proofs.Ytkomknhloimhcaa.T
