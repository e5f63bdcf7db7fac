/-
  Flip and Turn of tile (contracts).
-/
import Derived.Test.YtligojllbnahcaaDoorTFun
namespace Go.Proofs.YtligojllbnahcaaDoor.T
open Go.RowKit Go.Shelf
variable {W w w' : World} {L : List (Nat × Obj)}

def flipI (i : Nat) : Nat := 8 * (i / 8) + (7 - i % 8)
def turnI (i : Nat) : Nat := 8 * (7 - i % 8) + i / 8
theorem flipI_lt {i : Nat} (h : i < 64) : flipI i < 64 := by unfold flipI; omega
theorem turnI_lt {i : Nat} (h : i < 64) : turnI i < 64 := by unfold turnI; omega
theorem flipI_xy {i : Nat} (_h : i < 64) : ((flipI i : Nat) : Int) % 8 = 7 - (i : Int) % 8 ∧ ((flipI i : Nat) : Int) / 8 = (i : Int) / 8 := by unfold flipI; omega
theorem turnI_xy {i : Nat} (_h : i < 64) : ((turnI i : Nat) : Int) % 8 = (i : Int) / 8 ∧ ((turnI i : Nat) : Int) / 8 = 7 - (i : Int) % 8 := by unfold turnI; omega

theorem index_any (x y : Int) (w : World) (hx : 0 ≤ x) (hx' : x < 8) (hy : 0 ≤ y) (hy' : y < 8) : Calls Tryd.prog 28 #[.int .i64 x, .int .i64 y] w fun e w' => e = .returned (.int .i64 (8 * y + x)) ∧ w = w' := by
  go_enter Tryd.func28, Tryd.ntmps28
  go_wp2
  go_ret
  exact ⟨rfl, rfl⟩
theorem index_pl (j : Nat) (hj : j < 64) (w : World) : Calls Tryd.prog 28 #[.int .i64 ((j : Int) % 8), .int .i64 ((j : Int) / 8)] w fun e w' => e = .returned (.int .i64 j) ∧ w = w' :=
  (index_any _ _ w (by omega) (by omega) (by omega) (by omega)).mono fun _ _ ⟨h1, h2⟩ => ⟨h1.trans (ret_int (by omega)), h2⟩

set_option maxHeartbeats 1000000 in
theorem flip1 (i : Nat) (w : World) (hi : i < 64) : Calls Tryd.prog 34 #[ptv i] w fun e w' => e = .returned (ptv (flipI i)) ∧ Below w.heap.size w w' := by
  obtain ⟨hx, hy⟩ := flipI_xy hi
  have hxb : 0 ≤ (i : Int) % 8 ∧ (i : Int) % 8 < 8 := by omega
  have hyb : 0 ≤ (i : Int) / 8 ∧ (i : Int) / 8 < 8 := by omega
  have HR : Hid (ptv (flipI i) = .agg #[.int .i64 (7 - (i : Int) % 8), .int .i64 ((i : Int) / 8)]) := by unfold ptv; rw [hx, hy]; exact rfl
  clear hx hy
  unfold ptv at *
  generalize (i : Int) % 8 = x at *
  generalize (i : Int) / 8 = y at *
  go_enter Tryd.func34, Tryd.ntmps34
  go_wp2
  exact bodyPost_ret (v := .agg #[.int .i64 (7 - x), .int .i64 y]) (by simp [results, Tryd.results34, go_sem]) rfl ⟨by rw [HR.out], ((Below.refl w.heap.size w).alloc (Nat.le_refl _) _).alloc (by simp) _⟩
set_option maxHeartbeats 1000000 in
theorem turn1 (i : Nat) (w : World) (hi : i < 64) : Calls Tryd.prog 35 #[ptv i] w fun e w' => e = .returned (ptv (turnI i)) ∧ Below w.heap.size w w' := by
  obtain ⟨hx, hy⟩ := turnI_xy hi
  have hxb : 0 ≤ (i : Int) % 8 ∧ (i : Int) % 8 < 8 := by omega
  have hyb : 0 ≤ (i : Int) / 8 ∧ (i : Int) / 8 < 8 := by omega
  have HR : Hid (ptv (turnI i) = .agg #[.int .i64 ((i : Int) / 8), .int .i64 (7 - (i : Int) % 8)]) := by unfold ptv; rw [hx, hy]; exact rfl
  clear hx hy
  unfold ptv at *
  generalize (i : Int) % 8 = x at *
  generalize (i : Int) / 8 = y at *
  go_enter Tryd.func35, Tryd.ntmps35
  go_wp2
  exact bodyPost_ret (v := .agg #[.int .i64 y, .int .i64 (7 - x)]) (by simp [results, Tryd.results35, go_sem]) rfl ⟨by rw [HR.out], ((Below.refl w.heap.size w).alloc (Nat.le_refl _) _).alloc (by simp) _⟩
-- the closure of rearrange, over an origin
set_option maxRecDepth 100000 in
set_option maxHeartbeats 4000000 in
theorem rear1 (f : Nat → Px) (s : Nat → Nat) (go : FuncId) (bo b i : Nat) (V : World) (hsi : s i < 64) (eg : ∀ args w, (callFunc go args).run Tryd.prog w = .ok (.enter go args) w)
    (ho : ∀ V3, Calls Tryd.prog go #[ptv i] V3 fun e w' => e = .returned (ptv (s i)) ∧ Below V3.heap.size V3 w') (h : V.heap[bo]? = some (vo (.func (.func go) #[] #[]) 64)) (h2 : V.heap[b]? = some (tob f)) :
    Calls Tryd.prog 46 (#[.int .i64 i, ptv i] ++ #[ptrB bo, ptrB b]) V fun e w' => e = .returned (f (s i)).v ∧ Below V.heap.size V w' := by
  have key : Calls Tryd.prog 46 #[.int .i64 i, ptv i, ptrB bo, ptrB b] V fun e w' => e = .returned (f (s i)).v ∧ Below V.heap.size V w' := by
    obtain ⟨V2, hV2⟩ : ∃ V2, V2 = (V.alloc (pto i)).alloc (pxo zp) := ⟨_, rfl⟩
    have hst := ((((St.start V).more h).more h2).alloc (pto i)).alloc (pxo zp)
    rw [World.size_alloc, ← hV2] at hst
    have hix := index_px b (s i) hsi
    have hc := hst.var (b := bo) (x := .func (.func go) #[] #[]) (t := 64) (by simp)
    have hp0 := hst.cell (b := V.heap.size) (cs := #[.int .i64 ((i : Int) % 8), .int .i64 ((i : Int) / 8)]) (t := 47) (by simp) 0
    have hp1 := hst.cell (b := V.heap.size) (cs := #[.int .i64 ((i : Int) % 8), .int .i64 ((i : Int) / 8)]) (t := 47) (by simp) 1
    have HO := Lib.hid (ho V2)
    have HI := Lib.hid (fun W => index_pl (s i) hsi W)
    have HV := Lib.hid hV2
    have HS := Lib.hid hst
    clear h h2 hst hV2 ho
    go_enter Tryd.func46, Tryd.ntmps46
    go_upto_region 1 with fail
    have e1 : (V.alloc (pto i)).alloc (po 0 0 0 0) = V2 := HV.out.symm
    rw [e1]
    clear e1
    go_wp2_with (first
      | (refine wpList_load_of rfl 23 _ rfl _ HL.out ?_)
      | (refine wpList_store_of rfl 23 _ _ rfl (store_px0 _ _ _ _ HR.out) ?_)
      | (go_at_call 28; (refine (HI.out _).mono ?_); rintro e V4 ⟨rfl, rfl⟩)
      | (refine HO.out.mono ?_; rintro e V3 ⟨rfl, hb3⟩; have h4 := (HS.out.later hb3).alloc (pto (s i)); have HL := Lib.hid (load_px b f (s i) hsi _ (h4.row (b := b) (o := tob f) (by simp))); have HR := Lib.hid (h4.row (b := V.heap.size + 1) (o := pxo zp) (by simp)); have HB := Lib.hid h4.below; clear hb3 h4))
    exact bodyPost_ret (v := (f (s i)).v) (results_cell_row rfl _ _ (V.heap.size + 1) _ _ _ _ rfl (setRow_heap _ _ _ _ _ _ HR.out) Tryd.underlying23 rfl info_px) rfl ⟨rfl, Below.setRow HB.out (by omega) _⟩
  exact key
set_option maxRecDepth 100000 in
set_option maxHeartbeats 4000000 in
theorem rear_any (f : Nat → Px) (s : Nat → Nat) (go : FuncId) (w : World) (hs0 : ∀ i, i < 64 → s i < 64) (eg : ∀ args w, (callFunc go args).run Tryd.prog w = .ok (.enter go args) w) (ho : ∀ i V3, i < 64 → Calls Tryd.prog go #[ptv i] V3 fun e w' => e = .returned (ptv (s i)) ∧ Below V3.heap.size V3 w') : Calls Tryd.prog 33 #[tv f, .func (.func go) #[] #[]] w fun e w' => e = .returned (tv (fun i => f (s i))) ∧ Below w.heap.size w w' := by
  obtain ⟨V2, hV2⟩ : ∃ V2, V2 = (((w.alloc (tob f)).alloc (vo (.func (.func go) #[] #[]) 64)).alloc (tob z0)) := ⟨_, rfl⟩
  have hs := ((((St.start w).alloc (tob f)).alloc (vo (.func (.func go) #[] #[]) 64)).alloc (tob z0))
  simp only [World.size_alloc] at hs
  rw [← hV2] at hs
  have hr0 := hs.row (b := w.heap.size) (o := tob f) (by first | (simp; done) | (simp; rfl))
  have hr1 := hs.row (b := w.heap.size + 1) (o := vo (.func (.func go) #[] #[]) 64) (by first | (simp; done) | (simp; rfl))
  have hr2 := hs.row (b := w.heap.size + 1 + 1) (o := tob z0) (by first | (simp; done) | (simp; rfl))
  have HG := Lib.hid (generate_any 46 #[ptrB (w.heap.size + 1), ptrB (w.heap.size)] (fun i => f (s i)) V2 (enters_of Tryd.func46 (by kernel_rfl) rfl) (fun V hV i hi => rear1 f s go _ _ i V (hs0 i hi) eg (fun V3 => ho i V3 hi) (old_row hr1 hV) (old_row hr0 hV)))
  have HB := Lib.hid hs.below
  have HZ := Lib.hid hs.below.size
  have HR := Lib.hid hr2
  have HV := Lib.hid hV2
  have hzt := zero_tile
  clear hr0 hr1 hr2 hs eg ho hs0 hV2
  go_enter Tryd.func33, Tryd.ntmps33
  go_upto_region 1 with fail
  have e1 : (((w.alloc (tob f)).alloc (vo (.func (.func go) #[] #[]) 64)).alloc (tob z0)) = V2 := HV.out.symm
  rw [e1]
  clear e1
  go_wp2_with (first
    | (refine wpList_store_of rfl 25 _ _ rfl (store_tile _ _ _ _ HR3.out) ?_)
    | (go_at_call 19; (refine HG.out.mono ?_); rintro e V3 ⟨rfl, hb3⟩; have HR3 := Lib.hid (old_row HR.out hb3); have HB3 := Lib.hid (HB.out.trans (hb3.mono HZ.out)); clear hb3))
  exact bodyPost_ret (v := tv (fun i => f (s i))) (results_cell_row rfl _ _ (w.heap.size + 1 + 1) _ _ _ _ rfl (setRow_heap _ _ _ _ _ _ HR3.out) Tryd.underlying25 rfl (by rw [info_tile, tc_size])) rfl ⟨rfl, Below.setRow HB3.out (by omega) _⟩
set_option maxRecDepth 100000 in
set_option maxHeartbeats 4000000 in
theorem flip_any (f : Nat → Px) (w : World) : Calls Tryd.prog 17 #[tv f] w fun e w' => e = .returned (tv (fun i => f (flipI i))) ∧ Below w.heap.size w w' := by
  obtain ⟨V2, hV2⟩ : ∃ V2, V2 = (w.alloc (tob f)).alloc (tob z0) := ⟨_, rfl⟩
  have hs := ((St.start w).alloc (tob f)).alloc (tob z0)
  simp only [World.size_alloc] at hs
  rw [← hV2] at hs
  have HR := Lib.hid (hs.row (b := w.heap.size + 1) (o := tob z0) (by simp))
  have HL := Lib.hid (load_tile _ f V2 (hs.row (b := w.heap.size) (o := tob f) (by simp)))
  have HG := Lib.hid (rear_any f flipI 34 V2 (fun i hi => flipI_lt hi) (enters_of Tryd.func34 (by kernel_rfl) rfl) (fun i V3 hi => flip1 i V3 hi))
  have HB := Lib.hid hs.below
  have HZ := Lib.hid hs.below.size
  have HV := Lib.hid hV2
  have hzt := zero_tile
  clear hs hV2
  go_enter Tryd.func17, Tryd.ntmps17
  go_upto_region 1 with fail
  have e1 : (w.alloc (tob f)).alloc (tob z0) = V2 := HV.out.symm
  rw [e1]
  clear e1
  go_wp2_with (first
    | (refine wpList_load_of rfl 25 _ rfl _ HL.out ?_)
    | (refine wpList_store_of rfl 25 _ _ rfl (store_tile _ _ _ _ HR3.out) ?_)
    | (go_at_call 33; (refine HG.out.mono ?_); rintro e V3 ⟨rfl, hb3⟩; have HR3 := Lib.hid (old_row HR.out hb3); have HB3 := Lib.hid (HB.out.trans (hb3.mono HZ.out)); clear hb3))
  exact bodyPost_ret (v := tv (fun i => f (flipI i))) (results_cell_row rfl _ _ (w.heap.size + 1) _ _ _ _ rfl (setRow_heap _ _ _ _ _ _ HR3.out) Tryd.underlying25 rfl (by rw [info_tile, tc_size])) rfl ⟨rfl, Below.setRow HB3.out (by omega) _⟩
set_option maxRecDepth 100000 in
set_option maxHeartbeats 4000000 in
theorem turn_any (f : Nat → Px) (w : World) : Calls Tryd.prog 18 #[tv f] w fun e w' => e = .returned (tv (fun i => f (turnI i))) ∧ Below w.heap.size w w' := by
  obtain ⟨V2, hV2⟩ : ∃ V2, V2 = (w.alloc (tob f)).alloc (tob z0) := ⟨_, rfl⟩
  have hs := ((St.start w).alloc (tob f)).alloc (tob z0)
  simp only [World.size_alloc] at hs
  rw [← hV2] at hs
  have HR := Lib.hid (hs.row (b := w.heap.size + 1) (o := tob z0) (by simp))
  have HL := Lib.hid (load_tile _ f V2 (hs.row (b := w.heap.size) (o := tob f) (by simp)))
  have HG := Lib.hid (rear_any f turnI 35 V2 (fun i hi => turnI_lt hi) (enters_of Tryd.func35 (by kernel_rfl) rfl) (fun i V3 hi => turn1 i V3 hi))
  have HB := Lib.hid hs.below
  have HZ := Lib.hid hs.below.size
  have HV := Lib.hid hV2
  have hzt := zero_tile
  clear hs hV2
  go_enter Tryd.func18, Tryd.ntmps18
  go_upto_region 1 with fail
  have e1 : (w.alloc (tob f)).alloc (tob z0) = V2 := HV.out.symm
  rw [e1]
  clear e1
  go_wp2_with (first
    | (refine wpList_load_of rfl 25 _ rfl _ HL.out ?_)
    | (refine wpList_store_of rfl 25 _ _ rfl (store_tile _ _ _ _ HR3.out) ?_)
    | (go_at_call 33; (refine HG.out.mono ?_); rintro e V3 ⟨rfl, hb3⟩; have HR3 := Lib.hid (old_row HR.out hb3); have HB3 := Lib.hid (HB.out.trans (hb3.mono HZ.out)); clear hb3))
  exact bodyPost_ret (v := tv (fun i => f (turnI i))) (results_cell_row rfl _ _ (w.heap.size + 1) _ _ _ _ rfl (setRow_heap _ _ _ _ _ _ HR3.out) Tryd.underlying25 rfl (by rw [info_tile, tc_size])) rfl ⟨rfl, Below.setRow HB3.out (by omega) _⟩
end Go.Proofs.YtligojllbnahcaaDoor.T
