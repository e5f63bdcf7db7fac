/-
  Fill, Clean, Mask and Over of tile (contracts).
-/
import Derived.Test.YtligojllbnahcaaDoorTMask
namespace Go.Proofs.YtligojllbnahcaaDoor.T
open Go.RowKit Go.Shelf
variable {W w w' : World} {L : List (Nat × Obj)}

set_option maxRecDepth 100000 in
set_option maxHeartbeats 4000000 in
theorem fill1 (p : Px) (b i : Nat) (V : World) (h : V.heap[b]? = some (pxo p)) :
    Calls Tryd.prog 29 (#[.int .i64 i, ptv i] ++ #[ptrB b]) V fun e w' => e = .returned p.v ∧ Below V.heap.size V w' := by
  have key : Calls Tryd.prog 29 #[.int .i64 i, ptv i, ptrB b] V fun e w' => e = .returned p.v ∧ Below V.heap.size V w' := by
    obtain ⟨V2, hV2⟩ : ∃ V2, V2 = (V.alloc (pto i)).alloc (pxo zp) := ⟨_, rfl⟩
    obtain ⟨hr, hB, hz⟩ := two_new V (pto i) (pxo zp)
    rw [← hV2] at hr hB hz
    have HL := Lib.hid (load_px0 b p _ (old_row h hB))
    have HR := Lib.hid hr
    have HB := Lib.hid hB
    have HV := Lib.hid hV2
    clear h hr hB hz hV2
    go_enter Tryd.func29, Tryd.ntmps29
    go_upto_region 1 with fail
    have e1 : (V.alloc (pto i)).alloc (po 0 0 0 0) = V2 := HV.out.symm
    rw [e1]
    clear e1
    go_wp2_with (first
      | (refine wpList_load_of rfl 23 _ rfl _ HL.out ?_)
      | (refine wpList_store_of rfl 23 _ _ rfl (store_px0 _ _ _ _ HR.out) ?_))
    exact bodyPost_ret (v := p.v) (results_cell_row rfl _ _ (V.heap.size + 1) _ _ _ _ rfl (setRow_heap _ _ _ _ _ _ HR.out) Tryd.underlying23 rfl info_px) rfl ⟨rfl, Below.setRow HB.out (by omega) _⟩
  exact key
set_option maxRecDepth 100000 in
set_option maxHeartbeats 4000000 in
theorem fill_any (p : Px) (w : World) : Calls Tryd.prog 14 #[p.v] w fun e w' => e = .returned (tv (fun _ => p)) ∧ Below w.heap.size w w' := by
  obtain ⟨V2, hV2⟩ : ∃ V2, V2 = ((w.alloc (po p.r p.g p.b p.a)).alloc (tob z0)) := ⟨_, rfl⟩
  have hs := (((St.start w).alloc (po p.r p.g p.b p.a)).alloc (tob z0))
  simp only [World.size_alloc] at hs
  rw [← hV2] at hs
  have hr0 := hs.row (b := w.heap.size) (o := pxo p) (by first | (simp; done) | (simp; rfl))
  have hr1 := hs.row (b := w.heap.size + 1) (o := tob z0) (by first | (simp; done) | (simp; rfl))
  have HG := Lib.hid (generate_any 29 #[ptrB (w.heap.size)] (fun _ => p) V2 (enters_of Tryd.func29 (by kernel_rfl) rfl) (fun V hV i hi => fill1 p _ i V (old_row hr0 hV)))
  have HB := Lib.hid hs.below
  have HZ := Lib.hid hs.below.size
  have HR := Lib.hid hr1
  have HV := Lib.hid hV2
  have hzt := zero_tile
  clear hr0 hr1 hs hV2
  go_enter Tryd.func14, Tryd.ntmps14
  go_upto_region 1 with fail
  have e1 : ((w.alloc (po p.r p.g p.b p.a)).alloc (tob z0)) = V2 := HV.out.symm
  rw [e1]
  clear e1
  go_wp2_with (first
    | (refine wpList_store_of rfl 25 _ _ rfl (store_tile _ _ _ _ HR3.out) ?_)
    | (go_at_call 19; (refine HG.out.mono ?_); rintro e V3 ⟨rfl, hb3⟩; have HR3 := Lib.hid (old_row HR.out hb3); have HB3 := Lib.hid (HB.out.trans (hb3.mono HZ.out)); clear hb3))
  exact bodyPost_ret (v := tv (fun _ => p)) (results_cell_row rfl _ _ (w.heap.size + 1) _ _ _ _ rfl (setRow_heap _ _ _ _ _ _ HR3.out) Tryd.underlying25 rfl (by rw [info_tile, tc_size])) rfl ⟨rfl, Below.setRow HB3.out (by omega) _⟩
end Go.Proofs.YtligojllbnahcaaDoor.T
