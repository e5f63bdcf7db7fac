/-
  Halve of tile (contract).
-/
import Derived.Test.YtligojllbnahcaaDoorTHalve
import Derived.Test.YtligojllbnahcaaDoorTRef0
namespace Go.Proofs.YtligojllbnahcaaDoor.T
open Go.RowKit Go.Shelf
variable {W w w' : World} {L : List (Nat × Obj)}

/-- the pixels of a square of four tiles -/
def sqG (a b c d : Nat → Px) : Nat → Px := app 128 (app 64 a b) (app 64 c d)
set_option maxRecDepth 100000 in
set_option maxHeartbeats 2000000 in
theorem halve_any (a b c d : Nat → Px) (w : World) (hG : ∀ k, k < 256 → Pc (sqG a b c d k)) : Calls Tryd.prog 15 #[tv a, tv b, tv c, tv d] w fun e w' => e = .returned (tv (fun i => m4 (four (sqG a b c d) i))) ∧ Below w.heap.size w w' := by
  obtain ⟨V2, hV2⟩ : ∃ V2, V2 = ((((w.alloc (tob a)).alloc (tob b)).alloc (tob c)).alloc (tob d)).alloc (tob z0) := ⟨_, rfl⟩
  have hs := (((((St.start w).alloc (tob a)).alloc (tob b)).alloc (tob c)).alloc (tob d)).alloc (tob z0)
  simp only [World.size_alloc] at hs
  rw [← hV2] at hs
  have hz2 : V2.heap.size = w.heap.size + 5 := by rw [hV2]; simp
  have HV := Lib.hid hV2
  have k0 := hs.row (b := w.heap.size) (o := tob a) (by simp)
  have k1 := hs.row (b := w.heap.size + 1) (o := tob b) (by simp)
  have k2 := hs.row (b := w.heap.size + 1 + 1) (o := tob c) (by simp)
  have k3 := hs.row (b := w.heap.size + 1 + 1 + 1) (o := tob d) (by simp)
  have hs := hs.sub (L' := [(w.heap.size + 1 + 1 + 1 + 1, tob z0)]) (by simp)
  have hs5 := hs.alloc (sqo z0)
  have HS5 : Hid ((V2.alloc (sqo z0)).heap[V2.heap.size]? = some (sqo z0)) := Lib.hid (World.alloc_heap_new V2 _)
  have hzt := zero_tile
  have hzs := zero_sq
  have HZ2 := Lib.hid hz2
  have HS := Lib.hid hs
  have HG := Lib.hid hG
  clear hs hs5 hV2 hz2 hG
  go_enter Tryd.func15, Tryd.ntmps15
  go_upto_region 1 with fail
  have e1 : ((((w.alloc (tob a)).alloc (tob b)).alloc (tob c)).alloc (tob d)).alloc (tob z0) = V2 := HV.out.symm
  rw [e1]
  clear e1
  refine wp_region_lit ?_
  refine wpList_load_of rfl 25 _ rfl _ (load_tile _ _ _ k0) ?_
  simp only [Act.put, List.setIfInBounds_toArray, List.set_cons_zero, List.set_cons_succ]
  refine wpList_load_of rfl 25 _ rfl _ (load_tile _ _ _ k1) ?_
  simp only [Act.put, List.setIfInBounds_toArray, List.set_cons_zero, List.set_cons_succ]
  refine wpList_build2 rfl 59 _ _ rfl _ _ _ rfl rfl (built2 a b V2) ?_
  simp only [Act.put, List.setIfInBounds_toArray, List.set_cons_zero, List.set_cons_succ]
  refine wpList_load_of rfl 25 _ rfl _ (load_tile _ _ _ k2) ?_
  simp only [Act.put, List.setIfInBounds_toArray, List.set_cons_zero, List.set_cons_succ]
  refine wpList_load_of rfl 25 _ rfl _ (load_tile _ _ _ k3) ?_
  simp only [Act.put, List.setIfInBounds_toArray, List.set_cons_zero, List.set_cons_succ]
  refine wpList_build2 rfl 59 _ _ rfl _ _ _ rfl rfl (built2 c d V2) ?_
  simp only [Act.put, List.setIfInBounds_toArray, List.set_cons_zero, List.set_cons_succ]
  refine wpList_build2 rfl 60 _ _ rfl _ _ _ rfl rfl (built4 (app 64 a b) (app 64 c d) V2) ?_
  simp only [Act.put, List.setIfInBounds_toArray, List.set_cons_zero, List.set_cons_succ]
  have e2 : app 128 (app 64 a b) (app 64 c d) = sqG a b c d := rfl
  rw [e2]
  clear e2 k0 k1 k2 k3
  generalize hGs : sqG a b c d = G at *
  have HGs := Lib.hid hGs
  clear hGs
  generalize fc 128 (app 64 a b) = m1
  generalize fc 128 (app 64 c d) = m2
  generalize tc a = m3
  generalize tc b = m4'
  generalize tc c = m5
  generalize tc d = m6
  refine wpList_alloc_of rfl 60 rfl _ (zero_sq _) ?_
  simp only [Act.put, List.setIfInBounds_toArray, List.set_cons_zero, List.set_cons_succ]
  refine wpList_store_of rfl 60 _ _ rfl (store_sq _ z0 _ _ HS5.out) ?_
  simp only [Act.put]
  have h6 : Hid (St w [(V2.heap.size, sqo G), (w.heap.size + 1 + 1 + 1 + 1, tob z0)] ((V2.alloc (sqo z0)).setRow V2.heap.size (fc 256 G))) := Lib.hid (St.rowset (ds := fc 256 G) (HS.out.alloc (sqo z0)) (by have := HZ2.out; omega) (by have := HZ2.out; simp; omega))
  have z6 : Hid (((V2.alloc (sqo z0)).setRow V2.heap.size (fc 256 G)).heap.size = V2.heap.size + 1) := Lib.hid (by simp)
  generalize (V2.alloc (sqo z0)).setRow V2.heap.size (fc 256 G) = V6 at h6 z6 ⊢
  go_upto_region 3 with fail
  have hz6 : w.heap.size ≤ V6.heap.size := by have := HZ2.out; have := z6.out; omega
  have h7 := h6.out.alloc (vo (.func (.func 30) #[] #[ptrB V2.heap.size]) 61)
  have hr7 := h7.row (b := V6.heap.size) (o := vo (.func (.func 30) #[] #[ptrB V2.heap.size]) 61) (by simp)
  have hr8 := h7.row (b := V2.heap.size) (o := sqo G) (by simp)
  have hr9 := h7.row (b := w.heap.size + 1 + 1 + 1 + 1) (o := tob z0) (by simp)
  have hb7 := h7.below
  have e7 : V6.alloc (.cells #[.func (.func 30) #[] #[.pointer (some ⟨V2.heap.size, 0, none⟩)]] 61) = V6.alloc (vo (.func (.func 30) #[] #[ptrB V2.heap.size]) 61) := rfl
  rw [e7]
  clear e7 h7 hs h6
  have HG8 := Lib.hid (generate_any 31 #[ptrB V6.heap.size] (fun i => m4 (four G i)) _ (enters_of Tryd.func31 (by kernel_rfl) rfl) (fun V hV i hi => halve1 G _ _ i V hi HG.out (old_row hr7 hV) (old_row hr8 hV)))
  have hz7 : w.heap.size ≤ (V6.alloc (vo (.func (.func 30) #[] #[ptrB V2.heap.size]) 61)).heap.size := by simp; omega
  generalize V6.alloc (vo (.func (.func 30) #[] #[ptrB V2.heap.size]) 61) = V7 at *
  generalize V6.heap.size = n6 at *
  generalize V2.heap.size = n2 at *
  have HR := Lib.hid hr9
  have HB := Lib.hid hb7
  have HZ := Lib.hid hz7
  clear hr7 hr8 hr9 hb7 hz7 hzs
  generalize hH : (fun i => m4 (four G i)) = H at *
  have HH := Lib.hid hH
  clear hH
  go_wp2_with (first
    | (refine wpList_store_of rfl 25 _ _ rfl (store_tile _ _ _ _ HR3.out) ?_)
    | (go_at_call 19; (refine HG8.out.mono ?_); rintro e V3 ⟨rfl, hb3⟩; have HR3 := Lib.hid (old_row HR.out hb3); have HB3 := Lib.hid (HB.out.trans (hb3.mono HZ.out)); clear hb3))
  exact bodyPost_ret (v := tv H) (results_cell_row rfl _ _ (w.heap.size + 1 + 1 + 1 + 1) _ _ _ _ rfl (setRow_heap _ _ _ _ _ _ HR3.out) Tryd.underlying25 rfl (by rw [info_tile, tc_size])) rfl ⟨by rw [← HH.out, ← HGs.out], Below.setRow HB3.out (by omega) _⟩
end Go.Proofs.YtligojllbnahcaaDoor.T
