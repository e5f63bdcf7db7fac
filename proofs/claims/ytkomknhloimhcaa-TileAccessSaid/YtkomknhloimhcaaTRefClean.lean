/-
  Clean of the reference (contract).
-/
import Derived.Test.YtkomknhloimhcaaTRefB
namespace Go.Proofs.Ytkomknhloimhcaa.T
open Go.RowKit Go.Shelf

set_option maxRecDepth 100000 in
set_option maxHeartbeats 4000000 in
theorem refTClean_any (f : Nat → Px) (w : World)  : Calls Try.prog 18 #[tv f] w fun e w' => e = .returned (tv (fun i => cln (f i))) ∧ Below w.heap.size w w' := by
  obtain ⟨V2, hV2⟩ : ∃ V2, V2 = ((w.alloc (tob f)).alloc (tob z0)) := ⟨_, rfl⟩
  have hs := (((St.start w).alloc (tob f)).alloc (tob z0))
  simp only [World.size_alloc] at hs
  rw [← hV2] at hs
  have H4 := Lib.hid hs
  have HV := Lib.hid hV2
  have hzt := zero_tile
  clear hs hV2
  go_enter Try.func18, Try.ntmps18
  go_upto_region 1 with fail
  have e1 : ((w.alloc (tob f)).alloc (tob z0)) = V2 := HV.out.symm
  rw [e1]
  clear e1
  have H4 := Lib.hid (H4.out.sub (L' := [(w.heap.size, tob f), (w.heap.size + 1, tob z0)]) (by simp))
  go_wp2
  go_loopw [3] (fun v wr => ∃ k : Nat, k ≤ 64 ∧ v = .int .i64 k ∧ Hid (St w [(w.heap.size, tob (pt f (fun i => cln (f i)) k)), (w.heap.size + 1, tob z0)] wr)) (fun i _ => 64 - (intOf i).toNat)
  case atStart => exact ⟨0, by omega, rfl, by rw [pt_zero]; exact H4.out⟩
  case round =>
    obtain ⟨k, hk, rfl, HT⟩ := hrel
    by_cases hlt : k < 64
    · have hix := index_px w.heap.size k hlt
      have hl := load_px w.heap.size _ k hlt wr (HT.out.row (b := w.heap.size) (o := tob (pt f (fun i => cln (f i)) k)) (by simp))
      rw [pt_at] at hl
      have HL := Lib.hid hl
      have e5 : upd (pt f (fun i => cln (f i)) k) k (cln (f k)) = pt f (fun i => cln (f i)) (k + 1) := pt_succ f (fun i => cln (f i)) k
      have HX := Lib.hid (St.call HT.out (refClean_any (f k).r (f k).g (f k).b (f k).a wr))
      have HE := Lib.hid e5
      clear hl e5
      go_wp2_with (first
        | (refine wpList_load_of rfl 23 _ rfl _ HL.out ?_)
        | (go_at_call 41; (refine HX.out.mono ?_); rintro e V4 ⟨rfl, h4⟩; have hst := store_px w.heap.size _ k (cln (f k)) hlt V4 (h4.row (b := w.heap.size) (o := tob (pt f (fun i => cln (f i)) k)) (by simp)); have h5 := St.rowset (ds := tc (upd (pt f (fun i => cln (f i)) k) k (cln (f k)))) h4 (by omega) (by simp); rw [HE.out] at h5 hst; have H5 := Lib.hid h5; have HST := Lib.hid hst; clear h4 h5 hst)
        | (refine wpList_store_of rfl 23 _ _ rfl HST.out ?_))
      go_roundw
      case rel => exact ⟨k + 1, by omega, by go_num, H5.out⟩
      case measure => simp [intOf]; omega
    · obtain rfl : k = 64 := by omega
      have HLA := Lib.hid (load_all (HT.out.row (b := w.heap.size) (o := tob (pt (f) (fun i => cln (f i)) 64)) (by simp)))
      have HR := Lib.hid (HT.out.row (b := w.heap.size + 1) (o := tob z0) (by simp))
      have HSA := Lib.hid (store_tile (w.heap.size + 1) z0 (fun i => cln (f i)) wr HR.out)
      have HB := Lib.hid HT.out.below
      go_wp2_with (first
        | (refine wpList_load_of rfl 25 _ rfl _ HLA.out ?_)
        | (refine wpList_store_of rfl 25 _ _ rfl HSA.out ?_))
      exact bodyPost_ret (v := tv (fun i => cln (f i))) (results_cell_row rfl _ _ (w.heap.size + 1) _ _ _ _ rfl (setRow_heap _ _ _ _ _ _ HR.out) Try.underlying25 rfl (by rw [info_tile, tc_size])) rfl ⟨rfl, Below.setRow HB.out (by omega) _⟩
end Go.Proofs.Ytkomknhloimhcaa.T
