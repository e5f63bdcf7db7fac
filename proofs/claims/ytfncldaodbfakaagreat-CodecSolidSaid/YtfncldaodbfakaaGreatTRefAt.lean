/-
  The pixels of a square of four tiles, in the reference. Halve of the reference (contract). Fill of the reference (contract). Clean of the reference (contract).
-/
import Derived.Test.YtfncldaodbfakaaGreatTMean
import Derived.Test.YtfncldaodbfakaaGreatRefMean
namespace Go.Proofs.YtfncldaodbfakaaGreat.T
open Go.RowKit Go.Shelf

theorem fill4 (place : Nat → Option (Nat × Nat)) (f0 f1 f2 f3 : Nat → Px) (z : Array Value) (hz : z.size = 1024) (h0 : place 0 = some (0, 256)) (h1 : place 1 = some (256, 256)) (h2 : place 2 = some (512, 256)) (h3 : place 3 = some (768, 256)) :
    Instr.fill place z [(0, .agg (fc 64 f0)), (1, .agg (fc 64 f1)), (2, .agg (fc 64 f2)), (3, .agg (fc 64 f3))] = some (fc 256 (sqG f0 f1 f2 f3)) := by
  have c0 : (Value.agg (fc 64 f0)).cells = fc 64 f0 := rfl
  have c1 : (Value.agg (fc 64 f1)).cells = fc 64 f1 := rfl
  have c2 : (Value.agg (fc 64 f2)).cells = fc 64 f2 := rfl
  have c3 : (Value.agg (fc 64 f3)).cells = fc 64 f3 := rfl
  simp only [Instr.fill, h0, h1, h2, h3, c0, c1, c2, c3, fc_size, fold_size, hz]
  rw [if_neg (by first | (simp; done) | (simp; omega)), if_neg (by first | (simp; done) | (simp; omega)), if_neg (by first | (simp; done) | (simp; omega)), if_neg (by first | (simp; done) | (simp; omega))]
  refine congrArg some (fc_of _ (by rw [fold_size, fold_size, fold_size, fold_size, hz]) fun i j hi hj => ?_)
  rw [fold_arr _ _ _ _ (by rw [fold_size, fold_size, fold_size, hz, fc_size]; omega), fold_arr _ _ _ _ (by rw [fold_size, fold_size, hz, fc_size]; omega), fold_arr _ _ _ _ (by rw [fold_size, hz, fc_size]; omega), fold_arr _ _ _ _ (by rw [hz, fc_size]; omega), fc_size, fc_size, fc_size, fc_size]
  unfold sqG app
  by_cases a0 : i < 64
  · rw [if_neg (by omega), if_neg (by omega), if_neg (by omega), if_pos (by omega), if_pos (by omega), if_pos a0, Nat.sub_zero]
    exact fc_get 64 f0 i j a0 hj
  · by_cases a1 : i < 128
    · rw [if_neg (by omega), if_neg (by omega), if_pos (by omega), if_pos a1, if_neg a0, show 4 * i + j - 256 = 4 * (i - 64) + j by omega]
      exact fc_get 64 f1 (i - 64) j (by omega) hj
    · by_cases a2 : i < 192
      · rw [if_neg (by omega), if_pos (by omega), if_neg a1, if_pos (by omega), show 4 * i + j - 512 = 4 * (i - 128) + j by omega]
        exact fc_get 64 f2 (i - 128) j (by omega) hj
      · rw [if_pos (by omega), if_neg a1, if_neg (by omega), show 4 * i + j - 768 = 4 * (i - 192) + j by omega, show i - 128 - 64 = i - 192 by omega]
        exact fc_get 64 f3 (i - 192) j (by omega) hj
theorem wpList_build4 {P : Program} {ops : Array Oper} {rest : List Oper} {o : Oper} {a : Act} {Q : Exit → Act → World → Prop} {w : World} (hg : o.guard = none) (t : TypeId) (x y z u : Operand) (ho : o.op = .build t #[(0, x), (1, y), (2, z), (3, u)]) (v x' y' z' u' : Value) (hx : a.eval x = x') (hy : a.eval y = y') (hz : a.eval z = z') (hu : a.eval u = u')
    (hl : (Instr.build t #[(0, x'), (1, y'), (2, z'), (3, u')]).run P w = .ok v w) (h : wpList P ops Q rest (a.put o.dst v) w) : wpList P ops Q (o :: rest) a w :=
  wpList_build_of hg t _ ho v (by subst hx hy hz hu; simpa using hl) h
/-- one tile of a square -/
def sub4 (G : Nat → Px) (q : Nat) : Nat → Px := fun i => G (64 * q + i)
end Go.Proofs.YtfncldaodbfakaaGreat.T

namespace Go.Proofs.YtfncldaodbfakaaGreat.T
open Go.RowKit Go.Shelf

theorem refAdd_t {W w : World} {L : List (Nat × Obj)} (P : Nat → Px) (t : Nat) (ht : t < 4) (bm : Nat) (h : St W ((bm, mr (t : Nat) (ma P t) (mx P t) (my P t) (mz P t)) :: L) w) (hbm : W.heap.size ≤ bm) (hL : ∀ x ∈ L, x.1 ≠ bm) (hP : ∀ j, j < 4 → Pc (P j)) :
    Calls Tryz.prog 97 #[ptr bm, (P t).v, .int .i64 1] w fun e w' => e = .returned (.tuple #[]) ∧ St W ((bm, mr (t + 1 : Nat) (ma P (t + 1)) (mx P (t + 1)) (my P (t + 1)) (mz P (t + 1))) :: L) w' := by
  have hp := hP t ht
  have := refAdd_any (W := W) (L := L) bm t (ma P t) (mx P t) (my P t) (mz P t) (P t).r (P t).g (P t).b (P t).a 1 w h hbm hL (mb_of P t (by omega) hP) (by omega) hp.1 hp.2.1 hp.2.2.1 hp.2.2.2
  rw [show ((t + 1 : Nat) : Int) = (t : Int) + cnt 1 by rw [cnt_one]; omega]
  exact this
end Go.Proofs.YtfncldaodbfakaaGreat.T

namespace Go.Proofs.YtfncldaodbfakaaGreat.T
open Go.RowKit Go.Shelf

set_option maxRecDepth 100000 in
set_option maxHeartbeats 4000000 in
theorem refFill_any (p : Px) (w : World)  : Calls Tryz.prog 45 #[p.v] w fun e w' => e = .returned (tv (fun _ => p)) ∧ Below w.heap.size w w' := by
  obtain ⟨V2, hV2⟩ : ∃ V2, V2 = ((w.alloc (po p.r p.g p.b p.a)).alloc (tob z0)) := ⟨_, rfl⟩
  have hs := (((St.start w).alloc (po p.r p.g p.b p.a)).alloc (tob z0))
  simp only [World.size_alloc] at hs
  rw [← hV2] at hs
  have hz2 : V2.heap.size = w.heap.size + 1 + 1 := by rw [hV2]; simp
  have h3 := hs.alloc (tob z0)
  have hA := World.alloc_heap_new V2 (tob z0)
  have h4 := St.rowset (ds := tc z0) h3 (by omega) (by simp; omega)
  rw [hz2] at hA h4
  have HA := Lib.hid hA
  have HZ2 := Lib.hid hz2
  have H4 := Lib.hid h4
  clear hA hz2 h3 h4
  have HV := Lib.hid hV2
  have hzt := zero_tile
  clear hs hV2
  go_enter Tryz.func45, Tryz.ntmps45
  go_upto_region 1 with fail
  have e1 : ((w.alloc (po p.r p.g p.b p.a)).alloc (tob z0)) = V2 := HV.out.symm
  rw [e1]
  clear e1
  refine wp_region_lit ?_
  refine wpList_build0 rfl 38 rfl _ (built0 _) ?_
  simp only [Act.put, List.setIfInBounds_toArray, List.set_cons_zero, List.set_cons_succ]
  refine wpList_alloc_of rfl 38 rfl _ (zero_tile _) ?_
  simp only [Act.put, List.setIfInBounds_toArray, List.set_cons_zero, List.set_cons_succ]
  rw [HZ2.out]
  refine wpList_store_of rfl 38 _ _ rfl (store_tile (w.heap.size + 1 + 1) z0 z0 _ HA.out) ?_
  simp only [Act.put]
  generalize (V2.alloc (.cells (tc z0) 38)).setRow (w.heap.size + 1 + 1) (tc z0) = V3 at H4 ⊢
  go_wp2
  go_loopw [4] (fun v wr => ∃ k : Nat, k ≤ 64 ∧ v = .int .i64 k ∧ Hid (St w [(w.heap.size + 1 + 1, tob (pt z0 (fun _ => p) k)), (w.heap.size + 1, tob z0), (w.heap.size, pxo p)] wr)) (fun i _ => 64 - (intOf i).toNat)
  case atStart => exact ⟨0, by omega, rfl, by rw [pt_zero]; exact H4.out⟩
  case round =>
    obtain ⟨k, hk, rfl, HT⟩ := hrel
    by_cases hlt : k < 64
    · have hix := index_px (w.heap.size + 1 + 1) k hlt
      have HL := Lib.hid (load_px0 w.heap.size p wr (HT.out.row (b := w.heap.size) (o := pxo p) (by simp)))
      have hst := store_px (w.heap.size + 1 + 1) _ k p hlt wr (HT.out.row (b := w.heap.size + 1 + 1) (o := tob (pt z0 (fun _ => p) k)) (by simp))
      have h5 := St.rowset (ds := tc (upd (pt z0 (fun _ => p) k) k p)) HT.out (by omega) (by simp; omega)
      have e5 : upd (pt z0 (fun _ => p) k) k p = pt z0 (fun _ => p) (k + 1) := pt_succ z0 (fun _ => p) k
      rw [e5] at h5 hst
      have H5 := Lib.hid h5
      have HST := Lib.hid hst
      clear h5 hst e5
      go_wp2_with (first
        | (refine wpList_load_of rfl 36 _ rfl _ HL.out ?_)
        | (refine wpList_store_of rfl 36 _ _ rfl HST.out ?_))
      go_roundw
      case rel => exact ⟨k + 1, by omega, by go_num, H5.out⟩
      case measure => simp [intOf]; omega
    · obtain rfl : k = 64 := by omega
      have HLA := Lib.hid (load_all (HT.out.row (b := w.heap.size + 1 + 1) (o := tob (pt (z0) (fun _ => p) 64)) (by simp)))
      have HR := Lib.hid (HT.out.row (b := w.heap.size + 1) (o := tob z0) (by simp))
      have HSA := Lib.hid (store_tile (w.heap.size + 1) z0 (fun _ => p) wr HR.out)
      have HB := Lib.hid HT.out.below
      go_wp2_with (first
        | (refine wpList_load_of rfl 38 _ rfl _ HLA.out ?_)
        | (refine wpList_store_of rfl 38 _ _ rfl HSA.out ?_))
      exact bodyPost_ret (v := tv (fun _ => p)) (results_cell_row rfl _ _ (w.heap.size + 1) _ _ _ _ rfl (setRow_heap _ _ _ _ _ _ HR.out) Tryz.underlying38 rfl (by rw [info_tile, tc_size])) rfl ⟨rfl, Below.setRow HB.out (by omega) _⟩
end Go.Proofs.YtfncldaodbfakaaGreat.T

namespace Go.Proofs.YtfncldaodbfakaaGreat.T
open Go.RowKit Go.Shelf

set_option maxRecDepth 100000 in
set_option maxHeartbeats 4000000 in
theorem refTClean_any (f : Nat → Px) (w : World)  : Calls Tryz.prog 112 #[tv f] w fun e w' => e = .returned (tv (fun i => cln (f i))) ∧ Below w.heap.size w w' := by
  obtain ⟨V2, hV2⟩ : ∃ V2, V2 = ((w.alloc (tob f)).alloc (tob z0)) := ⟨_, rfl⟩
  have hs := (((St.start w).alloc (tob f)).alloc (tob z0))
  simp only [World.size_alloc] at hs
  rw [← hV2] at hs
  have H4 := Lib.hid hs
  have HV := Lib.hid hV2
  have hzt := zero_tile
  clear hs hV2
  go_enter Tryz.func112, Tryz.ntmps112
  go_upto_region 1 with fail
  have e1 : ((w.alloc (tob f)).alloc (tob z0)) = V2 := HV.out.symm
  rw [e1]
  clear e1
  have H4 := Lib.hid (H4.out.sub (L' := [(w.heap.size, tob f), (w.heap.size + 1, tob z0)]) (by simp))
  go_wp2
  go_loopw [3] (fun v wr => ∃ k : Nat, k ≤ 64 ∧ v = .int .i64 k ∧ Hid (St w [(w.heap.size, tob (pt f (fun i => cln (f i)) k)), (w.heap.size + 1, tob z0)] wr)) (fun i _ => 64 - (intOf i).toNat)
  case atStart => exact ⟨0, by omega, rfl, by rw [pt_zero]; exact H4.out⟩
  case round =>
    obtain ⟨k, hk, rfl, HT⟩ := hrel
    by_cases hlt : k < 64
    · have hix := index_px w.heap.size k hlt
      have hl := load_px w.heap.size _ k hlt wr (HT.out.row (b := w.heap.size) (o := tob (pt f (fun i => cln (f i)) k)) (by simp))
      rw [pt_at] at hl
      have HL := Lib.hid hl
      have e5 : upd (pt f (fun i => cln (f i)) k) k (cln (f k)) = pt f (fun i => cln (f i)) (k + 1) := pt_succ f (fun i => cln (f i)) k
      have HX := Lib.hid (St.call HT.out (refClean_any (f k).r (f k).g (f k).b (f k).a wr))
      have HE := Lib.hid e5
      clear hl e5
      go_wp2_with (first
        | (refine wpList_load_of rfl 36 _ rfl _ HL.out ?_)
        | (go_at_call 88; (refine HX.out.mono ?_); rintro e V4 ⟨rfl, h4⟩; have hst := store_px w.heap.size _ k (cln (f k)) hlt V4 (h4.row (b := w.heap.size) (o := tob (pt f (fun i => cln (f i)) k)) (by simp)); have h5 := St.rowset (ds := tc (upd (pt f (fun i => cln (f i)) k) k (cln (f k)))) h4 (by omega) (by simp); rw [HE.out] at h5 hst; have H5 := Lib.hid h5; have HST := Lib.hid hst; clear h4 h5 hst)
        | (refine wpList_store_of rfl 36 _ _ rfl HST.out ?_))
      go_roundw
      case rel => exact ⟨k + 1, by omega, by go_num, H5.out⟩
      case measure => simp [intOf]; omega
    · obtain rfl : k = 64 := by omega
      have HLA := Lib.hid (load_all (HT.out.row (b := w.heap.size) (o := tob (pt (f) (fun i => cln (f i)) 64)) (by simp)))
      have HR := Lib.hid (HT.out.row (b := w.heap.size + 1) (o := tob z0) (by simp))
      have HSA := Lib.hid (store_tile (w.heap.size + 1) z0 (fun i => cln (f i)) wr HR.out)
      have HB := Lib.hid HT.out.below
      go_wp2_with (first
        | (refine wpList_load_of rfl 38 _ rfl _ HLA.out ?_)
        | (refine wpList_store_of rfl 38 _ _ rfl HSA.out ?_))
      exact bodyPost_ret (v := tv (fun i => cln (f i))) (results_cell_row rfl _ _ (w.heap.size + 1) _ _ _ _ rfl (setRow_heap _ _ _ _ _ _ HR.out) Tryz.underlying38 rfl (by rw [info_tile, tc_size])) rfl ⟨rfl, Below.setRow HB.out (by omega) _⟩
end Go.Proofs.YtfncldaodbfakaaGreat.T
