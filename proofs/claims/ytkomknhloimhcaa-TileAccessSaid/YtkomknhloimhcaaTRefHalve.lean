/-
  Halve of the reference (contract).
-/
import Derived.Test.YtkomknhloimhcaaTRefAt
import Derived.Test.YtkomknhloimhcaaRefMeanPix
namespace Go.Proofs.Ytkomknhloimhcaa.T
open Go.RowKit Go.Shelf

theorem refAdd_t {W w : World} {L : List (Nat × Obj)} (P : Nat → Px) (t : Nat) (ht : t < 4) (bm : Nat) (h : St W ((bm, mr (t : Nat) (ma P t) (mx P t) (my P t) (mz P t)) :: L) w) (hbm : W.heap.size ≤ bm) (hL : ∀ x ∈ L, x.1 ≠ bm) (hP : ∀ j, j < 4 → Pc (P j)) :
    Calls Try.prog 56 #[ptr bm, (P t).v, .int .i64 1] w fun e w' => e = .returned (.tuple #[]) ∧ St W ((bm, mr (t + 1 : Nat) (ma P (t + 1)) (mx P (t + 1)) (my P (t + 1)) (mz P (t + 1))) :: L) w' := by
  have hp := hP t ht
  have := refAdd_any (W := W) (L := L) bm t (ma P t) (mx P t) (my P t) (mz P t) (P t).r (P t).g (P t).b (P t).a 1 w h hbm hL (mb_of P t (by omega) hP) (by omega) hp.1 hp.2.1 hp.2.2.1 hp.2.2.2
  rw [show ((t + 1 : Nat) : Int) = (t : Int) + cnt 1 by rw [cnt_one]; omega]
  exact this
theorem at_four (G : Nat → Px) (k j t : Nat) (x y : Int) (w : World) (hk : k < 8) (hj : j < 8) (ht : t < 4) (hx : x = 2 * (j : Int) + ((t % 2 : Nat) : Int)) (hy : y = 2 * (k : Int) + ((t / 2 : Nat) : Int)) :
    Calls Try.prog 57 #[.agg (fc 256 G), .int .i64 x, .int .i64 y] w fun e w' => e = .returned (four G (8 * k + j) t).v ∧ Below w.heap.size w w' := by
  have := refAt_any G (2 * j + t % 2) (2 * k + t / 2) x y w (by omega) (by omega) (by omega) (by omega)
  have e : four G (8 * k + j) t = G (num (2 * j + t % 2) (2 * k + t / 2)) := by
    unfold four
    rw [show (8 * k + j) % 8 = j by omega, show (8 * k + j) / 8 = k by omega]
  rw [e]; exact this
set_option maxRecDepth 100000 in
set_option maxHeartbeats 8000000 in
theorem refHalve_any (a b c d : Nat → Px) (w : World) (hG : ∀ k, k < 256 → Pc (sqG a b c d k)) : Calls Try.prog 33 #[tv a, tv b, tv c, tv d] w fun e w' => e = .returned (tv (fun i => m4 (four (sqG a b c d) i))) ∧ Below w.heap.size w w' := by
  obtain ⟨V2, hV2⟩ : ∃ V2, V2 = ((((w.alloc (tob a)).alloc (tob b)).alloc (tob c)).alloc (tob d)).alloc (tob z0) := ⟨_, rfl⟩
  have hs := (((((St.start w).alloc (tob a)).alloc (tob b)).alloc (tob c)).alloc (tob d)).alloc (tob z0)
  simp only [World.size_alloc] at hs
  rw [← hV2] at hs
  have hz2 : V2.heap.size = w.heap.size + 1 + 1 + 1 + 1 + 1 := by rw [hV2]; simp
  have HV := Lib.hid hV2
  have k0 := hs.row (b := w.heap.size) (o := tob a) (by simp)
  have k1 := hs.row (b := w.heap.size + 1) (o := tob b) (by simp)
  have k2 := hs.row (b := w.heap.size + 1 + 1) (o := tob c) (by simp)
  have k3 := hs.row (b := w.heap.size + 1 + 1 + 1) (o := tob d) (by simp)
  have hs := hs.sub (L' := [(w.heap.size + 1 + 1 + 1 + 1, tob z0)]) (by simp)
  have hA := World.alloc_heap_new V2 (sq4 z0)
  have h6 := St.rowset (ds := fc 256 (sqG a b c d)) (hs.alloc (sq4 z0)) (by omega) (by simp; omega)
  rw [hz2] at hA h6
  obtain ⟨V6, hV6⟩ : ∃ V6, V6 = (V2.alloc (sq4 z0)).setRow (w.heap.size + 1 + 1 + 1 + 1 + 1) (fc 256 (sqG a b c d)) := ⟨_, rfl⟩
  have hz6 : V6.heap.size = w.heap.size + 1 + 1 + 1 + 1 + 1 + 1 := by rw [hV6]; simp; omega
  rw [← hV6] at h6
  have hA6 := World.alloc_heap_new V6 (tob z0)
  have h7 := St.rowset (ds := tc z0) (h6.alloc (tob z0)) (by omega) (by simp; omega)
  rw [hz6] at hA6 h7
  have HA := Lib.hid hA
  have HA6 := Lib.hid hA6
  have HZ2 := Lib.hid hz2
  have HZ6 := Lib.hid hz6
  have HV6 := Lib.hid hV6
  have H7 := Lib.hid h7
  have HG := Lib.hid hG
  have hzt := zero_tile
  clear hs hA h6 hA6 h7 hV2 hV6 hz2 hz6 hG
  go_enter Try.func33, Try.ntmps33
  go_upto_region 1 with fail
  have e1 : ((((w.alloc (tob a)).alloc (tob b)).alloc (tob c)).alloc (tob d)).alloc (tob z0) = V2 := HV.out.symm
  rw [e1]
  clear e1
  refine wp_region_lit ?_
  refine wpList_load_of rfl 25 _ rfl _ (load_tile _ _ _ k0) ?_
  simp only [Act.put, List.setIfInBounds_toArray, List.set_cons_zero, List.set_cons_succ]
  refine wpList_load_of rfl 25 _ rfl _ (load_tile _ _ _ k1) ?_
  simp only [Act.put, List.setIfInBounds_toArray, List.set_cons_zero, List.set_cons_succ]
  refine wpList_load_of rfl 25 _ rfl _ (load_tile _ _ _ k2) ?_
  simp only [Act.put, List.setIfInBounds_toArray, List.set_cons_zero, List.set_cons_succ]
  refine wpList_load_of rfl 25 _ rfl _ (load_tile _ _ _ k3) ?_
  simp only [Act.put, List.setIfInBounds_toArray, List.set_cons_zero, List.set_cons_succ]
  refine wpList_build4 rfl 43 _ _ _ _ rfl _ _ _ _ _ rfl rfl rfl rfl (built_sq a b c d V2) ?_
  simp only [Act.put, List.setIfInBounds_toArray, List.set_cons_zero, List.set_cons_succ]
  refine wpList_alloc_of rfl 43 rfl _ (zero_sq4 _) ?_
  simp only [Act.put, List.setIfInBounds_toArray, List.set_cons_zero, List.set_cons_succ]
  rw [HZ2.out]
  refine wpList_store_of rfl 43 _ _ rfl (store_sq4 _ z0 _ _ HA.out) ?_
  simp only [Act.put]
  have e6 : (V2.alloc (.cells (fc 256 z0) 43)).setRow (w.heap.size + 1 + 1 + 1 + 1 + 1) (fc 256 (sqG a b c d)) = V6 := HV6.out.symm
  rw [e6]
  clear e6 k0 k1 k2 k3
  generalize hGs : sqG a b c d = G at *
  have HGs := Lib.hid hGs
  clear hGs
  obtain ⟨H, hH⟩ : ∃ H : Nat → Px, H = fun i => m4 (four G i) := ⟨_, rfl⟩
  have HH := Lib.hid hH
  have HHi : Hid (∀ i, H i = m4 (four G i)) := fun i => by rw [hH]
  clear hH
  generalize tc a = m3
  generalize tc b = m4'
  generalize tc c = m5
  generalize tc d = m6
  go_upto_region 2 with fail
  refine wp_region_lit ?_
  refine wpList_build0 rfl 25 rfl _ (built0 _) ?_
  simp only [Act.put, List.setIfInBounds_toArray, List.set_cons_zero, List.set_cons_succ]
  refine wpList_alloc_of rfl 25 rfl _ (zero_tile _) ?_
  simp only [Act.put, List.setIfInBounds_toArray, List.set_cons_zero, List.set_cons_succ]
  rw [HZ6.out]
  refine wpList_store_of rfl 25 _ _ rfl (store_tile (w.heap.size + 1 + 1 + 1 + 1 + 1 + 1) z0 z0 _ HA6.out) ?_
  simp only [Act.put]
  generalize (V6.alloc (.cells (tc z0) 25)).setRow (w.heap.size + 1 + 1 + 1 + 1 + 1 + 1) (tc z0) = V7 at H7 ⊢
  go_wp2
  go_loopw [11] (fun v wr => ∃ k : Nat, k ≤ 8 ∧ v = .int .i64 k ∧ Hid (St w [(w.heap.size + 1 + 1 + 1 + 1 + 1 + 1, tob (pt z0 H (8 * k))), (w.heap.size + 1 + 1 + 1 + 1 + 1, sq4 G), (w.heap.size + 1 + 1 + 1 + 1, tob z0)] wr)) (fun i _ => 8 - (intOf i).toNat)
  case atStart => exact ⟨0, by omega, rfl, by rw [Nat.mul_zero, pt_zero]; exact H7.out⟩
  case round =>
    obtain ⟨k, hk, rfl, HT⟩ := hrel
    by_cases hlt : k < 8
    · go_wp2
      generalize decide ((k : Int) < 8) = bz0
      go_loopw [12] (fun v wr => ∃ j : Nat, j ≤ 8 ∧ v = .int .i64 j ∧ Hid (St w [(w.heap.size + 1 + 1 + 1 + 1 + 1 + 1, tob (pt z0 H (8 * k + j))), (w.heap.size + 1 + 1 + 1 + 1 + 1, sq4 G), (w.heap.size + 1 + 1 + 1 + 1, tob z0)] wr)) (fun i _ => 8 - (intOf i).toNat)
      case atStart => exact ⟨0, by omega, rfl, HT.out⟩
      case round =>
        obtain ⟨j, hj, rfl, HT⟩ := hrel
        by_cases hlj : j < 8
        · have hix := fun W => index_at (t := 25) (n := 64) Try.underlying25 size_px (w.heap.size + 1 + 1 + 1 + 1 + 1 + 1) 0 (8 * k + j) (8 * (k : Int) + (j : Int)) (by omega) (by omega) W
          rw [show 0 + (8 * k + j) * 4 = 4 * (8 * k + j) by omega] at hix
          have HP : Hid (∀ t, t < 4 → Pc (four G (8 * k + j) t)) := fun t ht => HG.out _ (num_lt (by omega) (by omega))
          have HC : Hid (∀ (t : Nat) (x y : Int) (V : World), t < 4 → x = 2 * (j : Int) + ((t % 2 : Nat) : Int) → y = 2 * (k : Int) + ((t / 2 : Nat) : Int) → Calls Try.prog 57 #[.agg (fc 256 G), .int .i64 x, .int .i64 y] V fun e w' => e = .returned (four G (8 * k + j) t).v ∧ Below V.heap.size V w') := fun t x y V ht hx hy => at_four G k j t x y V hlt hlj ht hx hy
          have HM := Lib.hid (HHi.out (8 * k + j))
          generalize four G (8 * k + j) = P at *
          have HBM := Lib.hid HT.out.below.size
          have HNE : Hid (∀ x ∈ [(w.heap.size + 1 + 1 + 1 + 1 + 1 + 1, tob (pt z0 H (8 * k + j))), (w.heap.size + 1 + 1 + 1 + 1 + 1, sq4 G), (w.heap.size + 1 + 1 + 1 + 1, tob z0)], x.1 ≠ wr.heap.size) := fun x hx => Nat.ne_of_lt (Array.getElem?_eq_some_iff.1 (HT.out.rows x hx)).1
          have S0 : Hid (St w ((wr.heap.size, mr ((0 : Nat) : Int) (ma P 0) (mx P 0) (my P 0) (mz P 0)) :: [(w.heap.size + 1 + 1 + 1 + 1 + 1 + 1, tob (pt z0 H (8 * k + j))), (w.heap.size + 1 + 1 + 1 + 1 + 1, sq4 G), (w.heap.size + 1 + 1 + 1 + 1, tob z0)]) (wr.alloc (mr 0 0 0 0 0))) := HT.out.alloc (mr 0 0 0 0 0)
          go_upto_region 10 with fail
          generalize wr.alloc (mr 0 0 0 0 0) = W0 at S0 ⊢
          generalize wr.heap.size = bm at *
          go_upto_region 11 with (first
            | (refine wpList_load_of rfl 43 _ rfl _ (load_sq4 (w.heap.size + 1 + 1 + 1 + 1 + 1) G _ (S0.out.row (b := w.heap.size + 1 + 1 + 1 + 1 + 1) (o := sq4 G) (by simp))) ?_)
            | (go_at_call 57; (refine (St.call S0.out (HC.out 0 _ _ _ (by omega) (by omega) (by omega))).mono ?_); rintro e U0 ⟨rfl, h⟩; have SA0 := Lib.hid h; clear h)
            | (go_at_call 56; (refine (refAdd_t P 0 (by omega) bm SA0.out HBM.out HNE.out HP.out).mono ?_); rintro e W1 ⟨rfl, h⟩; have S1 := Lib.hid h; clear h))
          go_upto_region 12 with (first
            | (refine wpList_load_of rfl 43 _ rfl _ (load_sq4 (w.heap.size + 1 + 1 + 1 + 1 + 1) G _ (S1.out.row (b := w.heap.size + 1 + 1 + 1 + 1 + 1) (o := sq4 G) (by simp))) ?_)
            | (go_at_call 57; (refine (St.call S1.out (HC.out 1 _ _ _ (by omega) (by omega) (by omega))).mono ?_); rintro e U1 ⟨rfl, h⟩; have SA1 := Lib.hid h; clear h)
            | (go_at_call 56; (refine (refAdd_t P 1 (by omega) bm SA1.out HBM.out HNE.out HP.out).mono ?_); rintro e W2 ⟨rfl, h⟩; have S2 := Lib.hid h; clear h))
          go_upto_region 13 with (first
            | (refine wpList_load_of rfl 43 _ rfl _ (load_sq4 (w.heap.size + 1 + 1 + 1 + 1 + 1) G _ (S2.out.row (b := w.heap.size + 1 + 1 + 1 + 1 + 1) (o := sq4 G) (by simp))) ?_)
            | (go_at_call 57; (refine (St.call S2.out (HC.out 2 _ _ _ (by omega) (by omega) (by omega))).mono ?_); rintro e U2 ⟨rfl, h⟩; have SA2 := Lib.hid h; clear h)
            | (go_at_call 56; (refine (refAdd_t P 2 (by omega) bm SA2.out HBM.out HNE.out HP.out).mono ?_); rintro e W3 ⟨rfl, h⟩; have S3 := Lib.hid h; clear h))
          go_upto_region 14 with (first
            | (refine wpList_load_of rfl 43 _ rfl _ (load_sq4 (w.heap.size + 1 + 1 + 1 + 1 + 1) G _ (S3.out.row (b := w.heap.size + 1 + 1 + 1 + 1 + 1) (o := sq4 G) (by simp))) ?_)
            | (go_at_call 57; (refine (St.call S3.out (HC.out 3 _ _ _ (by omega) (by omega) (by omega))).mono ?_); rintro e U3 ⟨rfl, h⟩; have SA3 := Lib.hid h; clear h)
            | (go_at_call 56; (refine (refAdd_t P 3 (by omega) bm SA3.out HBM.out HNE.out HP.out).mono ?_); rintro e W4 ⟨rfl, h⟩; have S4 := Lib.hid h; clear h))
          have HX : Hid (Calls Try.prog 58 #[ptr bm] W4 fun e w' => e = .returned (m4 P).v ∧ St w [(w.heap.size + 1 + 1 + 1 + 1 + 1 + 1, tob (pt z0 H (8 * k + j))), (w.heap.size + 1 + 1 + 1 + 1 + 1, sq4 G), (w.heap.size + 1 + 1 + 1 + 1, tob z0)] w') := (St.call S4.out (refPix_any (W := w) bm ((4 : Nat) : Int) (ma P 4) (mx P 4) (my P 4) (mz P 4) _ S4.out (mb_of P 4 (by omega) HP.out))).mono fun _ _ ⟨h1, h2⟩ => ⟨h1, h2.sub (fun x hx => List.mem_cons_of_mem _ hx)⟩
          have hu : upd (pt z0 H (8 * k + j)) (8 * k + j) (m4 P) = pt z0 H (8 * k + (j + 1)) := by rw [← HM.out]; exact pt_succ z0 H (8 * k + j)
          have HS5 : Hid (∀ V, St w [(w.heap.size + 1 + 1 + 1 + 1 + 1 + 1, tob (pt z0 H (8 * k + j))), (w.heap.size + 1 + 1 + 1 + 1 + 1, sq4 G), (w.heap.size + 1 + 1 + 1 + 1, tob z0)] V → (Instr.storeAt 23 (.pointer (some ⟨w.heap.size + 1 + 1 + 1 + 1 + 1 + 1, 4 * (8 * k + j), none⟩)) (m4 P).v).run Try.prog V = .ok () (V.setRow (w.heap.size + 1 + 1 + 1 + 1 + 1 + 1) (tc (pt z0 H (8 * k + (j + 1))))) ∧ St w [(w.heap.size + 1 + 1 + 1 + 1 + 1 + 1, tob (pt z0 H (8 * k + (j + 1)))), (w.heap.size + 1 + 1 + 1 + 1 + 1, sq4 G), (w.heap.size + 1 + 1 + 1 + 1, tob z0)] (V.setRow (w.heap.size + 1 + 1 + 1 + 1 + 1 + 1) (tc (pt z0 H (8 * k + (j + 1)))))) := fun V h4 => by
            rw [← hu]
            exact ⟨store_px (w.heap.size + 1 + 1 + 1 + 1 + 1 + 1) _ (8 * k + j) (m4 P) (by omega) V (h4.row (b := w.heap.size + 1 + 1 + 1 + 1 + 1 + 1) (o := tob (pt z0 H (8 * k + j))) (by simp)), St.rowset (ds := tc (upd (pt z0 H (8 * k + j)) (8 * k + j) (m4 P))) h4 (by omega) (by first | (simp; done) | (simp; omega))⟩
          clear hu
          go_wp2_with (first
            | (go_at_call 58; (refine HX.out.mono ?_); rintro e V4 ⟨rfl, h4⟩; have HST := Lib.hid (HS5.out V4 h4); clear h4)
            | (refine wpList_store_of rfl 23 _ _ rfl HST.out.1 ?_))
          go_roundw
          case rel => exact ⟨j + 1, by omega, by go_num, HST.out.2⟩
          case measure => simp [intOf]; omega
        · obtain rfl : j = 8 := by omega
          go_wp2
          go_roundw
          case rel => exact ⟨k + 1, by omega, by go_num, HT.out⟩
          case measure => simp [intOf]; omega
    · obtain rfl : k = 8 := by omega
      have HLA := Lib.hid (load_all (HT.out.row (b := w.heap.size + 1 + 1 + 1 + 1 + 1 + 1) (o := tob (pt z0 H 64)) (by simp)))
      have HR := Lib.hid (HT.out.row (b := w.heap.size + 1 + 1 + 1 + 1) (o := tob z0) (by simp))
      have HSA := Lib.hid (store_tile (w.heap.size + 1 + 1 + 1 + 1) z0 H wr HR.out)
      have HB := Lib.hid HT.out.below
      go_wp2_with (first
        | (refine wpList_load_of rfl 25 _ rfl _ HLA.out ?_)
        | (refine wpList_store_of rfl 25 _ _ rfl HSA.out ?_))
      exact bodyPost_ret (v := tv H) (results_cell_row rfl _ _ (w.heap.size + 1 + 1 + 1 + 1) _ _ _ _ rfl (setRow_heap _ _ _ _ _ _ HR.out) Try.underlying25 rfl (by rw [info_tile, tc_size])) rfl ⟨by rw [HH.out, ← HGs.out], Below.setRow HB.out (by omega) _⟩
end Go.Proofs.Ytkomknhloimhcaa.T
