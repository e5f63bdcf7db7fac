/-
  Coverages turned (contract of the laws' turnCoverage).
-/
import Derived.Test.YtkomknhloimhcaaTOps
import Derived.Test.YtkomknhloimhcaaTSym
namespace Go.Proofs.Ytkomknhloimhcaa.T
open Go.RowKit Go.Shelf

set_option maxRecDepth 100000 in
theorem zero_cov (w : World) : (zeroValue 37).run Try.prog w = .ok (.agg (cvc (fun _ => 0))) w := by kernel_rfl
theorem info_cov2 : (Try.prog.info? 37).map (·.size) = some 64 := by kernel_rfl
theorem cvc_one (k : Nat → Int) : (cvc k).all (·.oneCell') = true := by
  unfold cvc
  apply all_oneCell_toArray
  intro v hv
  unfold cl64 at hv
  obtain ⟨i, _, hi⟩ := List.mem_map.1 hv
  rw [← hi]; rfl
theorem store_cov (b : Nat) (f g : Nat → Int) (w : World) (h : w.heap[b]? = some (cvo f)) : (Instr.storeAt 37 (ptrB b) (.agg (cvc g))).run Try.prog w = .ok () (w.setRow b (cvc g)) := by
  simp only [Instr.storeAt, Instr.sureAddr, Sem.run_bind, Sem.run_pure, Result.andThen_ok, run_storeVar_row w b _ 37 _ _ h (by rw [info_cov2, cvc_size]) (by rw [cvc_size, cvc_size]) (cvc_one g)]
theorem load_cov (b : Nat) (f : Nat → Int) (w : World) (h : w.heap[b]? = some (cvo f)) : (Instr.loadAt 37 (ptrB b)).run Try.prog w = .ok (.agg (cvc f)) w := by
  have := run_loadAt_mid w b 0 37 (cvc f).toList _ (fun j v hv => by rw [Nat.zero_add, cell_of_row w b j _ _ (0, 0) h]; simpa using hv) Try.underlying37 rfl (by rw [info_cov2, Array.length_toList, cvc_size])
  simpa using this
theorem cvc_of {cs : Array Value} (f : Nat → Int) (hs : cs.size = 64) (h : ∀ i, i < 64 → cs[i]? = some (.int .u8 (f i))) : cs = cvc f := by
  apply Array.ext_getElem?
  intro k
  by_cases hk : k < 64
  · rw [h k hk, cvc_get f k hk]
  · rw [Array.getElem?_eq_none (by omega), Array.getElem?_eq_none (by rw [cvc_size]; omega)]
/-- the numbers c of which the first n are those of d -/
def ct (c d : Nat → Int) (n : Nat) : Nat → Int := fun k => if k < n then d k else c k
theorem ct_set (c d : Nat → Int) (n : Nat) (hn : n < 64) : (cvc (ct c d n)).setIfInBounds n (.int .u8 (d n)) = cvc (ct c d (n + 1)) := by
  refine cvc_of _ (by simp [cvc_size]) fun i hi => ?_
  rw [Array.getElem?_setIfInBounds]
  by_cases h : n = i
  · subst h
    rw [if_pos rfl, if_pos (by rw [cvc_size]; exact hn)]
    unfold ct; rw [if_pos (by omega)]
  · rw [if_neg h, cvc_get _ _ hi]
    unfold ct
    by_cases h2 : i < n
    · rw [if_pos h2, if_pos (by omega)]
    · rw [if_neg h2, if_neg (by omega)]
theorem ct_zero (c d : Nat → Int) : ct c d 0 = c := by funext k; simp [ct]
theorem ct_all (c d : Nat → Int) : cvc (ct c d 64) = cvc d := cvc_of _ (cvc_size _) fun i hi => by rw [cvc_get _ _ hi]; unfold ct; rw [if_pos hi]
/-- pixels that are nothing but alphas -/
def al (c : Nat → Int) : Nat → Px := fun i => ⟨0, 0, 0, c i⟩
theorem al_set (c : Nat → Int) (n : Nat) (hn : n < 64) : (tc (pt z0 (al c) n)).setIfInBounds (4 * n + 3) (.int .u8 (c n)) = tc (pt z0 (al c) (n + 1)) := by
  refine tc_of _ (by simp [tc_size]) fun i j hi hj => ?_
  rw [Array.getElem?_setIfInBounds]
  by_cases h : i = n
  · subst h
    have e : pt z0 (al c) (i + 1) i = al c i := if_pos (by omega)
    rw [e]
    by_cases h3 : j = 3
    · subst h3
      rw [if_pos rfl, if_pos (by rw [tc_size]; omega)]; rfl
    · rw [if_neg (by omega), tc_get _ _ _ hi hj, pt_at]
      have : j = 0 ∨ j = 1 ∨ j = 2 := by omega
      rcases this with rfl | rfl | rfl <;> rfl
  · rw [if_neg (by omega), tc_get _ _ _ hi hj]
    have e : pt z0 (al c) (n + 1) i = pt z0 (al c) n i := by
      unfold pt
      by_cases h2 : i < n
      · rw [if_pos h2, if_pos (by omega)]
      · rw [if_neg h2, if_neg (by omega)]
    rw [e]
theorem load_ats {b : Nat} {f g : Nat → Px} {w : World} (h : w.heap[b]? = some (tob (pt f g 64))) : (Instr.loadAt 25 (.pointer (some ⟨b, 0, none⟩))).run Try.prog w = .ok (tv g) w := by
  have e : tob (pt f g 64) = tob g := congrArg (fun c => Obj.cells c 25) (pt_all f g)
  rw [e] at h
  exact load_tile b g w h
theorem load_cts {b : Nat} {c d : Nat → Int} {w : World} (h : w.heap[b]? = some (cvo (ct c d 64))) : (Instr.loadAt 37 (ptrB b)).run Try.prog w = .ok (.agg (cvc d)) w := by
  have e : cvo (ct c d 64) = cvo d := congrArg (fun c => Obj.cells c 37) (ct_all c d)
  rw [e] at h
  exact load_cov b d w h
theorem St.setc {W w : World} {L : List (Nat × Obj)} {b i : Nat} {cs : Array Value} {t : TypeId} (v : Value) (h : St W ((b, .cells cs t) :: L) w) (hb : W.heap.size ≤ b) (hL : ∀ x ∈ L, x.1 ≠ b) : St W ((b, .cells (cs.setIfInBounds i v) t) :: L) (w.setCell ⟨b, i, none⟩ v) := by
  rw [setCell_eq_setRow w b i cs t (0, 0) v (h.row (List.mem_cons_self ..))]
  exact St.rowset h hb hL
set_option maxRecDepth 100000 in
set_option maxHeartbeats 4000000 in
theorem turnCov_any (c : Nat → Int) (w : World) : Calls Try.prog 36 #[.agg (cvc c)] w fun e w' => e = .returned (.agg (cvc (fun i => c (turnI i)))) ∧ Below w.heap.size w w' := by
  have hs := ((St.start w).alloc (cvo c)).alloc (cvo (fun _ => 0))
  simp only [World.size_alloc] at hs
  obtain ⟨V2, hV2⟩ : ∃ V2, V2 = (w.alloc (cvo c)).alloc (cvo (fun _ => 0)) := ⟨_, rfl⟩
  rw [← hV2] at hs
  have hz2 : V2.heap.size = w.heap.size + 1 + 1 := by rw [hV2]; simp
  have hA := World.alloc_heap_new V2 (tob z0)
  have h4 := St.rowset (ds := tc z0) (hs.alloc (tob z0)) (by omega) (by simp; omega)
  rw [hz2] at hA h4
  have HA := Lib.hid hA
  have HZ2 := Lib.hid hz2
  have H4 := Lib.hid h4
  have HV := Lib.hid hV2
  have hzt := zero_tile
  clear hs hV2 hz2 hA h4
  go_enter Try.func36, Try.ntmps36
  go_upto_region 1 with (refine wpList_alloc_of rfl 37 rfl _ (zero_cov _) ?_)
  try simp only [Act.put, List.setIfInBounds_toArray, List.set_cons_zero, List.set_cons_succ]
  have e1 : (w.alloc (cvo c)).alloc (cvo (fun _ => 0)) = V2 := HV.out.symm
  rw [e1]
  clear e1
  try rw [show (w.alloc (cvo c)).heap.size = w.heap.size + 1 by simp]
  refine wp_region_lit ?_
  refine wpList_build0 rfl 25 rfl _ (built0 _) ?_
  simp only [Act.put, List.setIfInBounds_toArray, List.set_cons_zero, List.set_cons_succ]
  refine wpList_alloc_of rfl 25 rfl _ (zero_tile _) ?_
  simp only [Act.put, List.setIfInBounds_toArray, List.set_cons_zero, List.set_cons_succ]
  rw [HZ2.out]
  refine wpList_store_of rfl 25 _ _ rfl (store_tile (w.heap.size + 1 + 1) z0 z0 _ HA.out) ?_
  simp only [Act.put]
  generalize (V2.alloc (.cells (tc z0) 25)).setRow (w.heap.size + 1 + 1) (tc z0) = V3 at H4 ⊢
  go_wp2
  go_loopw [4] (fun v wr => ∃ k : Nat, k ≤ 64 ∧ v = .int .i64 k ∧ Hid (St w [(w.heap.size + 1 + 1, tob (pt z0 (al c) k)), (w.heap.size + 1, cvo (fun _ => 0)), (w.heap.size, cvo c)] wr)) (fun i _ => 64 - (intOf i).toNat)
  case atStart => exact ⟨0, by omega, rfl, by rw [pt_zero]; exact H4.out⟩
  case round =>
    obtain ⟨k, hk, rfl, HT⟩ := hrel
    by_cases hlt : k < 64
    · have hix := index_cov w.heap.size k hlt
      have hiy := index_px (w.heap.size + 1 + 1) k hlt
      have hc1 := (HT.out.cell (b := w.heap.size) (t := 37) (cs := cvc c) (by simp) k).trans (cvc_get c k hlt)
      have hu := (HT.out.q4 (b := w.heap.size + 1 + 1) (f := pt z0 (al c) k) (by simp) k hlt).2.2.2
      have hf := HT.out.frozen (b := w.heap.size + 1 + 1) (cs := tc (pt z0 (al c) k)) (t := 25) (by simp) (4 * k + 3)
      have h5 := St.setc (i := 4 * k + 3) (.int .u8 (c k)) HT.out (by omega) (by simp; omega)
      rw [al_set c k hlt] at h5
      have H5 := Lib.hid h5
      clear h5
      go_wp2
      go_roundw
      case rel => exact ⟨k + 1, by omega, by go_num, H5.out⟩
      case measure => simp [intOf]; omega
    · obtain rfl : k = 64 := by omega
      have HL := Lib.hid (load_ats (HT.out.row (b := w.heap.size + 1 + 1) (o := tob (pt z0 (al c) 64)) (by simp)))
      have HX := Lib.hid (St.call HT.out (turn_any (al c) wr))
      go_upto_region 7 with (first
        | (refine wpList_load_of rfl 25 _ rfl _ HL.out ?_)
        | (go_at_call 30; (refine HX.out.mono ?_); rintro e V4 ⟨rfl, h⟩; have hst := store_tile (w.heap.size + 1 + 1) _ (fun i => al c (turnI i)) V4 h.hd; have h6 := St.rowset (ds := tc (fun i => al c (turnI i))) h (by omega) (by simp; omega); have HST := Lib.hid hst; have H6 := Lib.hid h6; clear h hst h6)
        | (refine wpList_store_of rfl 25 _ _ rfl HST.out ?_))
      generalize V4.setRow (w.heap.size + 1 + 1) (tc (fun i => al c (turnI i))) = V6 at H6 ⊢
      have h7 := H6.out.sub (L' := [(w.heap.size, cvo c), (w.heap.size + 1, cvo (fun _ => 0)), (w.heap.size + 1 + 1, tob (fun i => al c (turnI i)))]) (by simp)
      have H7 := Lib.hid h7
      clear h7
      go_wp2
      go_loopw [5] (fun v wr => ∃ j : Nat, j ≤ 64 ∧ v = .int .i64 j ∧ Hid (St w [(w.heap.size, cvo (ct c (fun i => c (turnI i)) j)), (w.heap.size + 1, cvo (fun _ => 0)), (w.heap.size + 1 + 1, tob (fun i => al c (turnI i)))] wr)) (fun i _ => 64 - (intOf i).toNat)
      case atStart => exact ⟨0, by omega, rfl, by rw [ct_zero]; exact H7.out⟩
      case round =>
        obtain ⟨j, hj, rfl, HU⟩ := hrel
        by_cases hlj : j < 64
        · have hix := index_cov w.heap.size j hlj
          have hiy := index_px (w.heap.size + 1 + 1) j hlj
          have hu := (HU.out.q4 (b := w.heap.size + 1 + 1) (f := fun i => al c (turnI i)) (by simp) j hlj).2.2.2
          have hu : wr.cell? ⟨w.heap.size + 1 + 1, 4 * j + 3, none⟩ = some (.int .u8 (c (turnI j))) := hu
          have hc1 := (HU.out.cell (b := w.heap.size) (t := 37) (cs := cvc (ct c (fun i => c (turnI i)) j)) (by simp) j).trans (cvc_get _ j hlj)
          have hf := HU.out.frozen (b := w.heap.size) (cs := cvc (ct c (fun i => c (turnI i)) j)) (t := 37) (by simp) j
          have h5 := St.setc (i := j) (.int .u8 (c (turnI j))) HU.out (by omega) (by first | (simp; done) | (simp; omega))
          have e5 := ct_set c (fun i => c (turnI i)) j hlj
          rw [e5] at h5
          have H5 := Lib.hid h5
          clear h5 e5
          go_wp2
          go_roundw
          case rel => exact ⟨j + 1, by omega, by go_num, H5.out⟩
          case measure => simp [intOf]; omega
        · obtain rfl : j = 64 := by omega
          have HLA := Lib.hid (load_cts (HU.out.row (b := w.heap.size) (o := cvo (ct c (fun i => c (turnI i)) 64)) (by simp)))
          have HR := Lib.hid (HU.out.row (b := w.heap.size + 1) (o := cvo (fun _ => 0)) (by simp))
          have HSA := Lib.hid (store_cov (w.heap.size + 1) (fun _ => 0) (fun i => c (turnI i)) wr HR.out)
          have HB := Lib.hid HU.out.below
          go_wp2_with (first
            | (refine wpList_load_of rfl 37 _ rfl _ HLA.out ?_)
            | (refine wpList_store_of rfl 37 _ _ rfl HSA.out ?_))
          exact bodyPost_ret (v := .agg (cvc (fun i => c (turnI i)))) (results_cell_row rfl _ _ (w.heap.size + 1) _ _ _ _ rfl (setRow_heap _ _ _ _ _ _ HR.out) Try.underlying37 rfl (by rw [info_cov2, cvc_size])) rfl ⟨rfl, Below.setRow HB.out (by omega) _⟩
end Go.Proofs.Ytkomknhloimhcaa.T
