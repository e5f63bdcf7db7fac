/-
  The residuals of a plane, and the plane of residuals (contracts).
-/
import Derived.Test.YtjaipjgnchpjcaaPPrd
namespace Go.Proofs.Ytjaipjgnchpjcaa.P
open Go.RowKit T
set_option maxRecDepth 100000

/-- the residuals of a plane; the first n values of the plane of residuals -/
def res (k : Nat) (f : Nat → Int) : Nat → Int := fun i => b8 (f i - gs k f i)
def vs (k : Nat) (r : Nat → Int) : Nat → Nat → Int
  | 0 => zn
  | j + 1 => ups (vs k r j) j (b8 (r j + gs k (vs k r j) j))
theorem vs_ch (k : Nat) (r : Nat → Int) (j : Nat) : ∀ i, i < 64 → Ch (vs k r j i) := by
  induction j with
  | zero => intro i _; exact ⟨by show (0 : Int) ≤ 0; omega, by show (0 : Int) ≤ 255; omega⟩
  | succ j ih =>
    intro i hi
    unfold vs ups
    split
    · exact b8_ch _
    · exact ih i hi
theorem load_ru (b k : Nat) (w : World) (h : w.heap[b]? = some (ruO k)) : (Instr.loadAt 55 (ptrB b)).run Try.prog w = .ok (ruV k) w :=
  run_loadAt_mid w b 0 55 [.func (.func (rf k)) #[] #[]] _ (fun j v hv => by rw [Nat.zero_add, cell_of_row w b j _ _ (0, 0) h, ← hv]; exact List.getElem?_toArray) Try.underlying55 rfl (by kernel_rfl)
set_option maxHeartbeats 2000000 in
theorem resid_any (k : Nat) (f : Nat → Int) (w : World) (hf : ∀ i, i < 64 → Ch (f i)) :
    Calls Try.prog 26 #[ruV k, pv f] w fun e w' => e = .returned (pv (res k f)) ∧ Below w.heap.size w w' := by
  have hs := ((((St.start w).alloc (ruO k)).alloc (pob f)).alloc (pob zn)).alloc (pob zn)
  simp only [World.size_alloc] at hs
  obtain ⟨V2, hV2⟩ : ∃ V2, V2 = (((w.alloc (ruO k)).alloc (pob f)).alloc (pob zn)).alloc (pob zn) := ⟨_, rfl⟩
  have hz2 : V2.heap.size = w.heap.size + 1 + 1 + 1 + 1 := by rw [hV2]; simp
  rw [← hV2] at hs
  obtain ⟨b0, hb0⟩ : ∃ b0, b0 = w.heap.size := ⟨_, rfl⟩
  obtain ⟨m, hm⟩ : ∃ m, m = V2.heap.size := ⟨_, rfl⟩
  rw [← hb0] at hs hz2
  have hmb : b0 + 1 + 1 + 1 + 1 ≤ m := by omega
  have hC : Calls Try.prog 37 #[ruV k, ptrB (b0 + 1)] V2 fun e w' => e = .returned (.func (.func 40) #[] #[ptrB m, ptrB (m + 1 + 1 + 1)]) ∧ St w [(b0 + 1 + 1 + 1, pob zn), (m, ruO k), (m + 1, bx (b0 + 1)), (m + 1 + 1, atO (m + 1)), (m + 1 + 1 + 1, nbO (m + 1 + 1)), (b0 + 1 + 1, pob zn), (b0 + 1, pob f), (b0, ruO k)] w' := by
    rw [hm]
    exact (prdIn_any k (b0 + 1) V2).mono fun e w' ⟨he, hp, hb⟩ => ⟨he, by
      have h := hs.later hb
      exact ⟨h.below, fun x hx => by
        simp only [List.mem_cons, List.not_mem_nil, or_false] at hx
        rcases hx with rfl | rfl | rfl | rfl | rfl | rfl | rfl | rfl
        · exact h.row (b := b0 + 1 + 1 + 1) (o := pob zn) (by simp)
        · exact hp.r0
        · exact hp.r1
        · exact hp.r2
        · exact hp.r3
        · exact h.row (b := b0 + 1 + 1) (o := pob zn) (by simp)
        · exact h.row (b := b0 + 1) (o := pob f) (by simp)
        · exact h.row (b := b0) (o := ruO k) (by simp)⟩⟩
  have HC := Lib.hid hC
  have HV := Lib.hid hV2
  have HL0 := Lib.hid (load_ru b0 k V2 (hs.row (b := b0) (o := ruO k) (by simp)))
  have HB0 := Lib.hid hb0
  have HMB := Lib.hid hmb
  clear hC hV2 hs hz2 hm hb0 hmb
  go_enter Try.func26, Try.ntmps26
  go_upto_region 2 with (refine wpList_alloc_of rfl 59 rfl _ (zero_pl _) ?_)
  try simp only [Act.put, List.setIfInBounds_toArray, List.set_cons_zero, List.set_cons_succ]
  have e1 : (((w.alloc (ruO k)).alloc (pob f)).alloc (pob zn)).alloc (pob zn) = V2 := HV.out.symm
  rw [e1]
  clear e1
  try simp only [World.size_alloc]
  try rw [← HB0.out]
  go_upto_region 3 with (first
    | (refine wpList_load_of rfl 55 _ rfl _ HL0.out ?_)
    | (go_at_call 37; refine HC.out.mono ?_; rintro e w3 ⟨rfl, h3⟩))
  have HL1 := Lib.hid (load_pl (b0 + 1) f w3 (h3.row (b := b0 + 1) (o := pob f) (by simp)))
  have H3 := Lib.hid h3
  clear h3 HC HL0 HV
  go_wp2_with (refine wpList_load_of rfl 59 _ rfl _ HL1.out ?_)
  clear HL1
  go_loopw [12] (fun v wr => ∃ j : Nat, j ≤ 64 ∧ v = .int .i64 j ∧ Hid (St w [(b0 + 1 + 1 + 1, pob (ct zn (res k f) j)), (m, ruO k), (m + 1, bx (b0 + 1)), (m + 1 + 1, atO (m + 1)), (m + 1 + 1 + 1, nbO (m + 1 + 1)), (b0 + 1 + 1, pob zn), (b0 + 1, pob f), (b0, ruO k)] wr)) (fun i _ => 64 - (intOf i).toNat)
  case atStart => exact ⟨0, by omega, rfl, by rw [ct_zero]; exact H3.out⟩
  case round =>
    obtain ⟨j, hj, rfl, HT⟩ := hrel
    by_cases hlt : j < 64
    · have hix := index_pv f j hlt
      have hiy := index_pl (b0 + 1 + 1 + 1) j hlt
      have HX : Hid (Calls Try.prog 40 #[.int .i64 j, ptrB m, ptrB (m + 1 + 1 + 1)] wr fun e w' => e = .returned (.int .u8 (gs k f j)) ∧ St w [(b0 + 1 + 1 + 1, pob (ct zn (res k f) j)), (m, ruO k), (m + 1, bx (b0 + 1)), (m + 1 + 1, atO (m + 1)), (m + 1 + 1 + 1, nbO (m + 1 + 1)), (b0 + 1 + 1, pob zn), (b0 + 1, pob f), (b0, ruO k)] w') :=
        St.call HT.out (prd1_any f k j m (b0 + 1) wr hlt ⟨HT.out.row (b := m) (o := ruO k) (by simp), HT.out.row (b := m + 1) (o := bx (b0 + 1)) (by simp), HT.out.row (b := m + 1 + 1) (o := atO (m + 1)) (by simp), HT.out.row (b := m + 1 + 1 + 1) (o := nbO (m + 1 + 1)) (by simp)⟩ (HT.out.row (b := b0 + 1) (o := pob f) (by simp)) hf)
      go_wp2_with (go_at_call 40; refine HX.out.mono ?_; rintro e w4 ⟨rfl, h4⟩; have hcc := St.pcell h4 (b := b0 + 1 + 1 + 1) (f := (ct zn (res k f) j)) (by simp) hlt; have hff := h4.frozen (b := b0 + 1 + 1 + 1) (cs := pc (ct zn (res k f) j)) (t := 59) (by simp) j; have h5 := St.setp (b8 (f j - gs k f j)) h4 hlt (by have := HB0.out; omega) (by have := HMB.out; simp; omega); rw [show b8 (f j - gs k f j) = res k f j from rfl, ct_succ] at h5; have H5 := Lib.hid h5; clear h5 h4)
      go_roundw
      case rel => exact ⟨j + 1, by omega, by go_num, H5.out⟩
      case measure => simp [intOf]; omega
    · obtain rfl : j = 64 := by omega
      have hrow := HT.out.row (b := b0 + 1 + 1 + 1) (o := pob (ct zn (res k f) 64)) (by simp)
      rw [show pob (ct zn (res k f) 64) = pob (res k f) from congrArg (fun c => Obj.cells c 59) (ct_all zn (res k f))] at hrow
      have HLA := Lib.hid (load_pl (b0 + 1 + 1 + 1) (res k f) wr hrow)
      have HR := Lib.hid (HT.out.row (b := b0 + 1 + 1) (o := pob zn) (by simp))
      have HSA := Lib.hid (store_pl (b0 + 1 + 1) zn (res k f) wr HR.out)
      have HB := Lib.hid HT.out.below
      clear hrow
      go_wp2_with (first
        | (refine wpList_load_of rfl 59 _ rfl _ HLA.out ?_)
        | (refine wpList_store_of rfl 59 _ _ rfl HSA.out ?_))
      exact bodyPost_ret (v := pv (res k f)) (results_cell_row rfl _ _ (b0 + 1 + 1) _ _ _ _ rfl (setRow_heap _ _ _ _ _ _ HR.out) Try.underlying59 rfl (by rw [info_pl, pc_size])) rfl ⟨rfl, Below.setRow HB.out (by have := HB0.out; omega) _⟩
set_option maxHeartbeats 2000000 in
theorem vals_any (k : Nat) (f : Nat → Int) (w : World) :
    Calls Try.prog 28 #[ruV k, pv f] w fun e w' => e = .returned (pv (vs k f 64)) ∧ Below w.heap.size w w' := by
  have hs := ((((St.start w).alloc (ruO k)).alloc (pob f)).alloc (pob zn)).alloc (pob zn)
  simp only [World.size_alloc] at hs
  obtain ⟨V2, hV2⟩ : ∃ V2, V2 = (((w.alloc (ruO k)).alloc (pob f)).alloc (pob zn)).alloc (pob zn) := ⟨_, rfl⟩
  have hz2 : V2.heap.size = w.heap.size + 1 + 1 + 1 + 1 := by rw [hV2]; simp
  rw [← hV2] at hs
  obtain ⟨b0, hb0⟩ : ∃ b0, b0 = w.heap.size := ⟨_, rfl⟩
  obtain ⟨m, hm⟩ : ∃ m, m = V2.heap.size := ⟨_, rfl⟩
  rw [← hb0] at hs hz2
  have hmb : b0 + 1 + 1 + 1 + 1 ≤ m := by omega
  have hC : Calls Try.prog 37 #[ruV k, ptrB (b0 + 1 + 1 + 1)] V2 fun e w' => e = .returned (.func (.func 40) #[] #[ptrB m, ptrB (m + 1 + 1 + 1)]) ∧ St w [(b0 + 1 + 1 + 1, pob (vs k f 0)), (m, ruO k), (m + 1, bx (b0 + 1 + 1 + 1)), (m + 1 + 1, atO (m + 1)), (m + 1 + 1 + 1, nbO (m + 1 + 1)), (b0 + 1 + 1, pob zn), (b0 + 1, pob f), (b0, ruO k)] w' := by
    rw [hm]
    exact (prdIn_any k (b0 + 1 + 1 + 1) V2).mono fun e w' ⟨he, hp, hb⟩ => ⟨he, by
      have h := hs.later hb
      exact ⟨h.below, fun x hx => by
        simp only [List.mem_cons, List.not_mem_nil, or_false] at hx
        rcases hx with rfl | rfl | rfl | rfl | rfl | rfl | rfl | rfl
        · exact h.row (b := b0 + 1 + 1 + 1) (o := pob zn) (by simp)
        · exact hp.r0
        · exact hp.r1
        · exact hp.r2
        · exact hp.r3
        · exact h.row (b := b0 + 1 + 1) (o := pob zn) (by simp)
        · exact h.row (b := b0 + 1) (o := pob f) (by simp)
        · exact h.row (b := b0) (o := ruO k) (by simp)⟩⟩
  have HC := Lib.hid hC
  have HV := Lib.hid hV2
  have HL0 := Lib.hid (load_ru b0 k V2 (hs.row (b := b0) (o := ruO k) (by simp)))
  have HB0 := Lib.hid hb0
  have HMB := Lib.hid hmb
  clear hC hV2 hs hz2 hm hb0 hmb
  go_enter Try.func28, Try.ntmps28
  go_upto_region 2 with (refine wpList_alloc_of rfl 59 rfl _ (zero_pl _) ?_)
  try simp only [Act.put, List.setIfInBounds_toArray, List.set_cons_zero, List.set_cons_succ]
  have e1 : (((w.alloc (ruO k)).alloc (pob f)).alloc (pob zn)).alloc (pob zn) = V2 := HV.out.symm
  rw [e1]
  clear e1
  try simp only [World.size_alloc]
  try rw [← HB0.out]
  go_upto_region 3 with (first
    | (refine wpList_load_of rfl 55 _ rfl _ HL0.out ?_)
    | (go_at_call 37; refine HC.out.mono ?_; rintro e w3 ⟨rfl, h3⟩))
  have HL1 := Lib.hid (load_pl (b0 + 1) f w3 (h3.row (b := b0 + 1) (o := pob f) (by simp)))
  have H3 := Lib.hid h3
  clear h3 HC HL0 HV
  go_wp2_with (refine wpList_load_of rfl 59 _ rfl _ HL1.out ?_)
  clear HL1
  go_loopw [12] (fun v wr => ∃ j : Nat, j ≤ 64 ∧ v = .int .i64 j ∧ Hid (St w [(b0 + 1 + 1 + 1, pob (vs k f j)), (m, ruO k), (m + 1, bx (b0 + 1 + 1 + 1)), (m + 1 + 1, atO (m + 1)), (m + 1 + 1 + 1, nbO (m + 1 + 1)), (b0 + 1 + 1, pob zn), (b0 + 1, pob f), (b0, ruO k)] wr)) (fun i _ => 64 - (intOf i).toNat)
  case atStart => exact ⟨0, by omega, rfl, H3.out⟩
  case round =>
    obtain ⟨j, hj, rfl, HT⟩ := hrel
    by_cases hlt : j < 64
    · have hix := index_pv f j hlt
      have hiy := index_pl (b0 + 1 + 1 + 1) j hlt
      have HX : Hid (Calls Try.prog 40 #[.int .i64 j, ptrB m, ptrB (m + 1 + 1 + 1)] wr fun e w' => e = .returned (.int .u8 (gs k (vs k f j) j)) ∧ St w [(b0 + 1 + 1 + 1, pob (vs k f j)), (m, ruO k), (m + 1, bx (b0 + 1 + 1 + 1)), (m + 1 + 1, atO (m + 1)), (m + 1 + 1 + 1, nbO (m + 1 + 1)), (b0 + 1 + 1, pob zn), (b0 + 1, pob f), (b0, ruO k)] w') :=
        St.call HT.out (prd1_any (vs k f j) k j m (b0 + 1 + 1 + 1) wr hlt ⟨HT.out.row (b := m) (o := ruO k) (by simp), HT.out.row (b := m + 1) (o := bx (b0 + 1 + 1 + 1)) (by simp), HT.out.row (b := m + 1 + 1) (o := atO (m + 1)) (by simp), HT.out.row (b := m + 1 + 1 + 1) (o := nbO (m + 1 + 1)) (by simp)⟩ (HT.out.row (b := b0 + 1 + 1 + 1) (o := pob (vs k f j)) (by simp)) (vs_ch k f j))
      go_wp2_with (go_at_call 40; refine HX.out.mono ?_; rintro e w4 ⟨rfl, h4⟩; have hcc := St.pcell h4 (b := b0 + 1 + 1 + 1) (f := (vs k f j)) (by simp) hlt; have hff := h4.frozen (b := b0 + 1 + 1 + 1) (cs := pc (vs k f j)) (t := 59) (by simp) j; have h5 := St.setp (b8 (f j + gs k (vs k f j) j)) h4 hlt (by have := HB0.out; omega) (by have := HMB.out; simp; omega); rw [show ups (vs k f j) j (b8 (f j + gs k (vs k f j) j)) = vs k f (j + 1) from rfl] at h5; have H5 := Lib.hid h5; clear h5 h4)
      go_roundw
      case rel => exact ⟨j + 1, by omega, by go_num, H5.out⟩
      case measure => simp [intOf]; omega
    · obtain rfl : j = 64 := by omega
      have hrow := HT.out.row (b := b0 + 1 + 1 + 1) (o := pob (vs k f 64)) (by simp)
      skip
      have HLA := Lib.hid (load_pl (b0 + 1 + 1 + 1) (vs k f 64) wr hrow)
      have HR := Lib.hid (HT.out.row (b := b0 + 1 + 1) (o := pob zn) (by simp))
      have HSA := Lib.hid (store_pl (b0 + 1 + 1) zn (vs k f 64) wr HR.out)
      have HB := Lib.hid HT.out.below
      clear hrow
      go_wp2_with (first
        | (refine wpList_load_of rfl 59 _ rfl _ HLA.out ?_)
        | (refine wpList_store_of rfl 59 _ _ rfl HSA.out ?_))
      exact bodyPost_ret (v := pv (vs k f 64)) (results_cell_row rfl _ _ (b0 + 1 + 1) _ _ _ _ rfl (setRow_heap _ _ _ _ _ _ HR.out) Try.underlying59 rfl (by rw [info_pl, pc_size])) rfl ⟨rfl, Below.setRow HB.out (by have := HB0.out; omega) _⟩
end Go.Proofs.Ytjaipjgnchpjcaa.P
