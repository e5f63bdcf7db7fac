/-
  The closure that predicts a plane's values (contracts). The residuals of a plane, and the plane of residuals (contracts).
-/
import Derived.Test.YtfncldaodbfakaaGreatPMem
namespace Go.Proofs.YtfncldaodbfakaaGreat.P
open Go.RowKit T
set_option maxRecDepth 100000

/-- a rule as a value and in memory; the closure over the neighbours -/
abbrev ruV (k : Nat) : Value := .agg #[.func (.func (rf k)) #[] #[]]
abbrev ruO (k : Nat) : Obj := .cells #[.func (.func (rf k)) #[] #[]] 228
abbrev nbO (m : Nat) : Obj := vo (.func (.func 237) #[] #[ptrB m]) 276
theorem neiIn_any (b : Nat) (w : World) : Calls Tryz.prog 220 #[ptrB b] w fun e w' =>
    e = .returned (.func (.func 237) #[] #[ptrB (w.heap.size + 1)]) ∧ w' = (w.alloc (bx b)).alloc (atO w.heap.size) := by
  go_enter Tryz.func220, Tryz.ntmps220
  go_wp2
  go_ret
  exact ⟨rfl, rfl⟩
/-- what the closure needs: four blocks from n on -/
structure PrdAt (V : World) (n k b : Nat) : Prop where
  r0 : V.heap[n]? = some (ruO k)
  r1 : V.heap[n + 1]? = some (bx b)
  r2 : V.heap[n + 1 + 1]? = some (atO (n + 1))
  r3 : V.heap[n + 1 + 1 + 1]? = some (nbO (n + 1 + 1))
theorem PrdAt.later {V V' : World} {n k b B : Nat} (h : PrdAt V n k b) (hb : Below B V V') (hB : n + 1 + 1 + 1 < B) : PrdAt V' n k b :=
  ⟨(hb.block _ (by omega)).trans h.r0, (hb.block _ (by omega)).trans h.r1, (hb.block _ (by omega)).trans h.r2, (hb.block _ (by omega)).trans h.r3⟩
theorem PrdAt.lt {V : World} {n k b : Nat} (h : PrdAt V n k b) : n + 1 + 1 + 1 < V.heap.size := (Array.getElem?_eq_some_iff.1 h.r3).1
theorem prdIn_any (k b : Nat) (w : World) : Calls Tryz.prog 209 #[ruV k, ptrB b] w fun e w' =>
    e = .returned (.func (.func 221) #[] #[ptrB w.heap.size, ptrB (w.heap.size + 1 + 1 + 1)]) ∧ PrdAt w' w.heap.size k b ∧ Below w.heap.size w w' := by
  have h0 := (((St.start w).alloc (ruO k)).alloc (bx b)).alloc (atO (w.heap.size + 1))
  simp only [World.size_alloc] at h0
  have hz : ((((w.alloc (ruO k)).alloc (bx b)).alloc (atO (w.heap.size + 1)))).heap.size = w.heap.size + 1 + 1 + 1 := by simp
  have h1 := h0.alloc (nbO (w.heap.size + 1 + 1))
  rw [hz] at h1
  have HP : Hid (PrdAt (((((w.alloc (ruO k)).alloc (bx b)).alloc (atO (w.heap.size + 1)))).alloc (nbO (w.heap.size + 1 + 1))) w.heap.size k b ∧ Below w.heap.size w (((((w.alloc (ruO k)).alloc (bx b)).alloc (atO (w.heap.size + 1)))).alloc (nbO (w.heap.size + 1 + 1)))) :=
    ⟨⟨h1.row (b := w.heap.size) (o := ruO k) (by simp), h1.row (b := w.heap.size + 1) (o := bx b) (by simp), h1.row (b := w.heap.size + 1 + 1) (o := atO (w.heap.size + 1)) (by simp), h1.row (b := w.heap.size + 1 + 1 + 1) (o := nbO (w.heap.size + 1 + 1)) (by simp)⟩, h1.below⟩
  have HC : Hid (Calls Tryz.prog 220 #[ptrB b] (w.alloc (ruO k)) fun e w' =>
    e = .returned (.func (.func 237) #[] #[ptrB (w.heap.size + 1 + 1)]) ∧ w' = ((w.alloc (ruO k)).alloc (bx b)).alloc (atO (w.heap.size + 1))) := by
    have := neiIn_any b (w.alloc (ruO k)); rw [World.size_alloc] at this; exact this
  clear h0 h1 hz
  go_enter Tryz.func209, Tryz.ntmps209
  go_wp2_with (go_at_call 220; refine HC.out.mono ?_; rintro e w4 ⟨rfl, rfl⟩)
  go_ret
  exact ⟨rfl, HP.out⟩
set_option maxHeartbeats 1000000 in
theorem prd1_any (f : Nat → Int) (k i n b : Nat) (w : World) (hi : i < 64) (hP : PrdAt w n k b) (hb : w.heap[b]? = some (pob f)) (hf : ∀ i, i < 64 → Ch (f i)) :
    Calls Tryz.prog 221 #[.int .i64 i, ptrB n, ptrB (n + 1 + 1 + 1)] w fun e w' => e = .returned (.int .u8 (gs k f i)) ∧ Below w.heap.size w w' := by
  have hL : Ch (nL f i) := by unfold nL; (repeat' split) <;> first | exact hf _ (by omega) | exact ⟨by omega, by omega⟩
  have hU : Ch (nU f i) := by unfold nU; (repeat' split) <;> first | exact hf _ (by omega) | exact ⟨by omega, by omega⟩
  have hC : Ch (nC f i) := by unfold nC; (repeat' split) <;> first | exact hf _ (by omega) | exact ⟨by omega, by omega⟩
  have HF : Hid (∀ V, St w [] V → St w [] V ∧ V.cell? ⟨n, 0, none⟩ = some (.func (.func (rf k)) #[] #[]) ∧ V.cell? ⟨n + 1 + 1 + 1, 0, none⟩ = some (.func (.func 237) #[] #[ptrB (n + 1 + 1)])) := fun V hV => by
    have h := hP.later hV.below hP.lt
    exact ⟨hV, cell_of_row _ _ 0 _ _ _ h.r0, cell_of_row _ _ 0 _ _ _ h.r3⟩
  have HN : Hid (∀ V, St w [] V → Calls Tryz.prog 237 #[.int .i64 i, ptrB (n + 1 + 1)] V fun e w' => e = .returned (.tuple #[.int .i64 (nL f i), .int .i64 (nU f i), .int .i64 (nC f i)]) ∧ St w [] w') := fun V hV => by
    have h := hP.later hV.below hP.lt
    exact St.call hV (nei_any f i (n + 1 + 1) (n + 1) b V hi h.r2 h.r1 (old_row hb hV.below) hf)
  have e0 : gs k f i = b8 (prd k (nL f i) (nU f i) (nC f i)) := rfl
  rw [e0]
  clear e0
  generalize nL f i = l at *
  generalize nU f i = u at *
  generalize nC f i = c at *
  have HR : Hid (∀ V, St w [] V → Calls Tryz.prog (rf k) #[.int .i64 l, .int .i64 u, .int .i64 c] V fun e w' => e = .returned (.int .i64 (prd k l u c)) ∧ St w [] w') := fun V hV => St.call hV (rule_any k l u c V hL hU hC)
  have hE := rf_enters k
  have hs := (St.start w)
  clear hP hb hf hL hU hC
  generalize prd k l u c = z at *
  generalize rf k = g at *
  go_enter Tryz.func221, Tryz.ntmps221
  go_upto_region 1 with fail
  have hd := hs.drew
  obtain ⟨_, hc1, hc2⟩ := HF.out _ hd
  go_region_held3 (fun V => St w [] V ∧ V.cell? ⟨n, 0, none⟩ = some (.func (.func g) #[] #[]) ∧ V.cell? ⟨n + 1 + 1 + 1, 0, none⟩ = some (.func (.func 237) #[] #[ptrB (n + 1 + 1)])) ((refine HF.out _ ?_; assumption)) (first
    | (go_at_call 237; (with_reducible refine (HN.out _ ?_).mono ?_); (focus assumption); rintro e w4 ⟨rfl, h4⟩)
    | ((with_reducible refine (HR.out _ ?_).mono ?_); (focus assumption); rintro e w5 ⟨rfl, h5⟩))
  go_wp2
  go_ret
  exact ⟨ret_int (by first | rfl | (simp [b8, IntKind.wrap_u8]; done)), h5.below⟩
end Go.Proofs.YtfncldaodbfakaaGreat.P

namespace Go.Proofs.YtfncldaodbfakaaGreat.P
open Go.RowKit T
set_option maxRecDepth 100000

/-- the residuals of a plane; the first n values of the plane of residuals -/
def res (k : Nat) (f : Nat → Int) : Nat → Int := fun i => b8 (f i - gs k f i)
def vs (k : Nat) (r : Nat → Int) : Nat → Nat → Int
  | 0 => zn
  | j + 1 => ups (vs k r j) j (b8 (r j + gs k (vs k r j) j))
theorem vs_ch (k : Nat) (r : Nat → Int) (j : Nat) : ∀ i, i < 64 → Ch (vs k r j i) := by
  induction j with
  | zero => intro i _; exact ⟨by show (0 : Int) ≤ 0; omega, by show (0 : Int) ≤ 255; omega⟩
  | succ j ih =>
    intro i hi
    unfold vs ups
    split
    · exact b8_ch _
    · exact ih i hi
theorem load_ru (b k : Nat) (w : World) (h : w.heap[b]? = some (ruO k)) : (Instr.loadAt 228 (ptrB b)).run Tryz.prog w = .ok (ruV k) w :=
  run_loadAt_mid w b 0 228 [.func (.func (rf k)) #[] #[]] _ (fun j v hv => by rw [Nat.zero_add, cell_of_row w b j _ _ (0, 0) h, ← hv]; exact List.getElem?_toArray) Tryz.underlying228 rfl (by kernel_rfl)
set_option maxHeartbeats 2000000 in
theorem resid_any (k : Nat) (f : Nat → Int) (w : World) (hf : ∀ i, i < 64 → Ch (f i)) :
    Calls Tryz.prog 183 #[ruV k, pv f] w fun e w' => e = .returned (pv (res k f)) ∧ Below w.heap.size w w' := by
  have hs := ((((St.start w).alloc (ruO k)).alloc (pob f)).alloc (pob zn)).alloc (pob zn)
  simp only [World.size_alloc] at hs
  obtain ⟨V2, hV2⟩ : ∃ V2, V2 = (((w.alloc (ruO k)).alloc (pob f)).alloc (pob zn)).alloc (pob zn) := ⟨_, rfl⟩
  have hz2 : V2.heap.size = w.heap.size + 1 + 1 + 1 + 1 := by rw [hV2]; simp
  rw [← hV2] at hs
  obtain ⟨b0, hb0⟩ : ∃ b0, b0 = w.heap.size := ⟨_, rfl⟩
  obtain ⟨m, hm⟩ : ∃ m, m = V2.heap.size := ⟨_, rfl⟩
  rw [← hb0] at hs hz2
  have hmb : b0 + 1 + 1 + 1 + 1 ≤ m := by omega
  have hC : Calls Tryz.prog 209 #[ruV k, ptrB (b0 + 1)] V2 fun e w' => e = .returned (.func (.func 221) #[] #[ptrB m, ptrB (m + 1 + 1 + 1)]) ∧ St w [(b0 + 1 + 1 + 1, pob zn), (m, ruO k), (m + 1, bx (b0 + 1)), (m + 1 + 1, atO (m + 1)), (m + 1 + 1 + 1, nbO (m + 1 + 1)), (b0 + 1 + 1, pob zn), (b0 + 1, pob f), (b0, ruO k)] w' := by
    rw [hm]
    exact (prdIn_any k (b0 + 1) V2).mono fun e w' ⟨he, hp, hb⟩ => ⟨he, by
      have h := hs.later hb
      exact ⟨h.below, fun x hx => by
        simp only [List.mem_cons, List.not_mem_nil, or_false] at hx
        rcases hx with rfl | rfl | rfl | rfl | rfl | rfl | rfl | rfl
        · exact h.row (b := b0 + 1 + 1 + 1) (o := pob zn) (by simp)
        · exact hp.r0
        · exact hp.r1
        · exact hp.r2
        · exact hp.r3
        · exact h.row (b := b0 + 1 + 1) (o := pob zn) (by simp)
        · exact h.row (b := b0 + 1) (o := pob f) (by simp)
        · exact h.row (b := b0) (o := ruO k) (by simp)⟩⟩
  have HC := Lib.hid hC
  have HV := Lib.hid hV2
  have HL0 := Lib.hid (load_ru b0 k V2 (hs.row (b := b0) (o := ruO k) (by simp)))
  have HB0 := Lib.hid hb0
  have HMB := Lib.hid hmb
  clear hC hV2 hs hz2 hm hb0 hmb
  go_enter Tryz.func183, Tryz.ntmps183
  go_upto_region 2 with (refine wpList_alloc_of rfl 231 rfl _ (zero_pl _) ?_)
  try simp only [Act.put, List.setIfInBounds_toArray, List.set_cons_zero, List.set_cons_succ]
  have e1 : (((w.alloc (ruO k)).alloc (pob f)).alloc (pob zn)).alloc (pob zn) = V2 := HV.out.symm
  rw [e1]
  clear e1
  try simp only [World.size_alloc]
  try rw [← HB0.out]
  go_upto_region 3 with (first
    | (refine wpList_load_of rfl 228 _ rfl _ HL0.out ?_)
    | (go_at_call 209; refine HC.out.mono ?_; rintro e w3 ⟨rfl, h3⟩))
  have HL1 := Lib.hid (load_pl (b0 + 1) f w3 (h3.row (b := b0 + 1) (o := pob f) (by simp)))
  have H3 := Lib.hid h3
  clear h3 HC HL0 HV
  go_wp2_with (refine wpList_load_of rfl 231 _ rfl _ HL1.out ?_)
  clear HL1
  go_loopw [12] (fun v wr => ∃ j : Nat, j ≤ 64 ∧ v = .int .i64 j ∧ Hid (St w [(b0 + 1 + 1 + 1, pob (ct zn (res k f) j)), (m, ruO k), (m + 1, bx (b0 + 1)), (m + 1 + 1, atO (m + 1)), (m + 1 + 1 + 1, nbO (m + 1 + 1)), (b0 + 1 + 1, pob zn), (b0 + 1, pob f), (b0, ruO k)] wr)) (fun i _ => 64 - (intOf i).toNat)
  case atStart => exact ⟨0, by omega, rfl, by rw [ct_zero]; exact H3.out⟩
  case round =>
    obtain ⟨j, hj, rfl, HT⟩ := hrel
    by_cases hlt : j < 64
    · have hix := index_pv f j hlt
      have hiy := index_pl (b0 + 1 + 1 + 1) j hlt
      have HX : Hid (Calls Tryz.prog 221 #[.int .i64 j, ptrB m, ptrB (m + 1 + 1 + 1)] wr fun e w' => e = .returned (.int .u8 (gs k f j)) ∧ St w [(b0 + 1 + 1 + 1, pob (ct zn (res k f) j)), (m, ruO k), (m + 1, bx (b0 + 1)), (m + 1 + 1, atO (m + 1)), (m + 1 + 1 + 1, nbO (m + 1 + 1)), (b0 + 1 + 1, pob zn), (b0 + 1, pob f), (b0, ruO k)] w') :=
        St.call HT.out (prd1_any f k j m (b0 + 1) wr hlt ⟨HT.out.row (b := m) (o := ruO k) (by simp), HT.out.row (b := m + 1) (o := bx (b0 + 1)) (by simp), HT.out.row (b := m + 1 + 1) (o := atO (m + 1)) (by simp), HT.out.row (b := m + 1 + 1 + 1) (o := nbO (m + 1 + 1)) (by simp)⟩ (HT.out.row (b := b0 + 1) (o := pob f) (by simp)) hf)
      go_wp2_with (go_at_call 221; refine HX.out.mono ?_; rintro e w4 ⟨rfl, h4⟩; have hcc := St.pcell h4 (b := b0 + 1 + 1 + 1) (f := (ct zn (res k f) j)) (by simp) hlt; have hff := h4.frozen (b := b0 + 1 + 1 + 1) (cs := pc (ct zn (res k f) j)) (t := 231) (by simp) j; have h5 := St.setp (b8 (f j - gs k f j)) h4 hlt (by have := HB0.out; omega) (by have := HMB.out; simp; omega); rw [show b8 (f j - gs k f j) = res k f j from rfl, ct_succ] at h5; have H5 := Lib.hid h5; clear h5 h4)
      go_roundw
      case rel => exact ⟨j + 1, by omega, by go_num, H5.out⟩
      case measure => simp [intOf]; omega
    · obtain rfl : j = 64 := by omega
      have hrow := HT.out.row (b := b0 + 1 + 1 + 1) (o := pob (ct zn (res k f) 64)) (by simp)
      rw [show pob (ct zn (res k f) 64) = pob (res k f) from congrArg (fun c => Obj.cells c 231) (ct_all zn (res k f))] at hrow
      have HLA := Lib.hid (load_pl (b0 + 1 + 1 + 1) (res k f) wr hrow)
      have HR := Lib.hid (HT.out.row (b := b0 + 1 + 1) (o := pob zn) (by simp))
      have HSA := Lib.hid (store_pl (b0 + 1 + 1) zn (res k f) wr HR.out)
      have HB := Lib.hid HT.out.below
      clear hrow
      go_wp2_with (first
        | (refine wpList_load_of rfl 231 _ rfl _ HLA.out ?_)
        | (refine wpList_store_of rfl 231 _ _ rfl HSA.out ?_))
      exact bodyPost_ret (v := pv (res k f)) (results_cell_row rfl _ _ (b0 + 1 + 1) _ _ _ _ rfl (setRow_heap _ _ _ _ _ _ HR.out) Tryz.underlying231 rfl (by rw [info_pl, pc_size])) rfl ⟨rfl, Below.setRow HB.out (by have := HB0.out; omega) _⟩
set_option maxHeartbeats 2000000 in
theorem vals_any (k : Nat) (f : Nat → Int) (w : World) :
    Calls Tryz.prog 232 #[ruV k, pv f] w fun e w' => e = .returned (pv (vs k f 64)) ∧ Below w.heap.size w w' := by
  have hs := ((((St.start w).alloc (ruO k)).alloc (pob f)).alloc (pob zn)).alloc (pob zn)
  simp only [World.size_alloc] at hs
  obtain ⟨V2, hV2⟩ : ∃ V2, V2 = (((w.alloc (ruO k)).alloc (pob f)).alloc (pob zn)).alloc (pob zn) := ⟨_, rfl⟩
  have hz2 : V2.heap.size = w.heap.size + 1 + 1 + 1 + 1 := by rw [hV2]; simp
  rw [← hV2] at hs
  obtain ⟨b0, hb0⟩ : ∃ b0, b0 = w.heap.size := ⟨_, rfl⟩
  obtain ⟨m, hm⟩ : ∃ m, m = V2.heap.size := ⟨_, rfl⟩
  rw [← hb0] at hs hz2
  have hmb : b0 + 1 + 1 + 1 + 1 ≤ m := by omega
  have hC : Calls Tryz.prog 209 #[ruV k, ptrB (b0 + 1 + 1 + 1)] V2 fun e w' => e = .returned (.func (.func 221) #[] #[ptrB m, ptrB (m + 1 + 1 + 1)]) ∧ St w [(b0 + 1 + 1 + 1, pob (vs k f 0)), (m, ruO k), (m + 1, bx (b0 + 1 + 1 + 1)), (m + 1 + 1, atO (m + 1)), (m + 1 + 1 + 1, nbO (m + 1 + 1)), (b0 + 1 + 1, pob zn), (b0 + 1, pob f), (b0, ruO k)] w' := by
    rw [hm]
    exact (prdIn_any k (b0 + 1 + 1 + 1) V2).mono fun e w' ⟨he, hp, hb⟩ => ⟨he, by
      have h := hs.later hb
      exact ⟨h.below, fun x hx => by
        simp only [List.mem_cons, List.not_mem_nil, or_false] at hx
        rcases hx with rfl | rfl | rfl | rfl | rfl | rfl | rfl | rfl
        · exact h.row (b := b0 + 1 + 1 + 1) (o := pob zn) (by simp)
        · exact hp.r0
        · exact hp.r1
        · exact hp.r2
        · exact hp.r3
        · exact h.row (b := b0 + 1 + 1) (o := pob zn) (by simp)
        · exact h.row (b := b0 + 1) (o := pob f) (by simp)
        · exact h.row (b := b0) (o := ruO k) (by simp)⟩⟩
  have HC := Lib.hid hC
  have HV := Lib.hid hV2
  have HL0 := Lib.hid (load_ru b0 k V2 (hs.row (b := b0) (o := ruO k) (by simp)))
  have HB0 := Lib.hid hb0
  have HMB := Lib.hid hmb
  clear hC hV2 hs hz2 hm hb0 hmb
  go_enter Tryz.func232, Tryz.ntmps232
  go_upto_region 2 with (refine wpList_alloc_of rfl 231 rfl _ (zero_pl _) ?_)
  try simp only [Act.put, List.setIfInBounds_toArray, List.set_cons_zero, List.set_cons_succ]
  have e1 : (((w.alloc (ruO k)).alloc (pob f)).alloc (pob zn)).alloc (pob zn) = V2 := HV.out.symm
  rw [e1]
  clear e1
  try simp only [World.size_alloc]
  try rw [← HB0.out]
  go_upto_region 3 with (first
    | (refine wpList_load_of rfl 228 _ rfl _ HL0.out ?_)
    | (go_at_call 209; refine HC.out.mono ?_; rintro e w3 ⟨rfl, h3⟩))
  have HL1 := Lib.hid (load_pl (b0 + 1) f w3 (h3.row (b := b0 + 1) (o := pob f) (by simp)))
  have H3 := Lib.hid h3
  clear h3 HC HL0 HV
  go_wp2_with (refine wpList_load_of rfl 231 _ rfl _ HL1.out ?_)
  clear HL1
  go_loopw [12] (fun v wr => ∃ j : Nat, j ≤ 64 ∧ v = .int .i64 j ∧ Hid (St w [(b0 + 1 + 1 + 1, pob (vs k f j)), (m, ruO k), (m + 1, bx (b0 + 1 + 1 + 1)), (m + 1 + 1, atO (m + 1)), (m + 1 + 1 + 1, nbO (m + 1 + 1)), (b0 + 1 + 1, pob zn), (b0 + 1, pob f), (b0, ruO k)] wr)) (fun i _ => 64 - (intOf i).toNat)
  case atStart => exact ⟨0, by omega, rfl, H3.out⟩
  case round =>
    obtain ⟨j, hj, rfl, HT⟩ := hrel
    by_cases hlt : j < 64
    · have hix := index_pv f j hlt
      have hiy := index_pl (b0 + 1 + 1 + 1) j hlt
      have HX : Hid (Calls Tryz.prog 221 #[.int .i64 j, ptrB m, ptrB (m + 1 + 1 + 1)] wr fun e w' => e = .returned (.int .u8 (gs k (vs k f j) j)) ∧ St w [(b0 + 1 + 1 + 1, pob (vs k f j)), (m, ruO k), (m + 1, bx (b0 + 1 + 1 + 1)), (m + 1 + 1, atO (m + 1)), (m + 1 + 1 + 1, nbO (m + 1 + 1)), (b0 + 1 + 1, pob zn), (b0 + 1, pob f), (b0, ruO k)] w') :=
        St.call HT.out (prd1_any (vs k f j) k j m (b0 + 1 + 1 + 1) wr hlt ⟨HT.out.row (b := m) (o := ruO k) (by simp), HT.out.row (b := m + 1) (o := bx (b0 + 1 + 1 + 1)) (by simp), HT.out.row (b := m + 1 + 1) (o := atO (m + 1)) (by simp), HT.out.row (b := m + 1 + 1 + 1) (o := nbO (m + 1 + 1)) (by simp)⟩ (HT.out.row (b := b0 + 1 + 1 + 1) (o := pob (vs k f j)) (by simp)) (vs_ch k f j))
      go_wp2_with (go_at_call 221; refine HX.out.mono ?_; rintro e w4 ⟨rfl, h4⟩; have hcc := St.pcell h4 (b := b0 + 1 + 1 + 1) (f := (vs k f j)) (by simp) hlt; have hff := h4.frozen (b := b0 + 1 + 1 + 1) (cs := pc (vs k f j)) (t := 231) (by simp) j; have h5 := St.setp (b8 (f j + gs k (vs k f j) j)) h4 hlt (by have := HB0.out; omega) (by have := HMB.out; simp; omega); rw [show ups (vs k f j) j (b8 (f j + gs k (vs k f j) j)) = vs k f (j + 1) from rfl] at h5; have H5 := Lib.hid h5; clear h5 h4)
      go_roundw
      case rel => exact ⟨j + 1, by omega, by go_num, H5.out⟩
      case measure => simp [intOf]; omega
    · obtain rfl : j = 64 := by omega
      have hrow := HT.out.row (b := b0 + 1 + 1 + 1) (o := pob (vs k f 64)) (by simp)
      skip
      have HLA := Lib.hid (load_pl (b0 + 1 + 1 + 1) (vs k f 64) wr hrow)
      have HR := Lib.hid (HT.out.row (b := b0 + 1 + 1) (o := pob zn) (by simp))
      have HSA := Lib.hid (store_pl (b0 + 1 + 1) zn (vs k f 64) wr HR.out)
      have HB := Lib.hid HT.out.below
      clear hrow
      go_wp2_with (first
        | (refine wpList_load_of rfl 231 _ rfl _ HLA.out ?_)
        | (refine wpList_store_of rfl 231 _ _ rfl HSA.out ?_))
      exact bodyPost_ret (v := pv (vs k f 64)) (results_cell_row rfl _ _ (b0 + 1 + 1) _ _ _ _ rfl (setRow_heap _ _ _ _ _ _ HR.out) Tryz.underlying231 rfl (by rw [info_pl, pc_size])) rfl ⟨rfl, Below.setRow HB.out (by have := HB0.out; omega) _⟩
end Go.Proofs.YtfncldaodbfakaaGreat.P
