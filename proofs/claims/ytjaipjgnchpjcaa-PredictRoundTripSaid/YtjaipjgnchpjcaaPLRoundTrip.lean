/-
  PredictRoundTrip: Inverse undoes Forward, and Forward undoes Inverse, for every tile, every 256 bytes and each predictor.
-/
import Derived.Test.YtjaipjgnchpjcaaPLaw
import Derived.Test.YtjaipjgnchpjcaaPInv2
namespace Go.Proofs.Ytjaipjgnchpjcaa.P.PLRoundTrip
open Go.ChangeShapes Go.WideShapes Go.ChangeAt Go.RowKit Go.Shelf T
open Go.ChangeMaps (open_string)
set_option maxRecDepth 100000

/-- 'append(v, x)': a byte behind what the call owns -/
theorem wpList_appx {ops : Array Oper} {rest : List Oper} {o : Oper} {a : Act} {w : World} {Q : Exit → Act → World → Prop} (hg : o.guard = none) (s x : Operand)
    (ho : o.op = .call { callee := .builtin .append, args := #[s, x], argTypes := #[28, 28] }) (B : Nat) (v : Value) (l : List UInt8) (q : Nat) (y : Int) (hy : Ch y)
    (hs : a.eval s = v) (hown : OwnsB B w v l) (hx : a.eval x = .slice (some ⟨q, 0, none⟩) 1 1) (hq : w.heap[q]? = some (.cells #[.int .u8 y] 5)) (hl : l.length < 140737488355328) (hB : B ≤ w.heap.size)
    (h : ∀ v' w', OwnsB B w' v' (l ++ [u8 y]) → Below B w w' → wpList Try.prog ops Q rest (a.put o.dst v') w') : wpList Try.prog ops Q (o :: rest) a w := by
  obtain ⟨i0, hi, hz0, hz1, hz2⟩ := info_parts infoB
  refine wpList_plain hg fun K hK => ?_
  refine wp_append_own _ s x 28 ho B 5 i0 (.int .u8 0) 1 1 Try.underlying28 hi hz0 hz1 hz2 rfl (by decide) v _ _ hs hown ⟨q, 0, none⟩ 1 1 ([u8 y].map bcell) hx rfl ?_
    (by intro u hu; simp at hu; subst hu; rfl) (by unfold maxLen; omega) (by omega) hB ?_
  · intro j u hj
    have hadd : (⟨q, 0, none⟩ : Addr).add j = ⟨q, j, none⟩ := by unfold Addr.add; split <;> simp_all
    rw [hadd, cell_of_row _ _ j _ _ (0, 0) hq]
    have e : [u8 y].map bcell = [.int .u8 y] := congrArg (fun z => [Value.int .u8 z]) (i8_u8 hy)
    rw [e] at hj
    rw [← hj]; exact List.getElem?_toArray
  intro v' w' h1 h2 _
  refine hK _ _ (h v' w' (by simpa [OwnsB] using h1) ((Below.refl B w).grown h2 hB ?_))
  intro k hk
  obtain ⟨_, ⟨rfl, _⟩ | ⟨g, cap, cur, rfl, hg, _⟩⟩ := hown
  · simp [Value.ownBlock] at hk
  · simp [Value.ownBlock] at hk; omega
theorem keep {W w w' : World} {L : List (Nat × Obj)} {B : Nat} (h : St W L w) (hb : Below B w w') (hL : ∀ x ∈ L, x.1 < B) (hB : W.heap.size ≤ B) : St W L w' :=
  ⟨h.below.trans (hb.mono hB), fun x hx => (hb.block x.1 (hL x hx)).trans (h.rows x hx)⟩
theorem index_b256 (b i : Nat) (hi : i < 256) (w : World) : (Instr.indexAt 26 (.pointer (some ⟨b, 0, none⟩)) (.int .i64 i)).run Try.prog w = .ok (.pointer (some ⟨b, i, none⟩)) w := by
  have hs : (sizeOf 5).run Try.prog w = .ok 1 w := by kernel_rfl
  have h2 : 0 ≤ (i : Int) ∧ (i : Int) < (256 : Nat) := ⟨by omega, by omega⟩
  have ha : (⟨b, 0, none⟩ : Addr).add (i * 1) = ⟨b, i, none⟩ := by rw [Addr.add_mid, Nat.zero_add, Nat.mul_one]
  simp only [Instr.indexAt, asIntOf, Instr.sureAddr, Sem.run_bind, Sem.run_pure, Result.andThen_ok, run_underlying Try.underlying26, hs, if_pos h2, Int.toNat_natCast, ha]
theorem bl_snoc (g : Nat → Int) (k : Nat) : bl g k ++ [u8 (g k)] = bl g (k + 1) := by unfold bl; rw [List.range_succ, List.map_append]; rfl

set_option maxHeartbeats 8000000 in
set_option maxRecDepth 100000 in
theorem walk (t : Nat → Px) (g : Nat → Int) (w : World) (ht : ∀ i, i < 64 → Pc (t i)) (hg : ∀ i, i < 256 → Ch (g i)) : Calls Try.prog 3 #[tv t, .agg (qc g)] w fun e w' => e = .returned (.bool true) ∧ Below w.heap.size w w' := by
  have h0 := ((St.start w).alloc (tob t)).alloc (.cells (qc g) 26)
  simp only [World.size_alloc] at h0
  obtain ⟨b0, hb0⟩ : ∃ b0, b0 = w.heap.size := ⟨_, rfl⟩
  obtain ⟨w0, hw0⟩ : ∃ w0, w0 = (w.alloc (tob t)).alloc (.cells (qc g) 26) := ⟨_, rfl⟩
  rw [← hb0, ← hw0] at h0
  have HW0 := Lib.hid hw0
  have HB0 := Lib.hid hb0
  have HT := Lib.hid ht
  have HG := Lib.hid hg
  clear hw0 hb0 ht hg
  go_enter Try.func3, Try.ntmps3
  go_upto_region 1 with fail
  have e1 : (w.alloc (tob t)).alloc (.cells (qc g) 26) = w0 := HW0.out.symm
  rw [e1, ← HB0.out]
  clear e1
  go_upto_region 2 with (first | (go_at_call 10; (with_reducible refine (St.call h0 (sanity_any _)).mono ?_); rintro e w1 ⟨rfl, h1⟩))
  go_upto_region 3 with fail
  have hO := World.ownsRow_made (base := w1.heap.size) (size := 1) (e := 5) w1 #[] 0 (Nat.le_refl _) (by unfold maxLen; omega) rfl
  have HO : Hid (OwnsB w1.heap.size (w1.alloc (.cells #[] 5)) (.slice (some ⟨w1.heap.size, 0, none⟩) 0 0) []) := Lib.hid hO
  have h2 := (h1.alloc (.cells #[] 5)).tl
  have hlt : b0 + 1 < w1.heap.size := h1.lt (b := b0 + 1) (o := .cells (qc g) 26) (by simp)
  have hsz : w1.heap.size ≤ (w1.alloc (.cells #[] 5)).heap.size := by simp
  have HS := Lib.hid h2
  have HSZ := Lib.hid hsz
  clear hO h2 h1 h0 HW0 hsz
  generalize w1.alloc (.cells #[] 5) = w2 at HO HS HSZ ⊢
  generalize w1.heap.size = B at *
  go_wp2
  go_loopw [6, 7] (fun v i wr => ∃ k : Nat, k ≤ 256 ∧ i = .int .i64 k ∧ Hid (OwnsB B wr v (bl g k)) ∧ Hid (St w [(b0 + 1, .cells (qc g) 26), (b0, tob t)] wr) ∧ Hid (B ≤ wr.heap.size)) (fun _ i _ => 256 - (intOf i).toNat)
  case atStart => exact ⟨0, by omega, rfl, HO.out, HS.out, HSZ.out⟩
  case round =>
    clear HO HS HSZ
    obtain ⟨k, hk, rfl, HO, HS, HSZ⟩ := hrel
    by_cases hk2 : k < 256
    · have hix := index_b256 (b0 + 1) k hk2
      have hc := (HS.out.cell (b := b0 + 1) (cs := qc g) (t := 26) (by simp) k).trans (qc_get g k hk2)
      have hq := World.alloc_heap_new wr (.cells #[.int .u8 (g k)] 5)
      have HQ := Lib.hid hq
      have HO1 := Lib.hid (HO.out.later (below1 (o := .cells #[.int .u8 (g k)] 5)))
      have HS1 := Lib.hid (HS.out.alloc (.cells #[.int .u8 (g k)] 5)).tl
      have hsz : B ≤ (wr.alloc (.cells #[.int .u8 (g k)] 5)).heap.size := by have := HSZ.out; simp; omega
      have HSZ1 := Lib.hid hsz
      have HGK := Lib.hid (HG.out k hk2)
      clear hq hsz
      go_wp2_with (first | (refine wpList_appx rfl (.tmp 23) (.tmp 27) rfl B _ (bl g k) wr.heap.size (g k) HGK.out rfl HO1.out rfl HQ.out (by rw [bl_len]; omega) HSZ1.out ?_; intro v3 w3 ho3 hb3; rw [bl_snoc] at ho3; have HO3 := Lib.hid ho3; have hs3 := keep HS1.out hb3 (by simp; omega) (by have := HB0.out; omega); have HS3 := Lib.hid hs3; have hz3 := Nat.le_trans HSZ1.out hb3.size; have HSZ3 := Lib.hid hz3; clear ho3 hb3 hs3 hz3))
      go_roundw
      case rel => exact ⟨k + 1, by omega, by go_num, HO3.out, HS3.out, HSZ3.out⟩
      case measure => simp [intOf] <;> omega
    · obtain rfl : k = 256 := by omega
      rw [show ((256 : Nat) : Int) = 256 from rfl]
      obtain ⟨gq, cur, hgB, hgr, hcv⟩ : ∃ gq cur, B ≤ gq ∧ wr.heap[gq]? = some (.cells cur 5) ∧ ∀ V : World, V.heap[gq]? = some (.cells cur 5) → (convert 28 9 u6).run Try.prog V = .ok (.string (str (bl g 256))) V := by
        obtain ⟨hl, ⟨_, h⟩ | ⟨gq, cap, cur, hv, hg, hh, hn, hc, hs, ht⟩⟩ := HO.out
        · rw [bl_len] at h; cases h
        · exact ⟨gq, cur, hg, hh, fun V hV => owns_conv (B := B) (p := bl g 256) ⟨hl, .inr ⟨gq, cap, cur, hv, hg, hV, hn, hc, hs, ht⟩⟩⟩
      have h5 : St w [(gq, .cells cur 5), (b0, tob t)] wr := ⟨HS.out.below, fun x hx => by
        simp only [List.mem_cons, List.not_mem_nil, or_false] at hx
        rcases hx with rfl | rfl
        · exact hgr
        · exact HS.out.row (b := b0) (o := tob t) (by simp)⟩
      have hl : (bl g 256).length = 256 := bl_len g 256
      obtain ⟨Lb, hLb⟩ : ∃ Lb, Lb = bl g 256 := ⟨_, rfl⟩
      obtain ⟨SB, hSB⟩ : ∃ SB, SB = str Lb := ⟨_, rfl⟩
      rw [← hLb] at hl hcv
      rw [← hSB] at hcv
      have HCV := Lib.hid hcv
      have HLB := Lib.hid hl
      have HSB := Lib.hid hSB
      have H5 := Lib.hid h5
      clear hcv hl hSB h5 hgr HO HS HSZ HG hLb hgB hk hk2 hlt
      go_upto_region 7 with fail
      go_wp2
      go_loopw [8] (fun i wq => ∃ m : Nat, m ≤ 6 ∧ i = .int .i64 m ∧ Hid (St w [(gq, .cells cur 5), (b0, tob t)] wq)) (fun i _ => 6 - (intOf i).toNat)
      case atStart => exact ⟨0, by omega, rfl, H5.out⟩
      case round =>
        clear H5
        obtain ⟨m, hm, rfl, H5⟩ := hrel
        by_cases hm6 : m < 6
        · obtain ⟨S, hS⟩ : ∃ S, S = str (fwd m t) := ⟨_, rfl⟩
          obtain ⟨f2, hf2⟩ : ∃ f2, f2 = ivt m Lb := ⟨_, rfl⟩
          have dS : S.data.toList = fwd m t := by rw [hS]; simp [str]
          have dB : SB.data.toList = Lb := by rw [HSB.out]; simp [str]
          have HF : Hid (∀ V, Calls Try.prog 12 #[tv t, .int .i64 m] V fun e w' => e = .returned (.tuple #[.string S, .int .i64 0]) ∧ Below V.heap.size V w') := fun V => hS ▸ fwd_any m t V hm6 HT.out
          have HI : Hid (∀ V, Calls Try.prog 13 #[.string S, .int .i64 m] V fun e w' => e = .returned (.tuple #[tv t, .int .i64 0]) ∧ Below V.heap.size V w') := fun V => by
            have h := inv_any m S V hm6 (by rw [hS, str_size]; unfold fwd; rw [bl_len])
            rw [dS] at h
            rwa [show tv (ivt m (fwd m t)) = tv t from congrArg Value.agg (ivt_fwd m t HT.out)] at h
          have HI2 : Hid (∀ V, Calls Try.prog 13 #[.string SB, .int .i64 m] V fun e w' => e = .returned (.tuple #[tv f2, .int .i64 0]) ∧ Below V.heap.size V w') := fun V => by
            have h := inv_any m SB V hm6 (by rw [HSB.out, str_size]; exact HLB.out)
            rwa [dB, ← hf2] at h
          have HF2 : Hid (∀ V, Calls Try.prog 12 #[tv f2, .int .i64 m] V fun e w' => e = .returned (.tuple #[.string SB, .int .i64 0]) ∧ Below V.heap.size V w') := fun V => by
            have h := fwd_any m f2 V hm6 (by rw [hf2]; exact ivt_pc m Lb)
            rwa [hf2, fwd_ivt m Lb HLB.out, ← hf2, ← HSB.out] at h
          have HE : Hid (∀ V, (Go.binOp .neq 25 (tv t) (tv t)).run Try.prog V = .ok (.bool false) V) := fun V => neqTT (fun _ _ => rfl) V
          clear hS hf2 dS dB
          have h5 := H5.out
          have HL := Lib.hid (load_tile b0 t _ (h5.row (b := b0) (o := tob t) (by simp)))
          go_upto_region 11 with (first
            | (go_at_call 11; refine (count_any _).mono ?_; rintro e wx ⟨rfl, rfl⟩)
            | (refine wpList_load_of rfl 25 (.tmp 2) rfl _ HL.out ?_)
            | (go_at_call 12; (with_reducible refine (St.call h5 (HF.out _)).mono ?_); rintro e w6 ⟨rfl, h6⟩))
          clear HL
          go_upto_region 12 with (first
            | (go_at_call 13; (with_reducible refine (St.call h6 (HI.out _)).mono ?_); rintro e w7 ⟨rfl, h7⟩; have hq := World.alloc_heap_new w7 (tob z0); have hst := store_tile w7.heap.size z0 t _ hq; have h8 := St.rowset (ds := tc t) (h7.alloc (tob z0)) h7.below.size h7.ne; have HST := Lib.hid hst; have H8 := Lib.hid h8; clear hq hst h8)
            | (refine wpList_alloc_of rfl 25 rfl _ (zero_tile _) ?_)
            | (refine wpList_store_of rfl 25 (.tmp 11) (.tmp 44) rfl HST.out ?_))
          clear HST
          generalize (w7.alloc (tob z0)).setRow w7.heap.size (tc t) = w8 at H8 ⊢
          generalize w7.heap.size = c1 at H8 ⊢
          have hcv8 := HCV.out w8 (H8.out.row (b := gq) (o := .cells cur 5) (by simp))
          go_upto_region 13 with (first
            | (go_at_call 13; (with_reducible refine (St.call H8.out (HI2.out _)).mono ?_); rintro e w9 ⟨rfl, h9⟩; have hq := World.alloc_heap_new w9 (tob z0); have hst := store_tile w9.heap.size z0 f2 _ hq; have h10 := St.rowset (ds := tc f2) (h9.alloc (tob z0)) h9.below.size h9.ne; have HST := Lib.hid hst; have H10 := Lib.hid h10; clear hq hst h10)
            | (refine wpList_alloc_of rfl 25 rfl _ (zero_tile _) ?_)
            | (refine wpList_store_of rfl 25 (.tmp 13) (.tmp 51) rfl HST.out ?_))
          clear HST hcv8
          generalize (w9.alloc (tob z0)).setRow w9.heap.size (tc f2) = w10 at H10 ⊢
          generalize w9.heap.size = c2 at H10 ⊢
          have HL2 := Lib.hid (load_tile c2 f2 w10 (H10.out.row (b := c2) (o := tob f2) (by simp)))
          go_upto_region 14 with (first
            | (refine wpList_load_of rfl 25 (.tmp 13) rfl _ HL2.out ?_)
            | (go_at_call 12; (with_reducible refine (St.call H10.out (HF2.out _)).mono ?_); rintro e w11 ⟨rfl, h11⟩))
          have HL3 := Lib.hid (load_tile c1 t w11 (h11.row (b := c1) (o := tob t) (by simp)))
          have HL4 := Lib.hid (load_tile b0 t w11 (h11.row (b := b0) (o := tob t) (by simp)))
          have hcv11 := HCV.out w11 (h11.row (b := gq) (o := .cells cur 5) (by simp))
          have H11 := Lib.hid (h11.sub (L' := [(gq, .cells cur 5), (b0, tob t)]) (by simp))
          clear h11 h5 h6 h7 h9 H8 H10 HL2 HF HF2 HI HI2 H5
          go_wp2_with (first
            | (refine wpList_on (by kernel_rfl) (wp_load_of 25 (.tmp 11) rfl _ HL3.out ?_))
            | (refine wpList_on (by kernel_rfl) (wp_load_of 25 (.tmp 2) rfl _ HL4.out ?_))
            | (refine wpList_on (by kernel_rfl) (wp_bin_of .neq 25 (.tmp 74) (.tmp 75) _ rfl _ _ rfl rfl guard_tile _ (HE.out _) ?_)))
          go_roundw
          case rel => exact ⟨m + 1, by omega, by go_num, H11.out⟩
          case measure => simp [intOf] <;> omega
        · obtain rfl : m = 6 := by omega
          have HB := Lib.hid H5.out.below
          go_wp2_with (go_at_call 11; refine (count_any _).mono ?_; rintro e wx ⟨rfl, rfl⟩)
          go_ret
          exact ⟨rfl, HB.out⟩

theorem okin (W : World) (base : Nat) : Input.okWide Try.checked.prog W .any base 3 ⟨#[], #[tv z0, .agg (qc zn)], []⟩ := by
  refine ⟨by simp, by simp, by kernel_rfl, Try.f3, Try.func3, by kernel_rfl, by kernel_rfl, by kernel_rfl, by rw [Try.params3]; rfl, ?_⟩
  intro j t v ht hv
  rw [Try.params3] at ht
  match j with
  | 0 => cases (Option.some.inj ht); cases (Option.some.inj hv); exact ok_tile W base
  | 1 => cases (Option.some.inj ht); cases (Option.some.inj hv); exact ok_b256 W base
  | j + 2 => simp at ht
theorem lifted (os : Os) (started : os.Started) (H : Type) (enc : TypeId × Value → H) :
    ReturnsInHanded {} Try.checked os 3 .any (Rows.predictRoundTripSpec.pre6 enc Try.prog Try.f3 Rows.predictRoundTripRow.domain false) (Rows.predictRoundTripSpec.post enc Try.prog Try.f3 false true false false) := by
  refine returnsInHanded_of_change_sized (C := Try.checked) own started (by kernel_rfl) Try.func3
    (witness7 (enc := enc) (C := Try.checked) false ⟨#[], #[tv z0, .agg (qc zn)], []⟩ 8 (by kernel_rfl) (by kernel_rfl) (fun W base => okin W base) (by kernel_rfl) (by kernel_rfl)) ?_
  intro W base args ds gs before hval0 hW _ _ _
  have hval : ∀ (j : Nat) t v, Try.f3.params[j]? = some t → args[j]? = some v → Value.okWide Try.prog W .any base t v := hval0
  have hW' := hW
  obtain ⟨p, q, hA0, hV, rfl, hfz, hnd⟩ := hW
  have hA : DataW.TrodAll enc Try.prog W 0 (fun _ => true) true Try.f3.params.toList args.toList ds p := hA0
  rw [Try.params3] at hA hval
  obtain ⟨v0, v1, d0, d1, p0, p1, rfl, rfl, rfl, h0, h1⟩ := trodAll_two hA
  obtain ⟨rfl, rfl⟩ := trodVars_none hV
  obtain ⟨t, rfl, ht⟩ := open_tile (hval 0 25 v0 rfl rfl)
  obtain ⟨g, rfl, hg⟩ := open_b256 (hval 1 26 v1 rfl rfl)
  refine (walk t g W ht hg).mono fun e W' ⟨he, hb⟩ => ?_
  subst he
  exact ⟨_, rfl, law_post hW' rfl (by kernel_rfl) rfl (by intro t ht; rw [Try.params3] at ht; simp at ht; rcases ht with rfl | rfl <;> exact ⟨by kernel_rfl, of_decide_eq_true (by kernel_rfl)⟩) hb⟩

theorem holds : Rows.PredictRoundTripSaid :=
  OpenClaim.holds_of_wide 3 Try.f3 rfl rfl rfl rfl rfl rfl rfl ⟨rfl, rfl, rfl, rfl, rfl⟩ rfl rfl rfl rfl rfl (by kernel_rfl) Try.func3 (by kernel_rfl)
    (of_decide_eq_true (by kernel_rfl)) (by unfold Func.isWrapper; first | (rw [if_pos (by decide +kernel)]; kernel_rfl) | (rw [if_neg (by decide +kernel)]; exact ⟨rfl, rfl⟩))
    (fun os started H enc _ => lifted os started H enc)
end Go.Proofs.Ytjaipjgnchpjcaa.P.PLRoundTrip
