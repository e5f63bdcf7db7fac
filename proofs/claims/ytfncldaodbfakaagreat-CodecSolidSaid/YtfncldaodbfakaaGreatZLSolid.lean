/-
  CodecSolid: a raster of one solid tile takes five bytes for the tile, and every tile takes at most 257 bytes.
-/
import Derived.Test.YtfncldaodbfakaaGreatZLaw
import Derived.Test.YtfncldaodbfakaaGreatZLen
namespace Go.Proofs.YtfncldaodbfakaaGreat.Z.ZLSolid
open Go.ChangeShapes Go.WideShapes Go.ChangeAt Go.RowKit Go.Shelf
open Go.ChangeMaps (open_string)
open T Q
set_option maxRecDepth 100000


set_option maxHeartbeats 8000000 in
set_option maxRecDepth 100000 in
theorem walk (p : Px) (so : Option Addr) (n c : Nat) (z : Nat → Int) (w : World) (hp : Pc p) (hI : IS w so n c z) : Calls Tryz.prog 9 #[p.v, .slice so n c] w fun e w' => e = .returned (.bool true) ∧ Below w.heap.size w w' := by
  have h0 := (St.start w).alloc (po p.r p.g p.b p.a)
  have HI := Lib.hid hI
  have HMD := Lib.hid (fun (V : World) (hV : Below w.heap.size w V) => made_any so n c z V (hI.later hV))
  have hml := mdl_len n z (min n 6)
  have HMV := Lib.hid (mdl_valid n z (min n 6) (by omega))
  have HMP := Lib.hid (mdl_pc n z (min n 6))
  have HPL := Lib.hid (pck_le (mdl n z (min n 6)) (by omega))
  have hml6 : (mdl n z (min n 6)).length ≤ 6 := by omega
  clear hI hml
  generalize mdl n z (min n 6) = ML at *
  go_enter Tryz.func9, Tryz.ntmps9
  go_upto_region 1 with fail
  generalize w.alloc (.cells #[.int .u8 p.r, .int .u8 p.g, .int .u8 p.b, .int .u8 p.a] 36) = V1 at h0 ⊢
  go_upto_region 2 with (go_at_call 12; with_reducible refine (h0.call (sane_any _)).mono ?_; rintro e V2 ⟨rfl, h2⟩)
  clear h0
  obtain ⟨c0, c1, c2, c3⟩ := h2.pix (List.mem_cons_self ..)
  have f3 := h2.frozen (List.mem_cons_self ..) 3
  by_cases hz : p.a = 0
  · have e1 : (p.a == 0) = true := by simpa using hz
    clear hz
    go_upto_region 4 with fail
    have h3 : St w [(w.heap.size, po p.r p.g p.b 1)] (V2.setCell ⟨w.heap.size, 3, none⟩ (.int .u8 1)) := by
      have hr := h2.row (List.mem_cons_self ..)
      refine ⟨h2.below.setCell (p := ⟨w.heap.size, 3, none⟩) (Nat.le_refl _) _, fun x hx => ?_⟩
      obtain rfl : x = (w.heap.size, po p.r p.g p.b 1) := by simpa using hx
      simp [World.setCell, Array.getElem?_modify, hr]
    have hq : Pc (⟨p.r, p.g, p.b, 1⟩ : Px) := ⟨hp.1, hp.2.1, hp.2.2.1, show Ch 1 by decide⟩
    have hqa : (⟨p.r, p.g, p.b, 1⟩ : Px).a ≠ 0 := show (1 : Int) ≠ 0 by decide
    generalize V2.setCell ⟨w.heap.size, 3, none⟩ (.int .u8 1) = V3 at h3 ⊢
    clear c0 c1 c2 c3 f3 h2 e1
    obtain ⟨q, hqe⟩ : ∃ q : Px, q = ⟨p.r, p.g, p.b, 1⟩ := ⟨_, rfl⟩
    have h3 : St w [(w.heap.size, po q.r q.g q.b q.a)] V3 := by rw [hqe]; exact h3
    rw [← hqe] at hq hqa
    clear hqe
    obtain ⟨c0, c1, c2, c3⟩ := h3.pix (List.mem_cons_self ..)
    have HV1 := Lib.hid (one_valid q hqa)
    have HP1 := Lib.hid (pck_one q)
    have HPF : Hid (∀ a ∈ [(⟨0, 0, fun _ => q⟩ : TA)], ∀ i, i < 64 → Pc (a.t i)) := fun a ha i _ => by
      obtain rfl : a = ⟨0, 0, fun _ => q⟩ := by simpa using ha
      exact hq
    have HFI : Hid (∀ V, Calls Tryz.prog 45 #[pv q.r q.g q.b q.a] V fun e w' => e = .returned (tv (fun _ => q)) ∧ Below V.heap.size V w') := fun V => refFill_any q V
    clear hq hqa
    go_upto_region 5 with (first
      | (go_at_call 45; with_reducible refine (h3.call (HFI.out _)).mono ?_; rintro e V4 ⟨rfl, h4⟩; have HA := Lib.hid (heap_alloc_new V4 (tob z0)))
      | ((with_reducible refine sAlloc (ty := 38) (tc z0) ?_ ?_); · exact zero_tile _)
      | ((with_reducible refine sStore (ty := 38) (w' := (V4.alloc (.cells (tc z0) 38)).setRow V4.heap.size (tc (fun _ => q))) ?_ ?_); · exact store_tile _ z0 _ _ HA.out))
    have h5 : St w [(V4.heap.size, tob (fun _ => q))] ((V4.alloc (tob z0)).setRow V4.heap.size (tc (fun _ => q))) := (T.St.rowset (h4.alloc (tob z0)) h4.below.size (by have := h4.lt (List.mem_cons_self ..); simp; omega)).sub (by simp)
    try simp only [Act.put, List.setIfInBounds_toArray, List.set_cons_zero, List.set_cons_succ]
    generalize (V4.alloc (.cells (tc z0) 38)).setRow V4.heap.size (tc (fun _ => q)) = V5 at h5 ⊢
    generalize V4.heap.size = b6 at *
    clear c0 c1 c2 c3 h3 h4 HA HFI
    have HLT := Lib.hid (load_tile b6 _ _ (h5.row (List.mem_cons_self ..)))
    have h6 := h5.alloc (taob ⟨0, 0, fun _ => q⟩)
    have HPA := Lib.hid (pack_val (some ⟨V5.heap.size, 0, none⟩) 1 1 [⟨0, 0, fun _ => q⟩] _ (RS.one ⟨0, 0, fun _ => q⟩ V5) HV1.out HPF.out)
    go_upto_region 6 with (first
      | ((with_reducible refine sLoad (ty := 38) (v := tv (fun _ => q)) ?_ ?_); · exact HLT.out)
      | ((with_reducible refine sBuildE (ty := 42) (v := tav ⟨0, 0, fun _ => q⟩) ?_ ?_); · exact built_ta1 _ _)
      | ((with_reducible refine sSlice1 ⟨0, 0, fun _ => q⟩ ?_ ?_); · rfl)
      | ((with_reducible refine sBuild1 (ty := 26) (v := rv1 (some ⟨V5.heap.size, 0, none⟩) 1 1) ?_ ?_); · exact built_ra _ _ _ _)
      | (go_at_call 14; with_reducible refine (h6.call HPA.out).mono ?_; rintro e V7 ⟨rfl, h7⟩))
    have hsa : (O.str (pck [⟨0, 0, fun _ => q⟩])).size = 26 := by rw [O.str_size]; exact HP1.out
    generalize O.str (pck [⟨0, 0, fun _ => q⟩]) = SA at *
    have h7 : St w [] V7 := h7.sub (by simp)
    clear h5 h6 HLT HPA HV1 HP1 HPF
    go_upto_region 8 with (first
      | ((with_reducible refine sBuild0 (ty := 26) (v := rv1 none 0 0) ?_ ?_); · exact built_ra0 _)
      | (go_at_call 14; with_reducible refine (h7.call (pack0 _)).mono ?_; rintro e V8 ⟨rfl, h8⟩)
      | (go_at_call 13; with_reducible refine (HMD.out _ h8.below).mono ?_; rintro e V9 ⟨mq, mm, md, rfl, hr9, hb9⟩))
    have h9 := h8.later hb9
    have h10 := h9.alloc (rob mq mm md)
    have hr10 := hr9.later ((Below.refl _ V9).alloc (Nat.le_refl _) (rob mq mm md))
    clear h7 h8 h9 hr9 hb9 HMD
    generalize V9.alloc (.cells #[.slice mq mm md] 26) = V10 at h10 hr10 ⊢
    generalize V9.heap.size = b11 at *
    have hmm := hr10.len
    have HLR := Lib.hid (ld_ra (h10.row (List.mem_cons_self ..)))
    have HPB := Lib.hid (pack_val mq mm md ML V10 hr10 HMV.out HMP.out)
    go_upto_region 9 with (first
      | ((with_reducible refine sLoad (ty := 26) (v := rv1 mq mm md) ?_ ?_); · exact HLR.out)
      | (go_at_call 14; with_reducible refine (h10.call HPB.out).mono ?_; rintro e V11 ⟨rfl, h11⟩))
    have hsb : (O.str (pck ML)).size ≤ 8 + 271 * mm := by rw [O.str_size, ← hmm]; exact HPL.out
    generalize O.str (pck ML) = SBB at *
    have c11 := h11.cell (List.mem_cons_self ..) 0
    clear h10 hr10 HLR HPB
    have hm6 : mm ≤ 6 := by omega
    go_wp2
    go_ret
    have h12 : decide ((SBB.size : Int) ≤ 10 + (mm : Int) * 271) = true := decide_eq_true (by omega)
    exact ⟨by rw [h12]; rfl, h11.below⟩
  · have e1 : (p.a == 0) = false := by simpa using hz
    go_upto_region 4 with fail
    have h3 := h2
    have hq := hp
    have hqa := hz
    clear c0 c1 c2 c3 f3 h2 e1 hz
    generalize p = q at *
    obtain ⟨c0, c1, c2, c3⟩ := h3.pix (List.mem_cons_self ..)
    have HV1 := Lib.hid (one_valid q hqa)
    have HP1 := Lib.hid (pck_one q)
    have HPF : Hid (∀ a ∈ [(⟨0, 0, fun _ => q⟩ : TA)], ∀ i, i < 64 → Pc (a.t i)) := fun a ha i _ => by
      obtain rfl : a = ⟨0, 0, fun _ => q⟩ := by simpa using ha
      exact hq
    have HFI : Hid (∀ V, Calls Tryz.prog 45 #[pv q.r q.g q.b q.a] V fun e w' => e = .returned (tv (fun _ => q)) ∧ Below V.heap.size V w') := fun V => refFill_any q V
    clear hq hqa
    go_upto_region 5 with (first
      | (go_at_call 45; with_reducible refine (h3.call (HFI.out _)).mono ?_; rintro e V4 ⟨rfl, h4⟩; have HA := Lib.hid (heap_alloc_new V4 (tob z0)))
      | ((with_reducible refine sAlloc (ty := 38) (tc z0) ?_ ?_); · exact zero_tile _)
      | ((with_reducible refine sStore (ty := 38) (w' := (V4.alloc (.cells (tc z0) 38)).setRow V4.heap.size (tc (fun _ => q))) ?_ ?_); · exact store_tile _ z0 _ _ HA.out))
    have h5 : St w [(V4.heap.size, tob (fun _ => q))] ((V4.alloc (tob z0)).setRow V4.heap.size (tc (fun _ => q))) := (T.St.rowset (h4.alloc (tob z0)) h4.below.size (by have := h4.lt (List.mem_cons_self ..); simp; omega)).sub (by simp)
    try simp only [Act.put, List.setIfInBounds_toArray, List.set_cons_zero, List.set_cons_succ]
    generalize (V4.alloc (.cells (tc z0) 38)).setRow V4.heap.size (tc (fun _ => q)) = V5 at h5 ⊢
    generalize V4.heap.size = b6 at *
    clear c0 c1 c2 c3 h3 h4 HA HFI
    have HLT := Lib.hid (load_tile b6 _ _ (h5.row (List.mem_cons_self ..)))
    have h6 := h5.alloc (taob ⟨0, 0, fun _ => q⟩)
    have HPA := Lib.hid (pack_val (some ⟨V5.heap.size, 0, none⟩) 1 1 [⟨0, 0, fun _ => q⟩] _ (RS.one ⟨0, 0, fun _ => q⟩ V5) HV1.out HPF.out)
    go_upto_region 6 with (first
      | ((with_reducible refine sLoad (ty := 38) (v := tv (fun _ => q)) ?_ ?_); · exact HLT.out)
      | ((with_reducible refine sBuildE (ty := 42) (v := tav ⟨0, 0, fun _ => q⟩) ?_ ?_); · exact built_ta1 _ _)
      | ((with_reducible refine sSlice1 ⟨0, 0, fun _ => q⟩ ?_ ?_); · rfl)
      | ((with_reducible refine sBuild1 (ty := 26) (v := rv1 (some ⟨V5.heap.size, 0, none⟩) 1 1) ?_ ?_); · exact built_ra _ _ _ _)
      | (go_at_call 14; with_reducible refine (h6.call HPA.out).mono ?_; rintro e V7 ⟨rfl, h7⟩))
    have hsa : (O.str (pck [⟨0, 0, fun _ => q⟩])).size = 26 := by rw [O.str_size]; exact HP1.out
    generalize O.str (pck [⟨0, 0, fun _ => q⟩]) = SA at *
    have h7 : St w [] V7 := h7.sub (by simp)
    clear h5 h6 HLT HPA HV1 HP1 HPF
    go_upto_region 8 with (first
      | ((with_reducible refine sBuild0 (ty := 26) (v := rv1 none 0 0) ?_ ?_); · exact built_ra0 _)
      | (go_at_call 14; with_reducible refine (h7.call (pack0 _)).mono ?_; rintro e V8 ⟨rfl, h8⟩)
      | (go_at_call 13; with_reducible refine (HMD.out _ h8.below).mono ?_; rintro e V9 ⟨mq, mm, md, rfl, hr9, hb9⟩))
    have h9 := h8.later hb9
    have h10 := h9.alloc (rob mq mm md)
    have hr10 := hr9.later ((Below.refl _ V9).alloc (Nat.le_refl _) (rob mq mm md))
    clear h7 h8 h9 hr9 hb9 HMD
    generalize V9.alloc (.cells #[.slice mq mm md] 26) = V10 at h10 hr10 ⊢
    generalize V9.heap.size = b11 at *
    have hmm := hr10.len
    have HLR := Lib.hid (ld_ra (h10.row (List.mem_cons_self ..)))
    have HPB := Lib.hid (pack_val mq mm md ML V10 hr10 HMV.out HMP.out)
    go_upto_region 9 with (first
      | ((with_reducible refine sLoad (ty := 26) (v := rv1 mq mm md) ?_ ?_); · exact HLR.out)
      | (go_at_call 14; with_reducible refine (h10.call HPB.out).mono ?_; rintro e V11 ⟨rfl, h11⟩))
    have hsb : (O.str (pck ML)).size ≤ 8 + 271 * mm := by rw [O.str_size, ← hmm]; exact HPL.out
    generalize O.str (pck ML) = SBB at *
    have c11 := h11.cell (List.mem_cons_self ..) 0
    clear h10 hr10 HLR HPB
    have hm6 : mm ≤ 6 := by omega
    go_wp2
    go_ret
    have h12 : decide ((SBB.size : Int) ≤ 10 + (mm : Int) * 271) = true := decide_eq_true (by omega)
    exact ⟨by rw [h12]; rfl, h11.below⟩

theorem lifted (os : Os) (started : os.Started) (H : Type) (enc : TypeId × Value → H) :
    ReturnsInHanded {} Tryz.checked os 9 .any (Rows.codecSolidSpec.pre6 enc Tryz.prog Tryz.f9 Rows.codecSolidRow.domain false) (Rows.codecSolidSpec.post enc Tryz.prog Tryz.f9 false true false false) := by
  refine returnsInHanded_of_change_sized (C := Tryz.checked) own started (by kernel_rfl) Tryz.func9
    (ChangeSpec.witness6 (enc := enc) (C := Tryz.checked) false ⟨#[], #[.agg #[.int .u8 0, .int .u8 0, .int .u8 0, .int .u8 0], .slice none 0 0], []⟩ 8 (by kernel_rfl) (by kernel_rfl) (by kernel_rfl) (by kernel_rfl)) ?_
  intro W base args ds gs before hval0 hW _ hsz0 _
  have hval : ∀ (j : Nat) t v, Tryz.f9.params[j]? = some t → args[j]? = some v → Value.okWide Tryz.prog W .any base t v := hval0
  have hW' := hW
  obtain ⟨p, q, hA0, hV, rfl, hfz, hnd⟩ := hW
  have hA : DataW.TrodAll enc Tryz.prog W 0 (fun _ => true) true Tryz.f9.params.toList args.toList ds p := hA0
  have hsz : (DataW.weightsEach Tryz.prog (Tryz.f9.params.toList ++ Rows.codecSolidSpec.plain.varTypes Tryz.prog) (ds ++ gs)).all (· ≤ reachBytes) = true := hsz0
  rw [Tryz.params9] at hA hval hsz
  obtain ⟨v0, v1, d0, d1, p0, p1, rfl, rfl, rfl, h0, h1⟩ := trodAll_two hA
  obtain ⟨rfl, rfl⟩ := trodVars_none hV
  obtain ⟨p, rfl, hp⟩ := open_px (hval 0 36 v0 rfl rfl)
  obtain ⟨so, n, c, z, rfl, hI⟩ := opened_is (hval 1 22 v1 rfl rfl) h1 (fun el sp e => by subst e; have hq := sized_slice hsz (j := 1) (t := 22) (e := 3) rfl rfl Tryz.underlying22; rwa [show Tryz.prog.bytesOf 3 = 8 by kernel_rfl] at hq)
  refine (walk p so n c z W hp hI).mono fun e W' ⟨he, hb⟩ => ?_
  subst he
  exact ⟨_, rfl, law_post hW' rfl (by kernel_rfl) rfl (by intro t ht; rw [Tryz.params9] at ht; simp at ht; rcases ht with rfl | rfl <;> exact ⟨by kernel_rfl, of_decide_eq_true (by kernel_rfl)⟩) hb⟩

theorem holds : Rows.CodecSolidSaid :=
  OpenClaim.holds_of_wide 9 Tryz.f9 rfl rfl rfl rfl rfl rfl rfl ⟨rfl, rfl, rfl, rfl, rfl⟩ rfl rfl rfl rfl rfl (by kernel_rfl) Tryz.func9 (by kernel_rfl)
    (of_decide_eq_true (by kernel_rfl)) (by unfold Func.isWrapper; first | (rw [if_pos (by decide +kernel)]; kernel_rfl) | (rw [if_neg (by decide +kernel)]; exact ⟨rfl, rfl⟩))
    (fun os started H enc _ => lifted os started H enc)
end Go.Proofs.YtfncldaodbfakaaGreat.Z.ZLSolid
