/-
  PredictPlanes: changing only the alphas leaves the first 192 residuals unchanged, changing only the colours the last 64.
-/
import Derived.Test.YtjaipjgnchpjcaaPLaw
namespace Go.Proofs.Ytjaipjgnchpjcaa.P.PLPlanes
open Go.ChangeShapes Go.WideShapes Go.ChangeAt Go.RowKit Go.Shelf T
open Go.ChangeMaps (open_string)
set_option maxRecDepth 100000

/-- a tile with another's alphas -/
def mxa (t u : Nat → Px) : Nat → Px := fun i => ⟨(t i).r, (t i).g, (t i).b, (u i).a⟩
theorem mxa_pc {t u : Nat → Px} (ht : ∀ i, i < 64 → Pc (t i)) (hu : ∀ i, i < 64 → Pc (u i)) : ∀ i, i < 64 → Pc (mxa t u i) := fun i hi => ⟨(ht i hi).1, (ht i hi).2.1, (ht i hi).2.2.1, (hu i hi).2.2.2⟩
theorem mxa_set (t u : Nat → Px) (n : Nat) (hn : n < 64) : (tc (pt t (mxa t u) n)).setIfInBounds (4 * n + 3) (.int .u8 (u n).a) = tc (pt t (mxa t u) (n + 1)) := by
  refine tc_of _ (by simp [tc_size]) fun i j hi hj => ?_
  rw [Array.getElem?_setIfInBounds]
  by_cases h : i = n
  · subst h
    have e : pt t (mxa t u) (i + 1) i = mxa t u i := if_pos (by omega)
    rw [e]
    by_cases h3 : j = 3
    · subst h3
      rw [if_pos rfl, if_pos (by rw [tc_size]; omega)]; rfl
    · rw [if_neg (by omega), tc_get _ _ _ hi hj, pt_at]
      have : j = 0 ∨ j = 1 ∨ j = 2 := by omega
      rcases this with rfl | rfl | rfl <;> rfl
  · rw [if_neg (by omega), tc_get _ _ _ hi hj]
    have e : pt t (mxa t u) (n + 1) i = pt t (mxa t u) n i := by
      unfold pt
      by_cases h2 : i < n
      · rw [if_pos h2, if_pos (by omega)]
      · rw [if_neg h2, if_neg (by omega)]
    rw [e]
theorem st_set {W w : World} {L : List (Nat × Obj)} {b i : Nat} {cs : Array Value} {t : TypeId} (v : Value) (h : St W ((b, .cells cs t) :: L) w) (hb : W.heap.size ≤ b) (hL : ∀ x ∈ L, x.1 ≠ b) : St W ((b, .cells (cs.setIfInBounds i v) t) :: L) (w.setCell ⟨b, i, none⟩ v) := by
  rw [setCell_eq_setRow w b i cs t (0, 0) v (h.row (List.mem_cons_self ..))]
  exact St.rowset h hb hL
theorem ext_head (l : List UInt8) (n : Nat) : (str l).extract 0 n = str (l.take n) := by
  apply ByteArray.ext
  apply Array.toList_inj.1
  simp [str, ByteArray.data_extract]
theorem ext_tail (l : List UInt8) (n : Nat) (h : l.length = 256) : (str l).extract n 256 = str (l.drop n) := by
  apply ByteArray.ext
  apply Array.toList_inj.1
  simp [str, ByteArray.data_extract]
  rw [List.take_of_length_le (by rw [List.length_drop]; omega)]
theorem fwd_len (k : Nat) (f : Nat → Px) : (fwd k f).length = 256 := by unfold fwd; rw [bl_len]
theorem head_mxa (k : Nat) (t u : Nat → Px) : (fwd k (mxa t u)).take 192 = (fwd k t).take 192 := by
  unfold fwd
  rw [jn_bl, jn_bl]
  have e : ∀ a b c d : List UInt8, a.length = 64 → b.length = 64 → c.length = 64 → (a ++ (b ++ (c ++ d))).take 192 = a ++ (b ++ c) := fun a b c d ha hb hc => by
    rw [← List.append_assoc b c d, ← List.append_assoc, List.take_left' (by simp [ha, hb, hc])]
  rw [e _ _ _ _ (bl_len _ _) (bl_len _ _) (bl_len _ _), e _ _ _ _ (bl_len _ _) (bl_len _ _) (bl_len _ _)]
  rfl
theorem tail_mxa (k : Nat) (t u : Nat → Px) : (fwd k (mxa t u)).drop 192 = (fwd k u).drop 192 := by
  unfold fwd
  rw [jn_bl, jn_bl]
  have e : ∀ a b c d : List UInt8, a.length = 64 → b.length = 64 → c.length = 64 → (a ++ (b ++ (c ++ d))).drop 192 = d := fun a b c d ha hb hc => by
    rw [← List.append_assoc b c d, ← List.append_assoc, List.drop_left' (by simp [ha, hb, hc])]
  rw [e _ _ _ _ (bl_len _ _) (bl_len _ _) (bl_len _ _), e _ _ _ _ (bl_len _ _) (bl_len _ _) (bl_len _ _)]
  rfl

set_option maxHeartbeats 8000000 in
set_option maxRecDepth 100000 in
theorem walk (t : Nat → Px) (u : Nat → Px) (w : World) (ht : ∀ i, i < 64 → Pc (t i)) (hu : ∀ i, i < 64 → Pc (u i)) : Calls Try.prog 8 #[tv t, tv u] w fun e w' => e = .returned (.bool true) ∧ Below w.heap.size w w' := by
  have h0 := ((St.start w).alloc (tob t)).alloc (tob u)
  simp only [World.size_alloc] at h0
  obtain ⟨b0, hb0⟩ : ∃ b0, b0 = w.heap.size := ⟨_, rfl⟩
  obtain ⟨w0, hw0⟩ : ∃ w0, w0 = (w.alloc (tob t)).alloc (tob u) := ⟨_, rfl⟩
  rw [← hb0, ← hw0] at h0
  have HW0 := Lib.hid hw0
  have HB0 := Lib.hid hb0
  have HT := Lib.hid ht
  have HU := Lib.hid hu
  clear hw0 hb0 ht hu
  go_enter Try.func8, Try.ntmps8
  go_upto_region 1 with fail
  have e1 : (w.alloc (tob t)).alloc (tob u) = w0 := HW0.out.symm
  rw [e1, ← HB0.out]
  clear e1
  go_upto_region 2 with (first | (go_at_call 10; (with_reducible refine (St.call h0 (sanity_any _)).mono ?_); rintro e w1 ⟨rfl, h1⟩))
  have hq := World.alloc_heap_new w1 (tob z0)
  have HL := Lib.hid (load_tile b0 t w1 (h1.row (b := b0) (o := tob t) (by simp)))
  have HST := Lib.hid (store_tile w1.heap.size z0 t _ hq)
  have h2 := (St.rowset (ds := tc t) (h1.alloc (tob z0)) h1.below.size h1.ne).sub (L' := [(w1.heap.size, tob t), (b0 + 1, tob u), (b0, tob t)]) (by simp)
  have hne := h1.ne
  have hbc := h1.below.size
  have HNE : Hid (b0 + 1 ≠ w1.heap.size ∧ b0 ≠ w1.heap.size ∧ w.heap.size ≤ w1.heap.size) := ⟨hne (b0 + 1, tob u) (by simp), hne (b0, tob t) (by simp), hbc⟩
  have H2 := Lib.hid h2
  clear hq h2 h1 h0 HW0 hne hbc
  go_upto_region 3 with (first
    | (refine wpList_load_of rfl 25 (.tmp 2) rfl _ HL.out ?_)
    | (refine wpList_alloc_of rfl 25 rfl _ (zero_tile _) ?_)
    | (refine wpList_store_of rfl 25 (.tmp 6) (.tmp 16) rfl HST.out ?_))
  clear HL HST
  generalize (w1.alloc (tob z0)).setRow w1.heap.size (tc t) = w2 at H2 ⊢
  generalize w1.heap.size = c at H2 HNE ⊢
  go_wp2
  go_loopw [7] (fun v wr => ∃ k : Nat, k ≤ 64 ∧ v = .int .i64 k ∧ Hid (St w [(c, tob (pt t (mxa t u) k)), (b0 + 1, tob u), (b0, tob t)] wr)) (fun i _ => 64 - (intOf i).toNat)
  case atStart => exact ⟨0, by omega, rfl, by rw [pt_zero]; exact H2.out⟩
  case round =>
    clear H2
    obtain ⟨k, hk, rfl, H2⟩ := hrel
    by_cases hlt : k < 64
    · have hix := index_px (b0 + 1) k hlt
      have hiy := index_px c k hlt
      have hcu : wr.cell? ⟨b0 + 1, 4 * k + 3, none⟩ = some (.int .u8 (u k).a) := (H2.out.cell (b := b0 + 1) (cs := tc u) (t := 25) (by simp) (4 * k + 3)).trans (tc_get u k 3 hlt (by omega))
      have hca : wr.cell? ⟨c, 4 * k + 3, none⟩ = some (.int .u8 (pt t (mxa t u) k k).a) := (H2.out.cell (b := c) (cs := tc (pt t (mxa t u) k)) (t := 25) (by simp) (4 * k + 3)).trans (tc_get _ k 3 hlt (by omega))
      have hfa := H2.out.frozen (b := c) (cs := tc (pt t (mxa t u) k)) (t := 25) (by simp) (4 * k + 3)
      have h5 := st_set (i := 4 * k + 3) (.int .u8 (u k).a) H2.out HNE.out.2.2 (by have := HNE.out; simp; omega)
      rw [mxa_set t u k hlt] at h5
      have H5 := Lib.hid h5
      clear h5
      go_wp2
      go_roundw
      case rel => exact ⟨k + 1, by omega, by go_num, H5.out⟩
      case measure => simp [intOf] <;> omega
    · obtain rfl : k = 64 := by omega
      rw [show ((64 : Nat) : Int) = 64 from rfl]
      have h6 : St w [(c, tob (mxa t u)), (b0 + 1, tob u), (b0, tob t)] wr := by
        have h := H2.out
        rwa [show tob (pt t (mxa t u) 64) = tob (mxa t u) from congrArg (fun c => Obj.cells c 25) (pt_all t (mxa t u))] at h
      have H6 := Lib.hid h6
      have HM := Lib.hid (mxa_pc HT.out HU.out)
      clear h6 H2 HNE
      go_upto_region 7 with fail
      go_wp2
      go_loopw [8] (fun i wr => ∃ m : Nat, m ≤ 6 ∧ i = .int .i64 m ∧ Hid (St w [(c, tob (mxa t u)), (b0 + 1, tob u), (b0, tob t)] wr)) (fun i _ => 6 - (intOf i).toNat)
      case atStart => exact ⟨0, by omega, rfl, H6.out⟩
      case round =>
        clear H6
        obtain ⟨m, hm, rfl, H6⟩ := hrel
        by_cases hm6 : m < 6
        · obtain ⟨X, hX⟩ : ∃ X, X = str (fwd m t) := ⟨_, rfl⟩
          obtain ⟨Y, hY⟩ : ∃ Y, Y = str (fwd m (mxa t u)) := ⟨_, rfl⟩
          obtain ⟨Z, hZ⟩ : ∃ Z, Z = str (fwd m u) := ⟨_, rfl⟩
          have HF1 : Hid (∀ V, Calls Try.prog 12 #[tv t, .int .i64 m] V fun e w' => e = .returned (.tuple #[.string X, .int .i64 0]) ∧ Below V.heap.size V w') := fun V => hX ▸ fwd_any m t V hm6 HT.out
          have HF2 : Hid (∀ V, Calls Try.prog 12 #[tv (mxa t u), .int .i64 m] V fun e w' => e = .returned (.tuple #[.string Y, .int .i64 0]) ∧ Below V.heap.size V w') := fun V => hY ▸ fwd_any m (mxa t u) V hm6 HM.out
          have HF3 : Hid (∀ V, Calls Try.prog 12 #[tv u, .int .i64 m] V fun e w' => e = .returned (.tuple #[.string Z, .int .i64 0]) ∧ Below V.heap.size V w') := fun V => hZ ▸ fwd_any m u V hm6 HU.out
          have zX : X.size = 256 := by rw [hX, str_size, fwd_len]
          have zY : Y.size = 256 := by rw [hY, str_size, fwd_len]
          have zZ : Z.size = 256 := by rw [hZ, str_size, fwd_len]
          have qX : Y.extract 0 192 = X.extract 0 192 := by rw [hX, hY, ext_head, ext_head, head_mxa]
          have qZ : Y.extract 192 256 = Z.extract 192 256 := by rw [hY, hZ, ext_tail _ _ (fwd_len _ _), ext_tail _ _ (fwd_len _ _), tail_mxa]
          clear hX hY hZ
          have h6 := H6.out
          have HL := Lib.hid (load_tile b0 t _ (h6.row (b := b0) (o := tob t) (by simp)))
          go_upto_region 11 with (first
            | (go_at_call 11; refine (count_any _).mono ?_; rintro e wx ⟨rfl, rfl⟩)
            | (refine wpList_load_of rfl 25 (.tmp 2) rfl _ HL.out ?_)
            | (go_at_call 12; (with_reducible refine (St.call h6 (HF1.out _)).mono ?_); rintro e w7 ⟨rfl, h7⟩))
          have HL2 := Lib.hid (load_tile c (mxa t u) w7 (h7.row (b := c) (o := tob (mxa t u)) (by simp)))
          go_upto_region 12 with (first
            | (refine wpList_load_of rfl 25 (.tmp 6) rfl _ HL2.out ?_)
            | (go_at_call 12; (with_reducible refine (St.call h7 (HF2.out _)).mono ?_); rintro e w8 ⟨rfl, h8⟩))
          have HL3 := Lib.hid (load_tile (b0 + 1) u w8 (h8.row (b := b0 + 1) (o := tob u) (by simp)))
          go_upto_region 13 with (first
            | (refine wpList_load_of rfl 25 (.tmp 3) rfl _ HL3.out ?_)
            | (go_at_call 12; (with_reducible refine (St.call h8 (HF3.out _)).mono ?_); rintro e w9 ⟨rfl, h9⟩))
          have H9 := Lib.hid h9
          clear HF1 HF2 HF3 HL HL2 HL3 h6 h7 h8 h9 H6
          go_quiet (fail)
          have H10 := Lib.hid (H9.out.drewN nq)
          clear H9 qX qZ zX zY zZ
          generalize w9.drewN nq = w10 at H10 ⊢
          go_wp2
          go_roundw
          case rel => exact ⟨m + 1, by omega, by go_num, H10.out⟩
          case measure => simp [intOf] <;> omega
        · obtain rfl : m = 6 := by omega
          have HB := Lib.hid H6.out.below
          go_wp2_with (go_at_call 11; refine (count_any _).mono ?_; rintro e wx ⟨rfl, rfl⟩)
          go_ret
          exact ⟨rfl, HB.out⟩

theorem okin (W : World) (base : Nat) : Input.okWide Try.checked.prog W .any base 8 ⟨#[], #[tv z0, tv z0], []⟩ := by
  refine ⟨by simp, by simp, by kernel_rfl, Try.f8, Try.func8, by kernel_rfl, by kernel_rfl, by kernel_rfl, by rw [Try.params8]; rfl, ?_⟩
  intro j t v ht hv
  rw [Try.params8] at ht
  match j with
  | 0 => cases (Option.some.inj ht); cases (Option.some.inj hv); exact ok_tile W base
  | 1 => cases (Option.some.inj ht); cases (Option.some.inj hv); exact ok_tile W base
  | j + 2 => simp at ht
theorem lifted (os : Os) (started : os.Started) (H : Type) (enc : TypeId × Value → H) :
    ReturnsInHanded {} Try.checked os 8 .any (Rows.predictPlanesSpec.pre6 enc Try.prog Try.f8 Rows.predictPlanesRow.domain false) (Rows.predictPlanesSpec.post enc Try.prog Try.f8 false true false false) := by
  refine returnsInHanded_of_change_sized (C := Try.checked) own started (by kernel_rfl) Try.func8
    (witness7 (enc := enc) (C := Try.checked) false ⟨#[], #[tv z0, tv z0], []⟩ 8 (by kernel_rfl) (by kernel_rfl) (fun W base => okin W base) (by kernel_rfl) (by kernel_rfl)) ?_
  intro W base args ds gs before hval0 hW _ _ _
  have hval : ∀ (j : Nat) t v, Try.f8.params[j]? = some t → args[j]? = some v → Value.okWide Try.prog W .any base t v := hval0
  have hW' := hW
  obtain ⟨p, q, hA0, hV, rfl, hfz, hnd⟩ := hW
  have hA : DataW.TrodAll enc Try.prog W 0 (fun _ => true) true Try.f8.params.toList args.toList ds p := hA0
  rw [Try.params8] at hA hval
  obtain ⟨v0, v1, d0, d1, p0, p1, rfl, rfl, rfl, h0, h1⟩ := trodAll_two hA
  obtain ⟨rfl, rfl⟩ := trodVars_none hV
  obtain ⟨t, rfl, ht⟩ := open_tile (hval 0 25 v0 rfl rfl)
  obtain ⟨u, rfl, hu⟩ := open_tile (hval 1 25 v1 rfl rfl)
  refine (walk t u W ht hu).mono fun e W' ⟨he, hb⟩ => ?_
  subst he
  exact ⟨_, rfl, law_post hW' rfl (by kernel_rfl) rfl (by intro t ht; rw [Try.params8] at ht; simp at ht; subst ht; exact ⟨by kernel_rfl, of_decide_eq_true (by kernel_rfl)⟩) hb⟩

theorem holds : Rows.PredictPlanesSaid :=
  OpenClaim.holds_of_wide 8 Try.f8 rfl rfl rfl rfl rfl rfl rfl ⟨rfl, rfl, rfl, rfl, rfl⟩ rfl rfl rfl rfl rfl (by kernel_rfl) Try.func8 (by kernel_rfl)
    (of_decide_eq_true (by kernel_rfl)) (by unfold Func.isWrapper; first | (rw [if_pos (by decide +kernel)]; kernel_rfl) | (rw [if_neg (by decide +kernel)]; exact ⟨rfl, rfl⟩))
    (fun os started H enc _ => lifted os started H enc)
end Go.Proofs.Ytjaipjgnchpjcaa.P.PLPlanes
