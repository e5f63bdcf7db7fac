/-
  PredictGradient: of a tile whose grey values are a + b x + c y, predictor 1 leaves b behind the first column, and predictor 2 leaves c behind the first row.
-/
import Derived.Test.YtjaipjgnchpjcaaPLaw
namespace Go.Proofs.Ytjaipjgnchpjcaa.P.PLGradient
open Go.ChangeShapes Go.WideShapes Go.ChangeAt Go.RowKit Go.Shelf T
open Go.ChangeMaps (open_string)
set_option maxRecDepth 100000

/-- the slope's values, and its tile -/
def slv (a b c : Int) (i : Nat) : Int := b8 (a + b * ((i : Int) % 8) + c * ((i : Int) / 8))
def slp (a b c : Int) : Nat → Px := fun i => ⟨slv a b c i, slv a b c i, slv a b c i, 255⟩
theorem slp_pc (a b c : Int) (i : Nat) : Pc (slp a b c i) := ⟨b8_ch _, b8_ch _, b8_ch _, by show Ch 255; exact ⟨by omega, by omega⟩⟩
theorem slp_y (a b c : Int) (i : Nat) : pY (slp a b c) i = slv a b c i := (swap_grey (b8_ch _)).1
theorem b8_sub (x y : Int) : b8 (b8 x - b8 (b8 y)) = b8 (x - y) := by unfold b8; omega
theorem b8_id {x : Int} (h : Ch x) : b8 x = x := by unfold Ch at h; unfold b8; omega
theorem res1 (a b c : Int) (hb : Ch b) (i : Nat) (h : 0 < i % 8) : res 1 (pY (slp a b c)) i = b := by
  show b8 (pY (slp a b c) i - b8 (nL (pY (slp a b c)) i)) = b
  unfold nL
  rw [if_pos h, slp_y, slp_y]
  unfold slv
  rw [b8_sub]
  have e1 : (((i - 1 : Nat) : Int)) % 8 = (i : Int) % 8 - 1 := by omega
  have e2 : (((i - 1 : Nat) : Int)) / 8 = (i : Int) / 8 := by omega
  rw [e1, e2, Int.mul_sub]
  have e3 : a + b * ((i : Int) % 8) + c * ((i : Int) / 8) - (a + (b * ((i : Int) % 8) - b * 1) + c * ((i : Int) / 8)) = b := by omega
  rw [e3, b8_id hb]
theorem res2 (a b c : Int) (hc : Ch c) (i : Nat) (h : 8 ≤ i) : res 2 (pY (slp a b c)) i = c := by
  show b8 (pY (slp a b c) i - b8 (nU (pY (slp a b c)) i)) = c
  unfold nU
  rw [if_pos (by omega), slp_y, slp_y]
  unfold slv
  rw [b8_sub]
  have e1 : (((i - 8 : Nat) : Int)) % 8 = (i : Int) % 8 := by omega
  have e2 : (((i - 8 : Nat) : Int)) / 8 = (i : Int) / 8 - 1 := by omega
  rw [e1, e2, Int.mul_sub]
  have e3 : a + b * ((i : Int) % 8) + c * ((i : Int) / 8) - (a + b * ((i : Int) % 8) + (c * ((i : Int) / 8) - c * 1)) = c := by omega
  rw [e3, b8_id hc]
theorem fwd_size (k : Nat) (f : Nat → Px) : (str (fwd k f)).size = 256 := by rw [str_size]; unfold fwd; rw [bl_len]
theorem str_at (l : List UInt8) (n : Nat) (_h : n < l.length) (hn : n < (str l).size) : (str l)[n] = l[n] := List.getElem_toArray ..
theorem idx_l (l : List UInt8) (i : Nat) (h : i < l.length) (W : World) : (Instr.index 9 (.string (str l)) (.int .i64 (i : Int))).run Try.prog W = .ok (.int .u8 ((l[i]).toNat : Int)) W := by
  rw [run_index_string W _ _ .i64 _ Try.underlying9, dif_pos (by rw [str_size]; omega)]
  exact congrArg (fun x : UInt8 => Result.ok (Value.int .u8 (x.toNat : Int)) W) (str_at l i h (by rw [str_size]; omega))
/-- a byte of the first plane of the residuals -/
theorem fwd_at (k : Nat) (f : Nat → Px) (i : Nat) (hi : i < 64) (W : World) : (Instr.index 9 (.string (str (fwd k f))) (.int .i64 (i : Int))).run Try.prog W = .ok (.int .u8 (res k (pY f) i)) W := by
  have hl : (fwd k f).length = 256 := by unfold fwd; rw [bl_len]
  rw [idx_l _ i (by omega)]
  have h1 : (fwd k f)[i]? = some (u8 (res k (pY f) i)) := by
    unfold fwd; rw [bl_get _ 256 i (by omega)]; unfold jn; rw [if_pos hi]
  rw [(List.getElem?_eq_some_iff.1 h1).2]
  exact congrArg (fun x => Result.ok (Value.int .u8 x) W) (i8_u8 (b8_ch _))

set_option maxHeartbeats 8000000 in
set_option maxRecDepth 100000 in
theorem walk (a : Int) (b : Int) (c : Int) (w : World) (_ha : Ch a) (hb : Ch b) (hc : Ch c) : Calls Try.prog 9 #[.int .u8 a, .int .u8 b, .int .u8 c] w fun e w' => e = .returned (.bool true) ∧ Below w.heap.size w w' := by
  obtain ⟨G, hG⟩ : ∃ G, G = slp a b c := ⟨_, rfl⟩
  have hGp : ∀ i, i < 64 → Pc (G i) := fun i _ => hG ▸ slp_pc a b c i
  obtain ⟨S, hS⟩ : ∃ S, S = str (fwd 1 G) := ⟨_, rfl⟩
  obtain ⟨U, hU⟩ : ∃ U, U = str (fwd 2 G) := ⟨_, rfl⟩
  have zS : S.size = 256 := hS ▸ fwd_size 1 G
  have zU : U.size = 256 := hU ▸ fwd_size 2 G
  have HS : Hid (∀ i, i < 64 → ∀ W, (Instr.index 9 (.string S) (.int .i64 ((i : Nat) : Int))).run Try.prog W = .ok (.int .u8 (res 1 (pY G) i)) W) := fun i hi W => hS ▸ fwd_at 1 G i hi W
  have HU : Hid (∀ i, i < 64 → ∀ W, (Instr.index 9 (.string U) (.int .i64 ((i : Nat) : Int))).run Try.prog W = .ok (.int .u8 (res 2 (pY G) i)) W) := fun i hi W => hU ▸ fwd_at 2 G i hi W
  have HF1 : Hid (∀ V, Calls Try.prog 12 #[tv G, .int .i64 1] V fun e w' => e = .returned (.tuple #[.string S, .int .i64 0]) ∧ Below V.heap.size V w') := fun V => hS ▸ fwd_any 1 G V (by omega) hGp
  have HF2 : Hid (∀ V, Calls Try.prog 12 #[tv G, .int .i64 2] V fun e w' => e = .returned (.tuple #[.string U, .int .i64 0]) ∧ Below V.heap.size V w') := fun V => hU ▸ fwd_any 2 G V (by omega) hGp
  have R1 : Hid (∀ i, 0 < i % 8 → res 1 (pY G) i = b) := fun i h => by rw [hG]; exact res1 a b c hb i h
  have R2 : Hid (∀ i, 8 ≤ i → res 2 (pY G) i = c) := fun i h => by rw [hG]; exact res2 a b c hc i h
  have HG : Hid (∀ i, G i = ⟨slv a b c i, slv a b c i, slv a b c i, 255⟩) := fun i => by rw [hG]; rfl
  clear hS hU hG hGp
  have h0 := St.start w
  go_enter Try.func9, Try.ntmps9
  go_upto_region 2 with (first | (go_at_call 10; (with_reducible refine (St.call h0 (sanity_any _)).mono ?_); rintro e w1 ⟨rfl, h1⟩))
  have hA := World.alloc_heap_new w1 (tob z0)
  have h4 := St.rowset (ds := tc z0) (h1.alloc (tob z0)) h1.below.size (by simp)
  have hle := h1.below.size
  have HA := Lib.hid hA
  have H4 := Lib.hid h4
  have HLE := Lib.hid hle
  clear hA h4 hle h1 h0
  refine wp_region_lit ?_
  refine wpList_build0 rfl 25 rfl _ (built0 _) ?_
  simp only [Act.put, List.setIfInBounds_toArray, List.set_cons_zero, List.set_cons_succ]
  refine wpList_alloc_of rfl 25 rfl _ (zero_tile _) ?_
  simp only [Act.put, List.setIfInBounds_toArray, List.set_cons_zero, List.set_cons_succ]
  refine wpList_store_of rfl 25 _ _ rfl (store_tile w1.heap.size z0 z0 _ HA.out) ?_
  simp only [Act.put]
  generalize (w1.alloc (.cells (tc z0) 25)).setRow w1.heap.size (tc z0) = V3 at H4 ⊢
  clear HA
  generalize w1.heap.size = b0 at H4 HLE ⊢
  go_wp2
  go_loopw [9] (fun v wr => ∃ k : Nat, k ≤ 64 ∧ v = .int .i64 k ∧ Hid (St w [(b0, tob (pt z0 G k))] wr)) (fun i _ => 64 - (intOf i).toNat)
  case atStart => exact ⟨0, by omega, rfl, by rw [pt_zero]; exact H4.out⟩
  case round =>
    clear H4
    obtain ⟨k, hk, rfl, HT⟩ := hrel
    by_cases hlt : k < 64
    · have hiy := index_px b0 k hlt
      have HST := Lib.hid (store_px b0 (pt z0 G k) k (G k) hlt wr (HT.out.row (b := b0) (o := tob (pt z0 G k)) (by simp)))
      have h5 := St.rowset (ds := tc (upd (pt z0 G k) k (G k))) HT.out HLE.out (by simp)
      rw [pt_succ] at h5
      have H5 := Lib.hid h5
      clear h5
      have hg := HG.out k
      go_upto_region 7 with fail
      have ev : ((a + b * ((k : Int) % 8)) % 256 + c * ((k : Int) / 8) % 256) % 256 = slv a b c k := by
        unfold slv b8
        generalize b * ((k : Int) % 8) = x
        generalize c * ((k : Int) / 8) = y
        omega
      rw [ev]
      clear ev
      have e5 := pt_succ z0 G k
      rw [hg] at HST e5
      clear hg
      generalize slv a b c k = v at HST e5 ⊢
      have HE := Lib.hid e5
      clear e5
      go_wp2_with (refine wpList_store_of rfl 23 _ _ rfl HST.out ?_)
      rw [HE.out]
      go_roundw
      case rel => exact ⟨k + 1, by omega, by go_num, H5.out⟩
      case measure => simp [intOf] <;> omega
    · obtain rfl : k = 64 := by omega
      have h6 : St w [(b0, tob G)] wr := by
        have h := HT.out
        rwa [show tob (pt z0 G 64) = tob G from congrArg (fun c => Obj.cells c 25) (pt_all z0 G)] at h
      have HL := Lib.hid (load_tile b0 G wr (h6.row (b := b0) (o := tob G) (by simp)))
      clear HT
      go_upto_region 9 with (first
        | (refine wpList_load_of rfl 25 _ rfl _ HL.out ?_)
        | (go_at_call 12; (with_reducible refine (St.call h6 (HF1.out _)).mono ?_); rintro e w7 ⟨rfl, h7⟩))
      have HL2 := Lib.hid (load_tile b0 G w7 (h7.row (b := b0) (o := tob G) (by simp)))
      clear HL
      go_upto_region 10 with (first
        | (refine wpList_load_of rfl 25 _ rfl _ HL2.out ?_)
        | (go_at_call 12; (with_reducible refine (St.call h7 (HF2.out _)).mono ?_); rintro e w8 ⟨rfl, h8⟩))
      have HB := Lib.hid h8.below
      clear HL2 h6 h7 h8 HF1 HF2 HG
      go_wp2
      go_loopw [15] (fun v wr => ∃ i : Nat, i ≤ 64 ∧ v = .int .i64 i ∧ wr = w8) (fun i _ => 64 - (intOf i).toNat)
      case atStart => exact ⟨0, by omega, rfl, rfl⟩
      case round =>
        obtain ⟨i, hi, rfl, rfl⟩ := hrel
        by_cases hl : i < 64
        · have x1 := HS.out i hl
          have x2 := HU.out i hl
          by_cases h8 : 0 < i % 8
          · rw [R1.out i h8] at x1
            by_cases h9 : 8 ≤ i
            · rw [R2.out i h9] at x2
              go_wp2
              go_roundw
              case rel => exact ⟨i + 1, by omega, by go_num, by first | rfl | trivial⟩
              case measure => simp [intOf] <;> omega
            · go_wp2
              go_roundw
              case rel => exact ⟨i + 1, by omega, by go_num, by first | rfl | trivial⟩
              case measure => simp [intOf] <;> omega
          · by_cases h9 : 8 ≤ i
            · rw [R2.out i h9] at x2
              go_wp2
              go_roundw
              case rel => exact ⟨i + 1, by omega, by go_num, by first | rfl | trivial⟩
              case measure => simp [intOf] <;> omega
            · go_wp2
              go_roundw
              case rel => exact ⟨i + 1, by omega, by go_num, by first | rfl | trivial⟩
              case measure => simp [intOf] <;> omega
        · obtain rfl : i = 64 := by omega
          go_wp2
          go_ret
          exact ⟨rfl, HB.out⟩

theorem okin (W : World) (base : Nat) : Input.okWide Try.checked.prog W .any base 9 ⟨#[], #[.int .u8 0, .int .u8 0, .int .u8 0], []⟩ := by
  refine ⟨by simp, by simp, by kernel_rfl, Try.f9, Try.func9, by kernel_rfl, by kernel_rfl, by kernel_rfl, by rw [Try.params9]; rfl, ?_⟩
  intro j t v ht hv
  rw [Try.params9] at ht
  match j with
  | 0 => cases (Option.some.inj ht); cases (Option.some.inj hv); exact ok_u8 W base
  | 1 => cases (Option.some.inj ht); cases (Option.some.inj hv); exact ok_u8 W base
  | 2 => cases (Option.some.inj ht); cases (Option.some.inj hv); exact ok_u8 W base
  | j + 3 => simp at ht
theorem lifted (os : Os) (started : os.Started) (H : Type) (enc : TypeId × Value → H) :
    ReturnsInHanded {} Try.checked os 9 .any (Rows.predictGradientSpec.pre6 enc Try.prog Try.f9 Rows.predictGradientRow.domain false) (Rows.predictGradientSpec.post enc Try.prog Try.f9 false true false false) := by
  refine returnsInHanded_of_change_sized (C := Try.checked) own started (by kernel_rfl) Try.func9
    (witness7 (enc := enc) (C := Try.checked) false ⟨#[], #[.int .u8 0, .int .u8 0, .int .u8 0], []⟩ 8 (by kernel_rfl) (by kernel_rfl) (fun W base => okin W base) (by kernel_rfl) (by kernel_rfl)) ?_
  intro W base args ds gs before hval0 hW _ _ _
  have hval : ∀ (j : Nat) t v, Try.f9.params[j]? = some t → args[j]? = some v → Value.okWide Try.prog W .any base t v := hval0
  have hW' := hW
  obtain ⟨p, q, hA0, hV, rfl, hfz, hnd⟩ := hW
  have hA : DataW.TrodAll enc Try.prog W 0 (fun _ => true) true Try.f9.params.toList args.toList ds p := hA0
  rw [Try.params9] at hA hval
  obtain ⟨v0, v1, v2, d0, d1, d2, p0, p1, p2, rfl, rfl, rfl, h0, h1, h2⟩ := trodAll_three hA
  obtain ⟨rfl, rfl⟩ := trodVars_none hV
  obtain ⟨a, rfl, ha⟩ := open_u8 (hval 0 5 v0 rfl rfl)
  obtain ⟨b, rfl, hb⟩ := open_u8 (hval 1 5 v1 rfl rfl)
  obtain ⟨c, rfl, hc⟩ := open_u8 (hval 2 5 v2 rfl rfl)
  refine (walk a b c W ha hb hc).mono fun e W' ⟨he, hb⟩ => ?_
  subst he
  exact ⟨_, rfl, law_post hW' rfl (by kernel_rfl) rfl (by intro t ht; rw [Try.params9] at ht; simp at ht; subst ht; exact ⟨by kernel_rfl, of_decide_eq_true (by kernel_rfl)⟩) hb⟩

theorem holds : Rows.PredictGradientSaid :=
  OpenClaim.holds_of_wide 9 Try.f9 rfl rfl rfl rfl rfl rfl rfl ⟨rfl, rfl, rfl, rfl, rfl⟩ rfl rfl rfl rfl rfl (by kernel_rfl) Try.func9 (by kernel_rfl)
    (of_decide_eq_true (by kernel_rfl)) (by unfold Func.isWrapper; first | (rw [if_pos (by decide +kernel)]; kernel_rfl) | (rw [if_neg (by decide +kernel)]; exact ⟨rfl, rfl⟩))
    (fun os started H enc _ => lifted os started H enc)
end Go.Proofs.Ytjaipjgnchpjcaa.P.PLGradient
