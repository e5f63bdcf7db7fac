/-
  CoderGrows: the output of a writer grows, and all bytes but the last four are final (at most 400 bits).
-/
import Derived.Test.YtbfnahclkajahaaCLaw
import Derived.Test.YtbfnahclkajahaaCLoop
namespace Go.Proofs.Ytbfnahclkajahaa.C.CLGrows
open Go.ChangeShapes Go.WideShapes Go.ChangeAt Go.RowKit Go.Shelf
open Go.ChangeMaps (open_string)
set_option maxRecDepth 100000

theorem slice_head (s : ByteArray) (m : Nat) (h : m ≤ s.size) (V : World) : (Instr.slice 9 (.string s) none (some (.int .i64 m)) none).run Try.prog V = .ok (.string (s.extract 0 m)) V := by
  rw [run_slice_string_h V 9 s Try.underlying9 .i64 m (by omega) (by omega), Int.toNat_natCast]

set_option maxHeartbeats 8000000 in
set_option maxRecDepth 100000 in
theorem walk (po : Option Addr) (n c : Nat) (f : Nat → Int × Int) (w : World) (_hn : n ≤ 9223372036854775807) (hI : ∀ i, i < n → BitAt w po i (f i).1 (f i).2) : Calls Try.prog 9 #[.slice po n c] w fun e w' => e = .returned (.bool true) ∧ Below w.heap.size w w' := by
  have h0 := HS.start w
  have HI := Lib.hid hI
  clear hI
  go_enter Try.func9, Try.ntmps9
  go_wp2_with (first
    | (go_at_call 13; (with_reducible refine (h0.call (sanity_any _)).mono ?_); rintro e w1 ⟨rfl, h1⟩)
    | (go_at_call 19; (with_reducible refine (newW_any _ h1).mono ?_); rintro e w2 ⟨b, rfl, h2⟩; have h3 : SW w [] f b 0 w2 := SW.new h2)
    | (go_at_call 23; (with_reducible refine (SW.bytes (by omega) h3).mono ?_); rintro e w3 ⟨rfl, h4⟩))
  have H3 := Lib.hid h4
  clear h0 h1 h2 h3 h4
  go_loopw [5, 6, 7, 8] (fun a i _ _ V => ∃ k : Nat, k ≤ 400 ∧ i = .int .i64 (k : Int) ∧ a = .string (str (yb f k)) ∧ Hid (SW w [] f b k V)) (fun _ i _ _ _ => 400 - (intOf i).toNat)
  case atStart => exact ⟨0, by omega, rfl, rfl, H3⟩
  case round =>
    obtain ⟨k, hk, rfl, rfl, HT⟩ := hrel
    clear H3
    by_cases h1 : k < n
    · by_cases h2 : k < 400
      · obtain ⟨bl, off, rfl, hbi⟩ := (HI.out k h1).at
        have hfk : f k = ((f k).1, (f k).2) := rfl
        have HBI := Lib.hid hbi
        have HFK := Lib.hid hfk
        have HQ := Lib.hid (heads_eq _ _ _ (yb_heads f k))
        have HSA : Hid ((str (yb f k)).size = (wt c0 (ops f k)).length + 4) := by rw [str_size, yb_len]; exact Lib.hid rfl
        have HSB : Hid ((wt c0 (ops f k)).length + 4 ≤ (str (yb f (k + 1))).size ∧ (wt c0 (ops f k)).length ≤ 1600) := by
          rw [str_size]; exact Lib.hid ⟨by have := yb_mono f k; rw [yb_len] at this; omega, by have := wt_ops f k; omega⟩
        have HBY : Hid (∀ V, SW w [] f b (k + 1) V → Calls Try.prog 23 #[.pointer (some ⟨b, 0, none⟩)] V fun e w' => e = .returned (.string (str (yb f (k + 1)))) ∧ SW w [] f b (k + 1) w') := fun V hV => hV.bytes (by omega)
        clear hbi hfk
        generalize (f k).1 = x at *
        generalize (f k).2 = y at *
        have HEND : Hid (∀ V, SW w [] f b (k + 1) V → ∃ k2 : Nat, k2 = k + 1 ∧ str (yb f (k + 1)) = str (yb f k2) ∧ SW w [] f b k2 V) := fun V hV => ⟨k + 1, rfl, rfl, hV⟩
        generalize hSB : str (yb f (k + 1)) = sb at *
        generalize str (yb f k) = sa at *
        generalize (wt c0 (ops f k)).length = m at *
        go_upto_region 9 with fail
        have hd := HT.out.drew
        obtain ⟨hcx, hcy⟩ := HBI.out _ hd.below
        go_still_tail 11, (by kernel_rfl)
        change wpList _ _ _ _ _ wr.drew
        have HD := Lib.hid hd
        clear hd
        generalize wr.drew = w4 at *
        have hsa := HSA.out
        have hm1 : (m : Int) ≤ 1600 := by have := HSB.out.2; omega
        have hsa2 : (sa.size : Int) = (m : Int) + 4 := by omega
        clear hsa
        go_upto_region 12 with (first
          | (go_at_call 21; refine (SW.bit HFK.out (by omega) HD.out).mono ?_; rintro e w5 ⟨rfl, h5⟩; have H5 := Lib.hid h5; clear h5)
          | (go_at_call 23; refine (HBY.out _ H5.out).mono ?_; rintro e w6 ⟨rfl, h6⟩; have H6 := Lib.hid h6; clear h6))
        clear hcx hcy
        have hsb := HSB.out.1
        have hsb3 : (m : Int) ≤ (sb.size : Int) := by omega
        have hm0 : ((m : Int) < 0) = False := eq_false (by omega)
        have hsb4 : ((sb.size : Int) < (m : Int) + 4) = False := eq_false (by omega)
        have hsb5 : (m : Int) ≤ (sa.size : Int) := by omega
        have hq := HQ.out
        have hsl1 : ∀ V, (Instr.slice 9 (.string sb) none (some (.int .i64 m)) none).run Try.prog V = .ok (.string (sb.extract 0 m)) V := fun V => slice_head sb m (by omega) V
        have hsl2 : ∀ V, (Instr.slice 9 (.string sa) none (some (.int .i64 m)) none).run Try.prog V = .ok (.string (sa.extract 0 m)) V := fun V => slice_head sa m (by omega) V
        go_quiet (fail)
        have HD3 := Lib.hid (H6.out.later (below_drewN nq))
        generalize w6.drewN nq = w7 at *
        clear hm0 hsb hsb3 hsb4 hsb5 hq hsa2 hsl1 hsl2
        go_wp2_with fail
        go_roundw
        case rel => exact ⟨k + 1, by omega, by go_num, by rw [hSB], HD3⟩
        case measure => simp [intOf]; omega
      · go_wp2_with fail
        go_ret
        exact ⟨rfl, HT.out.below⟩
    · go_wp2_with fail
      go_ret
      exact ⟨rfl, HT.out.below⟩
theorem lifted (os : Os) (started : os.Started) (H : Type) (enc : TypeId × Value → H) :
    ReturnsInHanded {} Try.checked os 9 .any (Rows.coderGrowsSpec.pre6 enc Try.prog Try.f9 Rows.coderGrowsRow.domain false) (Rows.coderGrowsSpec.post enc Try.prog Try.f9 false true false false) := by
  refine returnsInHanded_of_change_sized (C := Try.checked) own started (by kernel_rfl) Try.func9
    (ChangeSpec.witness6 (enc := enc) (C := Try.checked) false ⟨#[], #[.slice none 0 0], []⟩ 8 (by kernel_rfl) (by kernel_rfl) (by kernel_rfl) (by kernel_rfl)) ?_
  intro W base args ds gs before hval0 hW _ _ _
  have hval : ∀ (j : Nat) t v, Try.f9.params[j]? = some t → args[j]? = some v → Value.okWide Try.prog W .any base t v := hval0
  have hW' := hW
  obtain ⟨p, q, hA0, hV, rfl, hfz, hnd⟩ := hW
  have hA : DataW.TrodAll enc Try.prog W 0 (fun _ => true) true Try.f9.params.toList args.toList ds p := hA0
  rw [Try.params9] at hA hval
  obtain ⟨v0, d0, rfl, rfl, h0⟩ := trodAll_one hA
  obtain ⟨rfl, rfl⟩ := trodVars_none hV
  obtain ⟨po, n, c, f, rfl, hn, hI⟩ := opened_bits (hval 0 36 v0 rfl rfl) h0
  refine (walk po n c f W hn hI).mono fun e W' ⟨he, hb⟩ => ?_
  subst he
  exact ⟨_, rfl, law_post hW' rfl (by kernel_rfl) rfl (by intro t ht; rw [Try.params9] at ht; simp at ht; subst ht; exact ⟨by kernel_rfl, of_decide_eq_true (by kernel_rfl)⟩) hb⟩

theorem holds : Rows.CoderGrowsSaid :=
  OpenClaim.holds_of_wide 9 Try.f9 rfl rfl rfl rfl rfl rfl rfl ⟨rfl, rfl, rfl, rfl, rfl⟩ rfl rfl rfl rfl rfl (by kernel_rfl) Try.func9 (by kernel_rfl)
    (of_decide_eq_true (by kernel_rfl)) (by unfold Func.isWrapper; first | (rw [if_pos (by decide +kernel)]; kernel_rfl) | (rw [if_neg (by decide +kernel)]; exact ⟨rfl, rfl⟩))
    (fun os started H enc _ => lifted os started H enc)
end Go.Proofs.Ytbfnahclkajahaa.C.CLGrows
