/-
  PixelNames: Name and Mode are inverse to each other on the 16 modes, and reject everything else; both agree with the reference. No conditions on the arguments; the table of names is as the program lays it (tied).
-/
import Derived.Test.YtfclbfliebdopaaDoorLaw
import Derived.Test.YtfclbfliebdopaaDoorSane
namespace Go.Proofs.YtfclbfliebdopaaDoor.LNames
open Go.ChangeShapes Go.WideShapes Go.ChangeAt Go.RowKit
open Go.ChangeMaps (open_string shut_string)
variable {W w w' : World}

set_option maxHeartbeats 4000000 in
set_option maxRecDepth 100000 in
theorem walk (m : Int) (s : ByteArray) (w : World) (hT : LT w) (_hs : s.size ≤ 140737488355328) : Calls Tryd.prog 3 #[.int .i64 m, .string s] w fun e w' => e = .returned (.bool true) ∧ Below w.heap.size w w' := by
  have h0 := St.start w
  have HT : Hid (∀ V, St w [] V → LT V) := fun V h => hT.later h.below
  go_enter Tryd.func3, Tryd.ntmps3
  go_upto_region 2 with (go_at_call 4; (with_reducible refine (St.call h0 (sane_any _)).mono ?_); rintro e w2 ⟨rfl, h2⟩)
  clear h0
  go_wp2_with fail
  go_loopw [6, 7, 8] (fun v _ _ wr => ∃ k : Nat, k ≤ 16 ∧ v = .int .i64 k ∧ Hid (St w [] wr)) (fun v _ _ _ => 16 - (intOf v).toNat)
  case atStart => exact ⟨0, by omega, rfl, h2⟩
  case round =>
    obtain ⟨k, hk, rfl, HS⟩ := hrel
    have h3 := HS.out
    clear HS h2
    by_cases hlt : (k : Int) < 16
    · have hk16 : k < 16 := by omega
      have hnm : nmi (k : Int) = nb k := if_pos ⟨by omega, hlt⟩
      have HN : Hid (∀ V, LT V → Calls Tryd.prog 6 #[.int .i64 (k : Int)] V fun e w' => e = .returned (.string (nb k)) ∧ V = w') := fun V h => by
        have := name_any (k : Int) V h
        rw [hnm] at this; exact this
      have HR : Hid (∀ V, Calls Tryd.prog 7 #[.int .i64 (k : Int)] V fun e w' => e = .returned (.string (nb k)) ∧ Below V.heap.size V w') := fun V => by
        have := refName_any (k : Int) V
        rw [hnm] at this; exact this
      have HM : Hid (∀ V, LT V → Calls Tryd.prog 5 #[.string (nb k)] V fun e w' => e = .returned (.tuple #[.int .i64 (k : Int), .bool true]) ∧ V = w') := fun V h => by
        have := mode_any (nb k) V h
        rw [mdf_own k hk16] at this; exact this
      clear hnm
      generalize nb k = t at HN HR HM
      have hl3 := HT.out _ h3
      go_wp2_with (first
        | (go_at_call 6; (with_reducible refine (HN.out _ hl3).mono ?_); rintro e w4 ⟨rfl, rfl⟩)
        | (go_at_call 5; (with_reducible refine (HM.out _ hl3).mono ?_); rintro e w4 ⟨rfl, rfl⟩)
        | (go_at_call 7; (with_reducible refine (St.call h3 (HR.out _)).mono ?_); rintro e w4 ⟨rfl, h4⟩))
      go_roundw
      case rel => exact ⟨k + 1, by omega, by go_num, h4⟩
      case measure => simp [intOf]; omega
    · have hl3 := HT.out _ h3
      have HN : Hid (∀ V, LT V → Calls Tryd.prog 6 #[.int .i64 m] V fun e w' => e = .returned (.string (nmi m)) ∧ V = w') := fun V h => name_any m V h
      have HR : Hid (∀ V, Calls Tryd.prog 7 #[.int .i64 m] V fun e w' => e = .returned (.string (nmi m)) ∧ Below V.heap.size V w') := fun V => refName_any m V
      have HM : Hid (∀ V, LT V → Calls Tryd.prog 5 #[.string s] V fun e w' => e = .returned (.tuple #[.int .i64 (mdf s 16 0).1, .bool (mdf s 16 0).2]) ∧ V = w') := fun V h => mode_any s V h
      have HQ : Hid (∀ V, Calls Tryd.prog 8 #[.string s] V fun e w' => e = .returned (.tuple #[.int .i64 (mdf s 16 0).1, .bool (mdf s 16 0).2]) ∧ Below V.heap.size V w') := fun V => refMode_any s V
      generalize nmi m = t at HN HR
      generalize (mdf s 16 0).1 = q at HM HQ
      generalize (mdf s 16 0).2 = b at HM HQ
      go_upto_region 10 with (first
        | (go_at_call 5; (with_reducible refine (HM.out _ hl3).mono ?_); rintro e w4 ⟨rfl, rfl⟩)
        | (go_at_call 8; (with_reducible refine (St.call h3 (HQ.out _)).mono ?_); rintro e w4 ⟨rfl, h4⟩))
      have hl4 := HT.out _ h4
      go_wp2_with (first
        | (go_at_call 6; (with_reducible refine (HN.out _ hl4).mono ?_); rintro e w5 ⟨rfl, rfl⟩)
        | (go_at_call 7; (with_reducible refine (St.call h4 (HR.out _)).mono ?_); rintro e w5 ⟨rfl, h5⟩))
      go_ret
      exact ⟨rfl, h5.below⟩

set_option maxRecDepth 100000 in
theorem lifted (os : Os) (started : os.Started) (H : Type) (enc : TypeId × Value → H) :
    ReturnsInHanded {} Tryd.checked os 3 .any (fun w args => (Rows.pixelNamesSpec.pre enc Tryd.prog Tryd.f3 [] false w args ∧ laidMetH Tryd.prog laid1 w) ∧ sizedMet enc Tryd.prog Tryd.f3 (OpenSpec.ofChange Rows.pixelNamesSpec) false w args) (Rows.pixelNamesSpec.post enc Tryd.prog Tryd.f3 false true false false) := by
  refine returnsInHanded_of_change_and (C := Tryd.checked) (X := fun w _ => laidMetH Tryd.prog laid1 w) (fun _ _ _ hh h => h.of_heap hh) own started (by kernel_rfl) Tryd.func3
    (ChangeSpec.witness_shaped (enc := enc) (C := Tryd.checked) (os := os) (X := fun w _ => laidMetH Tryd.prog laid1 w) false (World.doorLaid Tryd.prog 400 os) #[.int .i64 0, .string ByteArray.empty] 8 rfl (World.shaped_of_RefB (by kernel_rfl) (by kernel_rfl)) (by kernel_rfl) (by kernel_rfl) (by kernel_rfl) (door_met os _)) ?_
  intro W base args ds gs before hval0 hW _ hsz0 hL _
  have hval : ∀ (j : Nat) t v, Tryd.f3.params[j]? = some t → args[j]? = some v → Value.okWide Tryd.prog W .any base t v := hval0
  have hsz : (DataW.weightsEach Tryd.prog (Tryd.f3.params.toList ++ Rows.pixelNamesSpec.plain.varTypes Tryd.prog) (ds ++ gs)).all (· ≤ reachBytes) = true := hsz0
  have hW' := hW
  obtain ⟨p, q, hA0, hV, rfl, hfz, hnd⟩ := hW
  have hA : DataW.TrodAll enc Tryd.prog W 0 (fun _ => true) true Tryd.f3.params.toList args.toList ds p := hA0
  rw [Tryd.params3] at hA hval hsz
  obtain ⟨v0, v1, d0, d1, p0, p1, rfl, rfl, rfl, h0, h1⟩ := trodAll_two hA
  obtain ⟨rfl, rfl⟩ := trodVars_none hV
  obtain ⟨m, rfl, rfl, rfl, wm⟩ := open_int Tryd.underlying3 (hval 0 3 v0 rfl rfl) h0
  obtain ⟨s, rfl, rfl, rfl, ws⟩ := open_string Tryd.underlying9 (hval 1 9 v1 rfl rfl) h1
  have hs : s.size ≤ 140737488355328 := by have h := sized_string hsz (j := 1) (t := 9) rfl rfl; rw [lenS] at h; exact Nat.le_trans h (by decide)
  refine (walk m s W (lt_of_laid hL) hs).mono fun e W' ⟨he, hb⟩ => ?_
  subst he
  exact ⟨_, rfl, law_post hW' rfl (by kernel_rfl) rfl (by intro t ht; rw [Tryd.params3] at ht; simp at ht; rcases ht with rfl | rfl <;> exact ⟨by kernel_rfl, of_decide_eq_true (by kernel_rfl)⟩) hb⟩

theorem holds : Rows.PixelNamesSaid :=
  OpenClaim.holds_of_wide 3 Tryd.f3 rfl rfl rfl rfl rfl rfl rfl ⟨rfl, rfl, rfl, rfl, rfl⟩ rfl rfl rfl rfl rfl (by kernel_rfl) Tryd.func3 (by kernel_rfl)
    (of_decide_eq_true (by kernel_rfl)) (by unfold Func.isWrapper; first | (rw [if_pos (by decide +kernel)]; kernel_rfl) | (rw [if_neg (by decide +kernel)]; exact ⟨rfl, rfl⟩))
    (fun os started H enc _ => lifted os started H enc)

theorem card_holds : Rows.PixelNamesCardSaid :=
  Claim7.holds_tied_plain_at .later [] [.data] true Rows.pixelNamesCard.stood.harness false
    holds (fun _ h => by cases h) (by kernel_rfl) (fun _ h => by cases h) pixelNames_row_tie rfl ⟨rfl, rfl⟩ (by kernel_rfl) rfl
    (fun f fn hf hfn => by
      obtain rfl : f = 3 := Option.some.inj ((show Tryd.prog.funcNamed Rows.pixelNamesRow.func = some 3 by kernel_rfl).symm.trans hf) |>.symm
      obtain rfl : fn = Tryd.f3 := (Option.some.inj (Tryd.func3.symm.trans hfn)).symm
      exact ⟨by kernel_rfl, fun j t ht => by
        rw [Tryd.params3] at ht
        have hm : t ∈ [3, 9] := by simpa using Array.mem_of_getElem? ht
        have hall : ([3, 9].all fun u => !Tryd.prog.wantsStandIn u) = true := by kernel_rfl
        exact (show Tryd.prog.wantsStandIn t = false by simpa using List.all_eq_true.1 hall t hm)⟩)
    (by kernel_rfl)
end Go.Proofs.YtfclbfliebdopaaDoor.LNames
