/-
  CoderBits: Bytes returns what the reference returns after every bit, and calling it changes nothing (at most 400 bits).
-/
import Derived.Test.YtbfnahclkajahaaCLaw
import Derived.Test.YtbfnahclkajahaaCLoop
namespace Go.Proofs.Ytbfnahclkajahaa.C.CLBits
open Go.ChangeShapes Go.WideShapes Go.ChangeAt Go.RowKit Go.Shelf
open Go.ChangeMaps (open_string)
set_option maxRecDepth 100000


set_option maxHeartbeats 8000000 in
set_option maxRecDepth 100000 in
theorem walk (po : Option Addr) (n c : Nat) (f : Nat → Int × Int) (w : World) (_hn : n ≤ 9223372036854775807) (hI : ∀ i, i < n → BitAt w po i (f i).1 (f i).2) : Calls Try.prog 6 #[.slice po n c] w fun e w' => e = .returned (.bool true) ∧ Below w.heap.size w w' := by
  have h0 := HS.start w
  have HI := Lib.hid hI
  clear hI
  go_enter Try.func6, Try.ntmps6
  go_wp2_with (first
    | (go_at_call 13; (with_reducible refine (h0.call (sanity_any _)).mono ?_); rintro e w1 ⟨rfl, h1⟩)
    | (go_at_call 19; (with_reducible refine (newW_any _ h1).mono ?_); rintro e w2 ⟨b, rfl, h2⟩)
    | (go_at_call 20; (with_reducible refine (rnewW_any _ h2).mono ?_); rintro e w3 ⟨b2, rfl, h3⟩))
  have H3 : Hid (SF wob rwob w [] f f b 0 b2 0 w3) := Lib.hid (SF.newRef h3).swap
  clear h0 h1 h2 h3
  go_loopw [6] (fun i V => ∃ k : Nat, k ≤ 400 ∧ i = .int .i64 (k : Int) ∧ Hid (SF wob rwob w [] f f b k b2 k V)) (fun i _ => 400 - (intOf i).toNat)
  case atStart => exact ⟨0, by omega, rfl, H3⟩
  case round =>
    obtain ⟨k, hk, rfl, HT⟩ := hrel
    clear H3
    by_cases h1 : k < n
    · by_cases h2 : k < 400
      · obtain ⟨bl, off, rfl, hbi⟩ := (HI.out k h1).at
        have hfk : f k = ((f k).1, (f k).2) := rfl
        have HBI := Lib.hid hbi
        have HFK := Lib.hid hfk
        clear hbi hfk
        generalize (f k).1 = x at *
        generalize (f k).2 = y at *
        go_upto_region 9 with fail
        have hd := HT.out.drew
        obtain ⟨hcx, hcy⟩ := HBI.out _ hd.below
        go_still_tail 11, (by kernel_rfl)
        change wpList _ _ _ _ _ wr.drew
        have HD := Lib.hid hd
        clear hd
        generalize wr.drew = w4 at *
        go_upto_region 10 with (go_at_call 21; refine (SF.bit HFK.out (by omega) HD.out).mono ?_; rintro e w5 ⟨rfl, h5⟩; have H5 := Lib.hid h5; clear h5)
        clear hcx hcy
        have hd := H5.out.drew
        obtain ⟨hcx, hcy⟩ := HBI.out _ hd.below
        go_still_tail 11, (by kernel_rfl)
        change wpList _ _ _ _ _ w5.drew
        have HD2 := Lib.hid hd
        clear hd
        generalize w5.drew = w6 at *
        have hq : ((str (yb f (k + 1))).toList == (str (yb f (k + 1))).toList) = true := beq_self_eq_true _
        have HBY : Hid (∀ V, SF wob rwob w [] f f b (k + 1) b2 (k + 1) V → Calls Try.prog 23 #[.pointer (some ⟨b, 0, none⟩)] V fun e w' => e = .returned (.string (str (yb f (k + 1)))) ∧ SF wob rwob w [] f f b (k + 1) b2 (k + 1) w') := fun V hV => hV.bytes (by omega)
        have HBZ : Hid (∀ V, SF wob rwob w [] f f b (k + 1) b2 (k + 1) V → Calls Try.prog 24 #[.pointer (some ⟨b2, 0, none⟩)] V fun e w' => e = .returned (.string (str (yb f (k + 1)))) ∧ SF wob rwob w [] f f b (k + 1) b2 (k + 1) w') := fun V hV => (hV.swap.refBytes (by omega)).mono fun e w' ⟨h1, h2⟩ => ⟨h1, h2.swap⟩
        generalize str (yb f (k + 1)) = z at *
        go_wp2_with (first
          | (go_at_call 22; refine (SF.refBit HFK.out (by omega) HD2.out.swap).mono ?_; rintro e w7 ⟨rfl, h7⟩; have H7 := Lib.hid h7.swap; clear h7)
          | (go_at_call 23; refine (HBY.out _ H7.out).mono ?_; rintro e w8 ⟨rfl, h8⟩; have H8 := Lib.hid h8; clear h8)
          | (go_at_call 24; refine (HBZ.out _ H8.out).mono ?_; rintro e w9 ⟨rfl, h9⟩; have H9 := Lib.hid h9; clear h9))
        go_roundw
        case rel => exact ⟨k + 1, by omega, by go_num, H9⟩
        case measure => simp [intOf]; omega
      · have hq : ((str (yb f k)).toList == (str (yb f k)).toList) = true := beq_self_eq_true _
        have HBY : Hid (∀ V, SF wob rwob w [] f f b k b2 k V → Calls Try.prog 23 #[.pointer (some ⟨b, 0, none⟩)] V fun e w' => e = .returned (.string (str (yb f k))) ∧ SF wob rwob w [] f f b k b2 k w') := fun V hV => hV.bytes (by omega)
        have HBZ : Hid (∀ V, SF wob rwob w [] f f b k b2 k V → Calls Try.prog 24 #[.pointer (some ⟨b2, 0, none⟩)] V fun e w' => e = .returned (.string (str (yb f k))) ∧ SF wob rwob w [] f f b k b2 k w') := fun V hV => (hV.swap.refBytes (by omega)).mono fun e w' ⟨h1, h2⟩ => ⟨h1, h2.swap⟩
        generalize str (yb f k) = z at *
        go_wp2_with (first
          | (go_at_call 23; refine (HBY.out _ HT.out).mono ?_; rintro e w8 ⟨rfl, h8⟩; have H8 := Lib.hid h8; clear h8)
          | (go_at_call 24; refine (HBZ.out _ H8.out).mono ?_; rintro e w9 ⟨rfl, h9⟩; have H9 := Lib.hid h9; clear h9))
        go_ret
        exact ⟨rfl, H9.out.below⟩
    · have hq : ((str (yb f k)).toList == (str (yb f k)).toList) = true := beq_self_eq_true _
      have HBY : Hid (∀ V, SF wob rwob w [] f f b k b2 k V → Calls Try.prog 23 #[.pointer (some ⟨b, 0, none⟩)] V fun e w' => e = .returned (.string (str (yb f k))) ∧ SF wob rwob w [] f f b k b2 k w') := fun V hV => hV.bytes (by omega)
      have HBZ : Hid (∀ V, SF wob rwob w [] f f b k b2 k V → Calls Try.prog 24 #[.pointer (some ⟨b2, 0, none⟩)] V fun e w' => e = .returned (.string (str (yb f k))) ∧ SF wob rwob w [] f f b k b2 k w') := fun V hV => (hV.swap.refBytes (by omega)).mono fun e w' ⟨h1, h2⟩ => ⟨h1, h2.swap⟩
      generalize str (yb f k) = z at *
      go_wp2_with (first
        | (go_at_call 23; refine (HBY.out _ HT.out).mono ?_; rintro e w8 ⟨rfl, h8⟩; have H8 := Lib.hid h8; clear h8)
        | (go_at_call 24; refine (HBZ.out _ H8.out).mono ?_; rintro e w9 ⟨rfl, h9⟩; have H9 := Lib.hid h9; clear h9))
      go_ret
      exact ⟨rfl, H9.out.below⟩
theorem lifted (os : Os) (started : os.Started) (H : Type) (enc : TypeId × Value → H) :
    ReturnsInHanded {} Try.checked os 6 .any (Rows.coderBitsSpec.pre6 enc Try.prog Try.f6 Rows.coderBitsRow.domain false) (Rows.coderBitsSpec.post enc Try.prog Try.f6 false true false false) := by
  refine returnsInHanded_of_change_sized (C := Try.checked) own started (by kernel_rfl) Try.func6
    (ChangeSpec.witness6 (enc := enc) (C := Try.checked) false ⟨#[], #[.slice none 0 0], []⟩ 8 (by kernel_rfl) (by kernel_rfl) (by kernel_rfl) (by kernel_rfl)) ?_
  intro W base args ds gs before hval0 hW _ _ _
  have hval : ∀ (j : Nat) t v, Try.f6.params[j]? = some t → args[j]? = some v → Value.okWide Try.prog W .any base t v := hval0
  have hW' := hW
  obtain ⟨p, q, hA0, hV, rfl, hfz, hnd⟩ := hW
  have hA : DataW.TrodAll enc Try.prog W 0 (fun _ => true) true Try.f6.params.toList args.toList ds p := hA0
  rw [Try.params6] at hA hval
  obtain ⟨v0, d0, rfl, rfl, h0⟩ := trodAll_one hA
  obtain ⟨rfl, rfl⟩ := trodVars_none hV
  obtain ⟨po, n, c, f, rfl, hn, hI⟩ := opened_bits (hval 0 36 v0 rfl rfl) h0
  refine (walk po n c f W hn hI).mono fun e W' ⟨he, hb⟩ => ?_
  subst he
  exact ⟨_, rfl, law_post hW' rfl (by kernel_rfl) rfl (by intro t ht; rw [Try.params6] at ht; simp at ht; subst ht; exact ⟨by kernel_rfl, of_decide_eq_true (by kernel_rfl)⟩) hb⟩

theorem holds : Rows.CoderBitsSaid :=
  OpenClaim.holds_of_wide 6 Try.f6 rfl rfl rfl rfl rfl rfl rfl ⟨rfl, rfl, rfl, rfl, rfl⟩ rfl rfl rfl rfl rfl (by kernel_rfl) Try.func6 (by kernel_rfl)
    (of_decide_eq_true (by kernel_rfl)) (by unfold Func.isWrapper; first | (rw [if_pos (by decide +kernel)]; kernel_rfl) | (rw [if_neg (by decide +kernel)]; exact ⟨rfl, rfl⟩))
    (fun os started H enc _ => lifted os started H enc)
end Go.Proofs.Ytbfnahclkajahaa.C.CLBits
