/-
  DigestHexBack: for every valid digest, Parse inverts Hex, and the hexadecimal form consists of 64 digits from 0-9 and a-f. No conditions on the arguments; the table of round constants is as the program lays it (tied).
-/
import Derived.Test.YtcpbadldplpedaaDoorLaw
import Derived.Test.YtcpbadldplpedaaDoorSane
import Derived.Test.YtcpbadldplpedaaDoorValid
namespace Go.Proofs.YtcpbadldplpedaaDoor.LBack
open Go.ChangeShapes Go.WideShapes Go.ChangeAt Go.RowKit
open Go.ChangeMaps (open_string shut_string)
variable {W w w' : World}

set_option maxHeartbeats 1000000 in
set_option maxRecDepth 100000 in
theorem walk (s : ByteArray) (w : World) (hk : KT w) (hs : s.size ≤ 140737488355328) : Calls Tryd.prog 9 #[.string s] w fun e w' => e = .returned (.bool true) ∧ Below w.heap.size w w' := by
  have HS := Lib.hid hs; clear hs
  have HL : Hid ((validTo s.data.toList 32).length = 32) := validTo_len _ _
  go_enter Tryd.func9, Tryd.ntmps9
  go_upto_region 3 with (first
    | (go_at_call 13; (with_reducible refine (sane_any _ hk).mono ?_); rintro e w1 ⟨rfl, h1⟩)
    | (go_at_call 27; (with_reducible refine (Below.call (w0 := w) h1 (valid_any _ _ HS.out)).mono ?_); rintro e w2 ⟨rfl, h2⟩))
  generalize validTo s.data.toList 32 = D at HL ⊢
  have HHEX : Hid (∀ V, Calls Tryd.prog 24 #[.string (str D)] V fun e w' => e = .returned (.string (str (Sha.hexL D))) ∧ Below V.heap.size V w') := fun V => by
    have := hex_any (str D) V; rw [str_toList] at this; exact this
  have HPAR : Hid (∀ V, Calls Tryd.prog 22 #[.string (str (Sha.hexL D))] V fun e w' => e = .returned (.tuple #[.string (str D), .int .i64 0]) ∧ Below V.heap.size V w') := fun V => by
    have := parse_any (str (Sha.hexL D)) V
    unfold Sha.parD Sha.parE at this
    rw [str_toList, Sha.par_hex HL.out] at this; exact this
  have HZ : Hid ((str (Sha.hexL D)).size = 64) := by unfold Hid; rw [str_size]; exact Sha.hexL_len HL.out
  have HOK : Hid (∀ i, i < 64 → 0 ≤ Sha.nib ((Sha.hexL D).getD i 0)) := fun i hi => Sha.hexL_ok HL.out i hi
  go_upto_region 5 with (first
    | (go_at_call 24; (with_reducible refine (Below.call (w0 := w) h2 (HHEX.out _)).mono ?_); rintro e w3 ⟨rfl, h3⟩)
    | (go_at_call 22; (with_reducible refine (Below.call (w0 := w) h3 (HPAR.out _)).mono ?_); rintro e w4 ⟨rfl, h4⟩))
  clear h1 h2 h3 HHEX HPAR
  generalize Sha.hexL D = h at HZ HOK ⊢
  have hz : (str h).size ≤ 64 := Nat.le_of_eq HZ.out
  go_wp2_with fail
  go_loop [8] (fun i => ∃ k : Nat, k ≤ 64 ∧ i = .int .i64 k) (fun i => 64 - (intOf i).toNat)
  case atStart => exact ⟨0, Nat.zero_le _, rfl⟩
  case round =>
    obtain ⟨k, hk64, rfl⟩ := hrel
    by_cases hlt : k < (str h).size
    · have ix := fun w => idx_byt (b := str h) 9 Tryd.underlying9 k hlt (k : Int) rfl w
      have hc : Sha.byt (str h).data.toList k = (h.getD k 0).toNat := by rw [str_toList]; rfl
      rw [hc] at ix
      have hn := (Sha.nib_iff (h.getD k 0)).1 (HOK.out k (by have := HZ.out; omega))
      clear hc
      generalize (h.getD k 0).toNat = c at ix hn
      rcases hn with ⟨n1, n2⟩ | ⟨n1, n2⟩
      · have m1 : (48 : Int) ≤ c := by omega
        have m2 : (c : Int) ≤ 57 := by omega
        go_wp2_with fail
        go_round
        case rel => exact ⟨k + 1, by have := HZ.out; omega, by go_num⟩
        case measure => have := HZ.out; simp [intOf]; omega
      · have m1 : (48 : Int) ≤ c := by omega
        have m2 : ¬ (c : Int) ≤ 57 := by omega
        have m3 : (97 : Int) ≤ c := by omega
        have m4 : (c : Int) ≤ 102 := by omega
        go_wp2_with fail
        go_round
        case rel => exact ⟨k + 1, by have := HZ.out; omega, by go_num⟩
        case measure => have := HZ.out; simp [intOf]; omega
    · have hk2 : k = 64 := by have := HZ.out; omega
      have hy : ((str h).size : Int) = 64 := by have := HZ.out; omega
      go_wp2_with fail
      go_ret
      exact ⟨rfl, h4⟩

set_option maxRecDepth 100000 in
theorem lifted (os : Os) (started : os.Started) (H : Type) (enc : TypeId × Value → H) :
    ReturnsInHanded {} Tryd.checked os 9 .any (fun w args => (Rows.digestHexBackSpec.pre enc Tryd.prog Tryd.f9 [] false w args ∧ laidMetH Tryd.prog laid1 w) ∧ sizedMet enc Tryd.prog Tryd.f9 (OpenSpec.ofChange Rows.digestHexBackSpec) false w args) (Rows.digestHexBackSpec.post enc Tryd.prog Tryd.f9 false true false false) := by
  refine returnsInHanded_of_change_and (C := Tryd.checked) (X := fun w _ => laidMetH Tryd.prog laid1 w) (fun _ _ _ hh h => h.of_heap hh) own started (by kernel_rfl) Tryd.func9
    (ChangeSpec.witness_shaped (enc := enc) (C := Tryd.checked) (os := os) (X := fun w _ => laidMetH Tryd.prog laid1 w) false (World.doorLaid Tryd.prog 400 os) #[.string ByteArray.empty] 8 rfl (World.shaped_of_RefB (by kernel_rfl) (by kernel_rfl)) (by kernel_rfl) (by kernel_rfl) (by kernel_rfl) (door_met os _)) ?_
  intro W base args ds gs before hval0 hW _ hsz0 hL _
  have hval : ∀ (j : Nat) t v, Tryd.f9.params[j]? = some t → args[j]? = some v → Value.okWide Tryd.prog W .any base t v := hval0
  have hsz : (DataW.weightsEach Tryd.prog (Tryd.f9.params.toList ++ Rows.digestHexBackSpec.plain.varTypes Tryd.prog) (ds ++ gs)).all (· ≤ reachBytes) = true := hsz0
  have hW' := hW
  obtain ⟨p, q, hA0, hV, rfl, hfz, hnd⟩ := hW
  have hA : DataW.TrodAll enc Tryd.prog W 0 (fun _ => true) true Tryd.f9.params.toList args.toList ds p := hA0
  rw [Tryd.params9] at hA hval hsz
  obtain ⟨v0, d0, rfl, rfl, h0⟩ := trodAll_one hA
  obtain ⟨rfl, rfl⟩ := trodVars_none hV
  obtain ⟨s, rfl, rfl, rfl, ws⟩ := open_string Tryd.underlying9 (hval 0 9 v0 rfl rfl) h0
  have hs : s.size ≤ 140737488355328 := by have h := sized_string hsz (j := 0) (t := 9) rfl rfl; rw [lenS] at h; exact Nat.le_trans h (by decide)
  refine (walk s W (kt_of_laid hL) hs).mono fun e W' ⟨he, hb⟩ => ?_
  subst he
  exact ⟨_, rfl, law_post hW' rfl (by kernel_rfl) rfl (by intro t ht; rw [Tryd.params9] at ht; simp at ht; subst ht; exact ⟨by kernel_rfl, of_decide_eq_true (by kernel_rfl)⟩) hb⟩

theorem holds : Rows.DigestHexBackSaid :=
  OpenClaim.holds_of_wide 9 Tryd.f9 rfl rfl rfl rfl rfl rfl rfl ⟨rfl, rfl, rfl, rfl, rfl⟩ rfl rfl rfl rfl rfl (by kernel_rfl) Tryd.func9 (by kernel_rfl)
    (of_decide_eq_true (by kernel_rfl)) (by unfold Func.isWrapper; first | (rw [if_pos (by decide +kernel)]; kernel_rfl) | (rw [if_neg (by decide +kernel)]; exact ⟨rfl, rfl⟩))
    (fun os started H enc _ => lifted os started H enc)

theorem card_holds : Rows.DigestHexBackCardSaid :=
  Claim7.holds_tied_plain_at .later [] [.data] true Rows.digestHexBackCard.stood.harness false
    holds (fun _ h => by cases h) (by kernel_rfl) (fun _ h => by cases h) digestHexBack_row_tie rfl ⟨rfl, rfl⟩ (by kernel_rfl) rfl
    (fun f fn hf hfn => by
      obtain rfl : f = 9 := Option.some.inj ((show Tryd.prog.funcNamed Rows.digestHexBackRow.func = some 9 by kernel_rfl).symm.trans hf) |>.symm
      obtain rfl : fn = Tryd.f9 := (Option.some.inj (Tryd.func9.symm.trans hfn)).symm
      exact ⟨by kernel_rfl, fun j t ht => by
        rw [Tryd.params9] at ht
        have hm : t ∈ [9] := by simpa using Array.mem_of_getElem? ht
        have hall : ([9].all fun u => !Tryd.prog.wantsStandIn u) = true := by kernel_rfl
        exact (show Tryd.prog.wantsStandIn t = false by simpa using List.all_eq_true.1 hall t hm)⟩)
    (by kernel_rfl)
end Go.Proofs.YtcpbadldplpedaaDoor.LBack
