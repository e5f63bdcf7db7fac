/-
  DigestJoin: for every list of strings, Join returns what the reference returns. No conditions on the arguments; the table of round constants is as the program lays it (tied).
-/
import Derived.Test.YtcpbadldplpedaaDoorLaw
import Derived.Test.YtcpbadldplpedaaDoorSane
import Derived.Test.YtcpbadldplpedaaDoorRefJoin
namespace Go.Proofs.YtcpbadldplpedaaDoor.LJoin
open Go.ChangeShapes Go.WideShapes Go.ChangeAt Go.RowKit
open Go.ChangeMaps (open_string shut_string)
variable {W w w' : World}

set_option maxHeartbeats 1000000 in
set_option maxRecDepth 100000 in
theorem walk (a : List ByteArray) (po : Option Addr) (n c : Nat) (w : World) (hk : KT w) (ha : Args w po n a) : Calls Tryd.prog 5 #[.slice po n c] w fun e w' => e = .returned (.bool true) ∧ Below w.heap.size w w' := by
  have HA := Lib.hid ha; clear ha
  have HP : Hid ((pre (fewL a n)).length ≤ 1000000) := by have := pre_few a n; unfold Hid; omega
  go_enter Tryd.func5, Tryd.ntmps5
  go_upto_region 3 with (first
    | (go_at_call 13; (with_reducible refine (sane_any _ hk).mono ?_); rintro e w1 ⟨rfl, h1⟩)
    | (go_at_call 17; (with_reducible refine (list_any a _ _ _ _ (HA.out.later h1)).mono ?_); rintro e w2 ⟨v, rfl, h2, b2⟩))
  have HB : Hid (Below w.heap.size w w2) := h1.trans (b2.mono h1.size)
  have HV := Lib.hid h2.strs
  have hk2 := hk.later HB.out
  clear h2 b2 h1
  have hb := Below.refl w2.heap.size w2
  go_wp2_with (first
    | (go_at_call 18; (with_reducible refine (KT.call (w0 := w2) hk2 ?_ (fun h => join_any _ _ _ h (HV.out.later (by assumption)) HP.out)).mono ?_); (focus assumption); rintro e w3 ⟨rfl, hb3⟩)
    | (go_at_call 19; (with_reducible refine (Below.call (w0 := w2) ?_ (refJoin_any _ _ _ (HV.out.later (by assumption)) HP.out)).mono ?_); (focus assumption); rintro e w4 ⟨rfl, hb4⟩))
  go_ret
  exact ⟨rfl, HB.out.trans (hb4.mono HB.out.size)⟩

set_option maxRecDepth 100000 in
theorem lifted (os : Os) (started : os.Started) (H : Type) (enc : TypeId × Value → H) :
    ReturnsInHanded {} Tryd.checked os 5 .any (fun w args => (Rows.digestJoinSpec.pre enc Tryd.prog Tryd.f5 [] false w args ∧ laidMetH Tryd.prog laid1 w) ∧ sizedMet enc Tryd.prog Tryd.f5 (OpenSpec.ofChange Rows.digestJoinSpec) false w args) (Rows.digestJoinSpec.post enc Tryd.prog Tryd.f5 false true false false) := by
  refine returnsInHanded_of_change_and (C := Tryd.checked) (X := fun w _ => laidMetH Tryd.prog laid1 w) (fun _ _ _ hh h => h.of_heap hh) own started (by kernel_rfl) Tryd.func5
    (ChangeSpec.witness_shaped (enc := enc) (C := Tryd.checked) (os := os) (X := fun w _ => laidMetH Tryd.prog laid1 w) false (World.doorLaid Tryd.prog 400 os) #[.slice none 0 0] 8 rfl (World.shaped_of_RefB (by kernel_rfl) (by kernel_rfl)) (by kernel_rfl) (by kernel_rfl) (by kernel_rfl) (door_met os _)) ?_
  intro W base args ds gs before hval0 hW _ hsz0 hL _
  have hval : ∀ (j : Nat) t v, Tryd.f5.params[j]? = some t → args[j]? = some v → Value.okWide Tryd.prog W .any base t v := hval0
  have hsz : (DataW.weightsEach Tryd.prog (Tryd.f5.params.toList ++ Rows.digestJoinSpec.plain.varTypes Tryd.prog) (ds ++ gs)).all (· ≤ reachBytes) = true := hsz0
  have hW' := hW
  obtain ⟨p, q, hA0, hV, rfl, hfz, hnd⟩ := hW
  have hA : DataW.TrodAll enc Tryd.prog W 0 (fun _ => true) true Tryd.f5.params.toList args.toList ds p := hA0
  rw [Tryd.params5] at hA hval hsz
  obtain ⟨v0, d0, rfl, rfl, h0⟩ := trodAll_one hA
  obtain ⟨rfl, rfl⟩ := trodVars_none hV
  obtain ⟨poa, na, ca, a, rfl, ha⟩ := opened_strings (hval 0 28 v0 rfl rfl) h0
  refine (walk a poa na ca W (kt_of_laid hL) ha).mono fun e W' ⟨he, hb⟩ => ?_
  subst he
  exact ⟨_, rfl, law_post hW' rfl (by kernel_rfl) rfl (by intro t ht; rw [Tryd.params5] at ht; simp at ht; subst ht; exact ⟨by kernel_rfl, of_decide_eq_true (by kernel_rfl)⟩) hb⟩

theorem holds : Rows.DigestJoinSaid :=
  OpenClaim.holds_of_wide 5 Tryd.f5 rfl rfl rfl rfl rfl rfl rfl ⟨rfl, rfl, rfl, rfl, rfl⟩ rfl rfl rfl rfl rfl (by kernel_rfl) Tryd.func5 (by kernel_rfl)
    (of_decide_eq_true (by kernel_rfl)) (by unfold Func.isWrapper; first | (rw [if_pos (by decide +kernel)]; kernel_rfl) | (rw [if_neg (by decide +kernel)]; exact ⟨rfl, rfl⟩))
    (fun os started H enc _ => lifted os started H enc)

theorem card_holds : Rows.DigestJoinCardSaid :=
  Claim7.holds_tied_plain_at .later [] [.data] true Rows.digestJoinCard.stood.harness false
    holds (fun _ h => by cases h) (by kernel_rfl) (fun _ h => by cases h) digestJoin_row_tie rfl ⟨rfl, rfl⟩ (by kernel_rfl) rfl
    (fun f fn hf hfn => by
      obtain rfl : f = 5 := Option.some.inj ((show Tryd.prog.funcNamed Rows.digestJoinRow.func = some 5 by kernel_rfl).symm.trans hf) |>.symm
      obtain rfl : fn = Tryd.f5 := (Option.some.inj (Tryd.func5.symm.trans hfn)).symm
      exact ⟨by kernel_rfl, fun j t ht => by
        rw [Tryd.params5] at ht
        have hm : t ∈ [28] := by simpa using Array.mem_of_getElem? ht
        have hall : ([28].all fun u => !Tryd.prog.wantsStandIn u) = true := by kernel_rfl
        exact (show Tryd.prog.wantsStandIn t = false by simpa using List.all_eq_true.1 hall t hm)⟩)
    (by kernel_rfl)
end Go.Proofs.YtcpbadldplpedaaDoor.LJoin
