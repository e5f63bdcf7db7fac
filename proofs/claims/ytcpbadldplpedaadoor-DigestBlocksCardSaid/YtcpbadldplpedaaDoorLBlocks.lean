/-
  DigestBlocks: for every long string, Of returns what the reference returns. No conditions on the arguments; the table of round constants is as the program lays it (tied).
-/
import Derived.Test.YtcpbadldplpedaaDoorLaw
import Derived.Test.YtcpbadldplpedaaDoorSane
import Derived.Test.YtcpbadldplpedaaDoorRefOf
namespace Go.Proofs.YtcpbadldplpedaaDoor.LBlocks
open Go.ChangeShapes Go.WideShapes Go.ChangeAt Go.RowKit
open Go.ChangeMaps (open_string shut_string)
variable {W w w' : World}

set_option maxHeartbeats 1000000 in
set_option maxRecDepth 100000 in
theorem walk (s : ByteArray) (n : Int) (w : World) (hk : KT w) (hs : s.size ≤ 140737488355328) : Calls Tryd.prog 4 #[.string s, .int .i64 n] w fun e w' => e = .returned (.bool true) ∧ Below w.heap.size w w' := by
  have HS : Hid (s.size ≤ 9223372036854775807) := by unfold Hid; omega
  clear hs
  have HU : Hid (1 ≤ (str (s.data.toList.take 20) ++ ⟨#[46]⟩).size ∧ (str (s.data.toList.take 20) ++ ⟨#[46]⟩).size ≤ 21) := by
    unfold Hid; rw [ByteArray.size_append, str_size, List.length_take, show ByteArray.size ⟨#[46]⟩ = 1 from rfl]; omega
  have hu : (str (s.data.toList.take 20)).size ≤ 20 := by rw [str_size, List.length_take]; omega
  have hmask := i64_mask 16 (by omega) n
  obtain ⟨x, hx, hx2⟩ : ∃ x : Nat, bits .and .i64 n 65535 = (x : Int) ∧ x < 65536 := ⟨(n % 65536).toNat, by rw [show (65535 : Int) = ((2 ^ 16 - 1 : Nat) : Int) from rfl, hmask]; omega, by omega⟩
  clear hmask
  go_enter Tryd.func4, Tryd.ntmps4
  go_upto_region 5 with (first
    | (go_at_call 13; (with_reducible refine (sane_any _ hk).mono ?_); rintro e w' ⟨rfl, hb⟩)
    | (go_at_call 14; (with_reducible refine (some_20 _ _ HS.out).mono ?_); rintro e w' ⟨rfl, rfl⟩))
  clear hx hu
  generalize str (s.data.toList.take 20) ++ ⟨#[46]⟩ = U at HU ⊢
  obtain ⟨m, hm, hm2⟩ : ∃ m : Nat, (x : Int) % 1101 = (m : Int) ∧ m ≤ 1100 := ⟨x % 1101, by omega, by omega⟩
  rw [hm]
  clear hm hx2
  have hU1 : 1 ≤ U.size := HU.out.1
  have hU2 : U.size ≤ 21 := HU.out.2
  go_loop [6] (fun t => ∃ T : ByteArray, t = .string T ∧ T.size ≤ 1121) (fun t => match t with | .string T => 1200 - T.size | _ => 0)
  case atStart => exact ⟨_, rfl, by decide⟩
  case round =>
    obtain ⟨T, rfl, hT⟩ := hrel
    by_cases hlt : T.size < m
    · go_wp2
      go_round
      case rel => exact ⟨_, rfl, by rw [ByteArray.size_append]; omega⟩
      case measure => simp; omega
    · have hle : (m : Int) ≤ T.size := by omega
      have HZ : Hid ((T.extract 0 m).size ≤ 1000000) := by unfold Hid; rw [ByteArray.size_extract]; omega
      go_wp2_with (first
        | (go_at_call 15; (with_reducible refine (KT.call (w0 := w) hk ?_ (fun h => of_any _ _ h HZ.out)).mono ?_); (focus assumption); rintro e w' ⟨rfl, hb⟩)
        | (go_at_call 16; (with_reducible refine (Below.call (w0 := w) ?_ (refOf_any _ _ HZ.out)).mono ?_); (focus assumption); rintro e w' ⟨rfl, hb⟩))
      go_ret
      exact ⟨rfl, by assumption⟩

set_option maxRecDepth 100000 in
theorem lifted (os : Os) (started : os.Started) (H : Type) (enc : TypeId × Value → H) :
    ReturnsInHanded {} Tryd.checked os 4 .any (fun w args => (Rows.digestBlocksSpec.pre enc Tryd.prog Tryd.f4 [] false w args ∧ laidMetH Tryd.prog laid1 w) ∧ sizedMet enc Tryd.prog Tryd.f4 (OpenSpec.ofChange Rows.digestBlocksSpec) false w args) (Rows.digestBlocksSpec.post enc Tryd.prog Tryd.f4 false true false false) := by
  refine returnsInHanded_of_change_and (C := Tryd.checked) (X := fun w _ => laidMetH Tryd.prog laid1 w) (fun _ _ _ hh h => h.of_heap hh) own started (by kernel_rfl) Tryd.func4
    (ChangeSpec.witness_shaped (enc := enc) (C := Tryd.checked) (os := os) (X := fun w _ => laidMetH Tryd.prog laid1 w) false (World.doorLaid Tryd.prog 400 os) #[.string ByteArray.empty, .int .i64 0] 8 rfl (World.shaped_of_RefB (by kernel_rfl) (by kernel_rfl)) (by kernel_rfl) (by kernel_rfl) (by kernel_rfl) (door_met os _)) ?_
  intro W base args ds gs before hval0 hW _ hsz0 hL _
  have hval : ∀ (j : Nat) t v, Tryd.f4.params[j]? = some t → args[j]? = some v → Value.okWide Tryd.prog W .any base t v := hval0
  have hsz : (DataW.weightsEach Tryd.prog (Tryd.f4.params.toList ++ Rows.digestBlocksSpec.plain.varTypes Tryd.prog) (ds ++ gs)).all (· ≤ reachBytes) = true := hsz0
  have hW' := hW
  obtain ⟨p, q, hA0, hV, rfl, hfz, hnd⟩ := hW
  have hA : DataW.TrodAll enc Tryd.prog W 0 (fun _ => true) true Tryd.f4.params.toList args.toList ds p := hA0
  rw [Tryd.params4] at hA hval hsz
  obtain ⟨v0, v1, d0, d1, p0, p1, rfl, rfl, rfl, h0, h1⟩ := trodAll_two hA
  obtain ⟨rfl, rfl⟩ := trodVars_none hV
  obtain ⟨s, rfl, rfl, rfl, ws⟩ := open_string Tryd.underlying9 (hval 0 9 v0 rfl rfl) h0
  have hs : s.size ≤ 140737488355328 := by have h := sized_string hsz (j := 0) (t := 9) rfl rfl; rw [lenS] at h; exact Nat.le_trans h (by decide)
  obtain ⟨n, rfl, rfl, rfl, wn⟩ := open_int Tryd.underlying3 (hval 1 3 v1 rfl rfl) h1
  refine (walk s n W (kt_of_laid hL) hs).mono fun e W' ⟨he, hb⟩ => ?_
  subst he
  exact ⟨_, rfl, law_post hW' rfl (by kernel_rfl) rfl (by intro t ht; rw [Tryd.params4] at ht; simp at ht; rcases ht with rfl | rfl <;> exact ⟨by kernel_rfl, of_decide_eq_true (by kernel_rfl)⟩) hb⟩

theorem holds : Rows.DigestBlocksSaid :=
  OpenClaim.holds_of_wide 4 Tryd.f4 rfl rfl rfl rfl rfl rfl rfl ⟨rfl, rfl, rfl, rfl, rfl⟩ rfl rfl rfl rfl rfl (by kernel_rfl) Tryd.func4 (by kernel_rfl)
    (of_decide_eq_true (by kernel_rfl)) (by unfold Func.isWrapper; first | (rw [if_pos (by decide +kernel)]; kernel_rfl) | (rw [if_neg (by decide +kernel)]; exact ⟨rfl, rfl⟩))
    (fun os started H enc _ => lifted os started H enc)

theorem card_holds : Rows.DigestBlocksCardSaid :=
  Claim7.holds_tied_plain_at .later [] [.data] true Rows.digestBlocksCard.stood.harness false
    holds (fun _ h => by cases h) (by kernel_rfl) (fun _ h => by cases h) digestBlocks_row_tie rfl ⟨rfl, rfl⟩ (by kernel_rfl) rfl
    (fun f fn hf hfn => by
      obtain rfl : f = 4 := Option.some.inj ((show Tryd.prog.funcNamed Rows.digestBlocksRow.func = some 4 by kernel_rfl).symm.trans hf) |>.symm
      obtain rfl : fn = Tryd.f4 := (Option.some.inj (Tryd.func4.symm.trans hfn)).symm
      exact ⟨by kernel_rfl, fun j t ht => by
        rw [Tryd.params4] at ht
        have hm : t ∈ [9, 3] := by simpa using Array.mem_of_getElem? ht
        have hall : ([9, 3].all fun u => !Tryd.prog.wantsStandIn u) = true := by kernel_rfl
        exact (show Tryd.prog.wantsStandIn t = false by simpa using List.all_eq_true.1 hall t hm)⟩)
    (by kernel_rfl)
end Go.Proofs.YtcpbadldplpedaaDoor.LBlocks
