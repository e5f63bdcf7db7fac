/-
  OctetFails: after a call that asks for more bytes than remain, or for a negative number of bytes, every further call fails and the position does not change; a call that asks for available bytes does not fail. No conditions.
-/
import Derived.Test.YtgalkcfcpkkjgaaState
namespace Go.Proofs.Ytgalkcfcpkkjgaa.Fails
open Go.ChangeShapes Go.WideShapes Go.ChangeAt Go.RowKit
open Go.ChangeMaps (open_string shut_string)

theorem tmod_bd (n m : Int) (hm : 0 < m) : -m < n.tmod m ∧ n.tmod m < m := ⟨Int.lt_tmod_of_pos n hm, Int.tmod_lt_of_pos n hm⟩
theorem pick_at (n : Int) (z : Nat) (hz : z ≤ 140737488351232) : ∃ k : Nat, (wrap64 (wrap64 (n.tmod ((z : Int) + 1) + z) + 1)).tmod ((z : Int) + 1) = (k : Int) ∧ k ≤ z := by
  obtain ⟨h1, h2⟩ := tmod_bd n ((z : Int) + 1) (by omega)
  generalize n.tmod ((z : Int) + 1) = r at h1 h2
  rw [IntWalk.wrap64_in (r + z) ⟨by omega, by omega⟩, IntWalk.wrap64_in (r + z + 1) ⟨by omega, by omega⟩, Int.tmod_eq_emod_of_nonneg (by omega)]
  have h3 := Int.emod_nonneg (r + z + 1) (show (z : Int) + 1 ≠ 0 by omega)
  have h4 := Int.emod_lt_of_pos (r + z + 1) (show (0 : Int) < (z : Int) + 1 by omega)
  exact ⟨((r + z + 1) % ((z : Int) + 1)).toNat, by omega, by omega⟩
theorem mask16 (n : Int) : ∃ m : Nat, bits .and .i64 n 65535 = (m : Int) ∧ m < 65536 := by
  have h65 : (BitVec.ofInt 64 65535).toNat = 2 ^ 16 - 1 := by decide
  have key : (BitVec.ofInt 64 n &&& BitVec.ofInt 64 65535).toNat = (n % ((2 ^ 64 : Nat) : Int)).toNat % 2 ^ 16 := by
    rw [BitVec.toNat_and, BitVec.toNat_ofInt, h65, Nat.and_two_pow_sub_one_eq_mod]
  refine ⟨(n % ((2 ^ 64 : Nat) : Int)).toNat % 2 ^ 16, ?_, Nat.mod_lt _ (by decide)⟩
  show IntKind.i64.wrap ((BitVec.ofInt 64 n &&& BitVec.ofInt 64 65535).toNat : Nat) = _
  rw [key]
  exact IntWalk.i64_in _ ⟨by omega, by omega⟩

set_option maxHeartbeats 2000000 in
set_option maxRecDepth 100000 in
theorem walk (s : ByteArray) (n more : Int) (w : World) (hs : s.size ≤ 140737488351232) :
    Calls Try.prog 9 #[.string s, .int .i64 n, .int .i64 more] w fun e w' => e = .returned (.bool true) ∧ Below w.heap.size w w' := by
  obtain ⟨k, hk, hks⟩ := pick_at n s.size hs
  obtain ⟨m, hm, hm16⟩ := mask16 more
  have hs' : s.size ≤ 9223372036854775807 := by omega
  have e0 : s.data.toList.length = s.size := lenS s
  have t1 : tk s.data.toList 0 false (k : Int) = ((s.data.toList.drop 0).take k, 0 + k, false) := tk_ok k (by rw [e0]; omega)
  rw [List.drop_zero, Nat.zero_add] at t1
  have t2 : tk s.data.toList k false ((s.size : Int) - k + 1 + m) = ([], k, true) := tk_big (by rw [e0]; omega)
  have t3 : tk s.data.toList k true 0 = ([], k, true) := tk_done _ _ _
  have t4 : nm s.data.toList k true 0 = (0, k, true) := nm_done _ _ _
  have t5 : tx s.data.toList k true = ([], k, true) := tx_done _ _
  have t6 : vr s.data.toList k true = (0, k, true) := vr_done _ _
  have t7 : tk s.data.toList 0 false (-1 - (m : Int)) = ([], 0, true) := tk_neg (by omega)
  have hcut : ((str (s.data.toList.take k)).toList == (s.extract 0 k).toList) = true := by
    have h := extract_str s 0 k
    rw [Nat.zero_add, List.drop_zero] at h; rw [h]; simp
  have hk0 : (0 : Int) ≤ k := by omega
  have hk1 : (k : Int) ≤ s.size := by omega
  have T1 := Lib.hid t1; have T2 := Lib.hid t2; have T3 := Lib.hid t3; have T4 := Lib.hid t4; have T5 := Lib.hid t5; have T6 := Lib.hid t6; have T7 := Lib.hid t7
  clear t1 t2 t3 t4 t5 t6 t7 e0
  go_enter Try.func9, Try.ntmps9
  go_wp2_with (first
    | (go_at_call 13; (with_reducible refine (sane_any _).mono ?_); rintro e w1 ⟨rfl, hb⟩)
    | (go_at_call 22; (with_reducible refine (RSt.read (W := w) ?_ s hs').mono ?_); (focus assumption); rintro e w2 ⟨rfl, hr, hbr⟩))
  clear hb hbr
  generalize w1.heap.size = g at hr ⊢
  go_wp2_with (first
    | (go_at_call 29; (with_reducible refine (RSt.take (W := w) ?_ T1.out).mono ?_); (focus assumption); rintro e w' ⟨rfl, hr', hg'⟩)
    | (go_at_call 29; (with_reducible refine (RSt.take (W := w) ?_ T2.out).mono ?_); (focus assumption); rintro e w' ⟨rfl, hr', hg'⟩)
    | (go_at_call 29; (with_reducible refine (RSt.take (W := w) ?_ T3.out).mono ?_); (focus assumption); rintro e w' ⟨rfl, hr', hg'⟩)
    | (go_at_call 23; (with_reducible refine (RSt.num (W := w) ?_ T4.out).mono ?_); (focus assumption); rintro e w' ⟨rfl, hr', hg'⟩)
    | (go_at_call 27; (with_reducible refine (RSt.text (W := w) ?_ T5.out).mono ?_); (focus assumption); rintro e w' ⟨rfl, hr', hg'⟩)
    | (go_at_call 25; (with_reducible refine (RSt.var (W := w) ?_ T6.out).mono ?_); (focus assumption); rintro e w6 ⟨rfl, hr6, hg'⟩)
    | (go_at_call 33; (with_reducible refine (RSt.failed (W := w) (by assumption)).mono ?_); rintro e w' ⟨rfl, rfl⟩)
    | (go_at_call 31; (with_reducible refine (RSt.pos (W := w) (by assumption)).mono ?_); rintro e w' ⟨rfl, rfl⟩))
  have hg0 := hr6.lt
  have hnil : (str []).toList = [] := by rw [ByteArray.toList_eq, str_toList]
  go_wp2_with (go_at_call 22; (with_reducible refine (RSt.read (W := w) hr6.below s hs').mono ?_); rintro e w7 ⟨rfl, hq, hbq⟩)
  have hr7 := hr6.later hbq
  have hne : g ≠ w6.heap.size := by omega
  have hge : w.heap.size ≤ w6.heap.size := hr6.below.size
  generalize w6.heap.size = g2 at hq hne hge ⊢
  go_wp2_with (go_at_call 29; (with_reducible refine (RSt.take (W := w) hq T7.out).mono ?_); rintro e w8 ⟨rfl, hq8, hg8⟩)
  have hr8 := hr7.other hg8 hne hge
  clear hr hr6 hr7 hq hbq
  go_wp2_with (first
    | (go_at_call 33; (with_reducible refine (RSt.failed (W := w) (by assumption)).mono ?_); rintro e w' ⟨rfl, rfl⟩)
    | (go_at_call 31; (with_reducible refine (RSt.pos (W := w) (by assumption)).mono ?_); rintro e w' ⟨rfl, rfl⟩)
    | (go_at_call 32; (with_reducible refine (RSt.left (W := w) (by assumption)).mono ?_); rintro e w' ⟨rfl, nd, rfl⟩; have hr9 := hr8.drewN nd; have hq9 := hq8.drewN nd))
  go_ret
  exact ⟨rfl, hr9.below⟩

set_option maxRecDepth 100000 in
theorem lifted (os : Os) (started : os.Started) (H : Type) (enc : TypeId × Value → H) :
    ReturnsInHanded {} Try.checked os 9 .any (Rows.octetFailsSpec.pre6 enc Try.prog Try.f9 Rows.octetFailsRow.domain false) (Rows.octetFailsSpec.post enc Try.prog Try.f9 false true false false) := by
  refine returnsInHanded_of_change_sized (C := Try.checked) own started (by kernel_rfl) Try.func9
    (ChangeSpec.witness6 (enc := enc) (C := Try.checked) false ⟨#[], #[.string ByteArray.empty, .int .i64 0, .int .i64 0], []⟩ 8 (by kernel_rfl) (by kernel_rfl) (by kernel_rfl) (by kernel_rfl)) ?_
  intro W base args ds gs before hval0 hW _ hsz0 _
  have hval : ∀ (j : Nat) t v, Try.f9.params[j]? = some t → args[j]? = some v → Value.okWide Try.prog W .any base t v := hval0
  have hsz : (DataW.weightsEach Try.prog (Try.f9.params.toList ++ Rows.octetFailsSpec.plain.varTypes Try.prog) (ds ++ gs)).all (· ≤ reachBytes) = true := hsz0
  have hW' := hW
  obtain ⟨p, q, hA0, hV, rfl, hfz, hnd⟩ := hW
  have hA : DataW.TrodAll enc Try.prog W 0 (fun _ => true) true Try.f9.params.toList args.toList ds p := hA0
  rw [Try.params9] at hA hval hsz
  obtain ⟨v0, v1, v2, d0, d1, d2, p0, p1, p2, rfl, rfl, rfl, h0, h1, h2⟩ := trodAll_three hA
  obtain ⟨rfl, rfl⟩ := trodVars_none hV
  obtain ⟨s, rfl, rfl, rfl, ws⟩ := open_string Try.underlying9 (hval 0 9 v0 rfl rfl) h0
  obtain ⟨n, rfl, rfl, rfl, wn⟩ := open_int Try.underlying3 (hval 1 3 v1 rfl rfl) h1
  obtain ⟨m, rfl, rfl, rfl, wm⟩ := open_int Try.underlying3 (hval 2 3 v2 rfl rfl) h2
  have hss : s.data.toList.length ≤ reachBytes := sized_string hsz (j := 0) (t := 9) rfl rfl
  rw [Array.length_toList] at hss
  refine (walk s n m W hss).mono fun e W' ⟨he, hb⟩ => ?_
  subst he
  exact ⟨_, rfl, law_post hW' rfl (by kernel_rfl) rfl (by intro t ht; rw [Try.params9] at ht; simp at ht; rcases ht with rfl | rfl <;> exact ⟨by kernel_rfl, of_decide_eq_true (by kernel_rfl)⟩) hb⟩

theorem holds : Rows.OctetFailsSaid :=
  OpenClaim.holds_of_wide 9 Try.f9 rfl rfl rfl rfl rfl rfl rfl ⟨rfl, rfl, rfl, rfl, rfl⟩ rfl rfl rfl rfl rfl (by kernel_rfl) Try.func9 (by kernel_rfl)
    (of_decide_eq_true (by kernel_rfl)) (by unfold Func.isWrapper; first | (rw [if_pos (by decide +kernel)]; kernel_rfl) | (rw [if_neg (by decide +kernel)]; exact ⟨rfl, rfl⟩))
    (fun os started H enc _ => lifted os started H enc)
end Go.Proofs.Ytgalkcfcpkkjgaa.Fails
