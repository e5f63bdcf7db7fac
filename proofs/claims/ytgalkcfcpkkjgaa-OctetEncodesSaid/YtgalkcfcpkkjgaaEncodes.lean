/-
  OctetEncodes: for all integers n and size and every string s, Put, Var, Text and Sum return what the reference returns. No conditions.
-/
import Derived.Test.YtgalkcfcpkkjgaaLaw
import Derived.Test.YtgalkcfcpkkjgaaSane
import Derived.Test.YtgalkcfcpkkjgaaTab
namespace Go.Proofs.Ytgalkcfcpkkjgaa.Encodes
open Go.ChangeShapes Go.WideShapes Go.ChangeAt Go.RowKit
open Go.ChangeMaps (open_string shut_string)

set_option maxHeartbeats 1000000 in
set_option maxRecDepth 100000 in
theorem walk (n z : Int) (s : ByteArray) (w : World) (hs : s.size ≤ 140737488351232) : Calls Try.prog 3 #[.int .i64 n, .int .i64 z, .string s] w fun e w' => e = .returned (.bool true) ∧ Below w.heap.size w w' := by
  have hs1 : s.size ≤ maxLen := by unfold maxLen; omega
  have hs2 : s.size ≤ 4611686018427387904 := by omega
  have H1 := Lib.hid hs1; clear hs1
  go_enter Try.func3, Try.ntmps3
  go_wp2_with (first
    | (go_at_call 13; (with_reducible refine (sane_any _).mono ?_); rintro e w' ⟨rfl, hb⟩)
    | (go_at_call 14; (with_reducible refine (Below.call (w0 := w) ?_ (put_any _ _ _)).mono ?_); (focus assumption); rintro e w' ⟨rfl, hb⟩)
    | (go_at_call 15; (with_reducible refine (Below.call (w0 := w) ?_ (refPut_any _ _ _)).mono ?_); (focus assumption); rintro e w' ⟨rfl, hb⟩)
    | (go_at_call 16; (with_reducible refine (Below.call (w0 := w) ?_ (var_any _ _)).mono ?_); (focus assumption); rintro e w' ⟨rfl, hb⟩)
    | (go_at_call 17; (with_reducible refine (Below.call (w0 := w) ?_ (refVar_any _ _)).mono ?_); (focus assumption); rintro e w' ⟨rfl, hb⟩)
    | (go_at_call 18; (with_reducible refine (Below.call (w0 := w) ?_ (text_any _ _ hs2)).mono ?_); (focus assumption); rintro e w' ⟨rfl, hb⟩)
    | (go_at_call 19; (with_reducible refine (Below.call (w0 := w) ?_ (refText_any _ _ hs2)).mono ?_); (focus assumption); rintro e w' ⟨rfl, hb⟩)
    | (go_at_call 20; (with_reducible refine (Below.call (w0 := w) ?_ (sum_any _ _ H1.out)).mono ?_); (focus assumption); rintro e w' ⟨rfl, hb⟩)
    | (go_at_call 21; (with_reducible refine (refSum_any _ _ H1.out).mono ?_); rintro e w' ⟨rfl, rfl⟩))
  go_ret
  exact ⟨rfl, by assumption⟩

set_option maxRecDepth 100000 in
theorem lifted (os : Os) (started : os.Started) (H : Type) (enc : TypeId × Value → H) :
    ReturnsInHanded {} Try.checked os 3 .any (Rows.octetEncodesSpec.pre6 enc Try.prog Try.f3 Rows.octetEncodesRow.domain false) (Rows.octetEncodesSpec.post enc Try.prog Try.f3 false true false false) := by
  refine returnsInHanded_of_change_sized (C := Try.checked) own started (by kernel_rfl) Try.func3
    (ChangeSpec.witness6 (enc := enc) (C := Try.checked) false ⟨#[], #[.int .i64 0, .int .i64 0, .string ByteArray.empty], []⟩ 8 (by kernel_rfl) (by kernel_rfl) (by kernel_rfl) (by kernel_rfl)) ?_
  intro W base args ds gs before hval0 hW _ hsz0 _
  have hval : ∀ (j : Nat) t v, Try.f3.params[j]? = some t → args[j]? = some v → Value.okWide Try.prog W .any base t v := hval0
  have hsz : (DataW.weightsEach Try.prog (Try.f3.params.toList ++ Rows.octetEncodesSpec.plain.varTypes Try.prog) (ds ++ gs)).all (· ≤ reachBytes) = true := hsz0
  have hW' := hW
  obtain ⟨p, q, hA0, hV, rfl, hfz, hnd⟩ := hW
  have hA : DataW.TrodAll enc Try.prog W 0 (fun _ => true) true Try.f3.params.toList args.toList ds p := hA0
  rw [Try.params3] at hA hval hsz
  obtain ⟨v0, v1, v2, d0, d1, d2, p0, p1, p2, rfl, rfl, rfl, h0, h1, h2⟩ := trodAll_three hA
  obtain ⟨rfl, rfl⟩ := trodVars_none hV
  obtain ⟨n, rfl, rfl, rfl, wn⟩ := open_int Try.underlying3 (hval 0 3 v0 rfl rfl) h0
  obtain ⟨z, rfl, rfl, rfl, wz⟩ := open_int Try.underlying3 (hval 1 3 v1 rfl rfl) h1
  obtain ⟨s, rfl, rfl, rfl, ws⟩ := open_string Try.underlying9 (hval 2 9 v2 rfl rfl) h2
  have hss : s.data.toList.length ≤ reachBytes := sized_string hsz (j := 2) (t := 9) rfl rfl
  have hs : s.size ≤ 140737488351232 := by rw [Array.length_toList] at hss; exact hss
  refine (walk n z s W hs).mono fun e W' ⟨he, hb⟩ => ?_
  subst he
  exact ⟨_, rfl, law_post hW' rfl (by kernel_rfl) rfl (by intro t ht; rw [Try.params3] at ht; simp at ht; rcases ht with rfl | rfl <;> exact ⟨by kernel_rfl, of_decide_eq_true (by kernel_rfl)⟩) hb⟩

theorem holds : Rows.OctetEncodesSaid :=
  OpenClaim.holds_of_wide 3 Try.f3 rfl rfl rfl rfl rfl rfl rfl ⟨rfl, rfl, rfl, rfl, rfl⟩ rfl rfl rfl rfl rfl (by kernel_rfl) Try.func3 (by kernel_rfl)
    (of_decide_eq_true (by kernel_rfl)) (by unfold Func.isWrapper; first | (rw [if_pos (by decide +kernel)]; kernel_rfl) | (rw [if_neg (by decide +kernel)]; exact ⟨rfl, rfl⟩))
    (fun os started H enc _ => lifted os started H enc)
end Go.Proofs.Ytgalkcfcpkkjgaa.Encodes
