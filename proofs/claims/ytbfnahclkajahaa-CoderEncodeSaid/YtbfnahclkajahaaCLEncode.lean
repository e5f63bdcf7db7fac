/-
  CoderEncode: Encode returns what the reference returns, for every string (truncated to 300 bytes).
-/
import Derived.Test.YtbfnahclkajahaaCLaw
namespace Go.Proofs.Ytbfnahclkajahaa.C.CLEncode
open Go.ChangeShapes Go.WideShapes Go.ChangeAt Go.RowKit Go.Shelf
open Go.ChangeMaps (open_string)
set_option maxRecDepth 100000


set_option maxHeartbeats 8000000 in
set_option maxRecDepth 100000 in
theorem walk (s : ByteArray) (w : World) (hs : s.size ≤ 140737488355328) : Calls Try.prog 3 #[.string s] w fun e w' => e = .returned (.bool true) ∧ Below w.heap.size w w' := by
  have h0 := HS.start w
  have HSO : Hid (∀ V, Calls Try.prog 14 #[.string s, .int .i64 300] V fun e w' => e = .returned (.string (hd s 300)) ∧ V = w') := fun V => some_any s 300 V hs (by omega)
  have HE : Hid (∀ V, Calls Try.prog 15 #[.string (hd s 300)] V fun e w' => e = .returned (.string (str (enc (hd s 300).data.toList))) ∧ Below V.heap.size V w') := fun V => encode_any _ V (by have := hd_size s 300; omega)
  have HR : Hid (∀ V, Calls Try.prog 16 #[.string (hd s 300)] V fun e w' => e = .returned (.string (str (enc (hd s 300).data.toList))) ∧ Below V.heap.size V w') := fun V => rencode_any _ V (by have := hd_size s 300; omega)
  generalize str (enc (hd s 300).data.toList) = y at *
  generalize hd s 300 = t at *
  go_enter Try.func3, Try.ntmps3
  go_wp2_with (first
    | (go_at_call 13; (with_reducible refine (h0.call (sanity_any _)).mono ?_); rintro e w1 ⟨rfl, h1⟩)
    | (go_at_call 14; (with_reducible refine (HSO.out _).mono ?_); rintro e w2 ⟨rfl, rfl⟩)
    | (go_at_call 15; (with_reducible refine (h1.call (HE.out _)).mono ?_); rintro e w3 ⟨rfl, h3⟩)
    | (go_at_call 16; (with_reducible refine (h3.call (HR.out _)).mono ?_); rintro e w4 ⟨rfl, h4⟩))
  go_ret
  exact ⟨rfl, h4.below⟩
theorem lifted (os : Os) (started : os.Started) (H : Type) (enc : TypeId × Value → H) :
    ReturnsInHanded {} Try.checked os 3 .any (Rows.coderEncodeSpec.pre6 enc Try.prog Try.f3 Rows.coderEncodeRow.domain false) (Rows.coderEncodeSpec.post enc Try.prog Try.f3 false true false false) := by
  refine returnsInHanded_of_change_sized (C := Try.checked) own started (by kernel_rfl) Try.func3
    (ChangeSpec.witness6 (enc := enc) (C := Try.checked) false ⟨#[], #[.string ByteArray.empty], []⟩ 8 (by kernel_rfl) (by kernel_rfl) (by kernel_rfl) (by kernel_rfl)) ?_
  intro W base args ds gs before hval0 hW _ hsz0 _
  have hval : ∀ (j : Nat) t v, Try.f3.params[j]? = some t → args[j]? = some v → Value.okWide Try.prog W .any base t v := hval0
  have hW' := hW
  obtain ⟨p, q, hA0, hV, rfl, hfz, hnd⟩ := hW
  have hA : DataW.TrodAll enc Try.prog W 0 (fun _ => true) true Try.f3.params.toList args.toList ds p := hA0
  have hsz : (DataW.weightsEach Try.prog (Try.f3.params.toList ++ Rows.coderEncodeSpec.plain.varTypes Try.prog) (ds ++ gs)).all (· ≤ reachBytes) = true := hsz0
  rw [Try.params3] at hA hval hsz
  obtain ⟨v0, d0, rfl, rfl, h0⟩ := trodAll_one hA
  obtain ⟨rfl, rfl⟩ := trodVars_none hV
  obtain ⟨s, rfl, rfl, rfl, ws⟩ := open_string Try.underlying9 (hval 0 9 v0 rfl rfl) h0
  have hs : s.size ≤ 140737488355328 := by have h := sized_string hsz (j := 0) (t := 9) rfl rfl; rw [show s.data.toList.length = s.size from Array.length_toList] at h; exact Nat.le_trans h (by decide)
  refine (walk s W hs).mono fun e W' ⟨he, hb⟩ => ?_
  subst he
  exact ⟨_, rfl, law_post hW' rfl (by kernel_rfl) rfl (by intro t ht; rw [Try.params3] at ht; simp at ht; subst ht; exact ⟨by kernel_rfl, of_decide_eq_true (by kernel_rfl)⟩) hb⟩

theorem holds : Rows.CoderEncodeSaid :=
  OpenClaim.holds_of_wide 3 Try.f3 rfl rfl rfl rfl rfl rfl rfl ⟨rfl, rfl, rfl, rfl, rfl⟩ rfl rfl rfl rfl rfl (by kernel_rfl) Try.func3 (by kernel_rfl)
    (of_decide_eq_true (by kernel_rfl)) (by unfold Func.isWrapper; first | (rw [if_pos (by decide +kernel)]; kernel_rfl) | (rw [if_neg (by decide +kernel)]; exact ⟨rfl, rfl⟩))
    (fun os started H enc _ => lifted os started H enc)
end Go.Proofs.Ytbfnahclkajahaa.C.CLEncode
