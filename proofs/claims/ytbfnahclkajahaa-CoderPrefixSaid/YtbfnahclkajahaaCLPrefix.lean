/-
  CoderPrefix: the encodings of a string and of its continuation agree in all bytes but the last four of the former; encoding is deterministic (strings of at most 200 bytes).
-/
import Derived.Test.YtbfnahclkajahaaCLaw
import Derived.Test.YtbfnahclkajahaaCLoop
namespace Go.Proofs.Ytbfnahclkajahaa.C.CLPrefix
open Go.ChangeShapes Go.WideShapes Go.ChangeAt Go.RowKit Go.Shelf
open Go.ChangeMaps (open_string)
set_option maxRecDepth 100000

theorem enc_len (l : List UInt8) : (enc l).length = (wt c0 (sops l)).length + 4 := by
  unfold enc byts
  rw [List.length_append, be4_len]
theorem wt_le (l : List UInt8) : (wt c0 (sops l)).length ≤ 32 * l.length := by
  have h := wt_len c0_ok (sops l)
  rw [sops_len] at h; omega
theorem enc_heads (a b : List UInt8) : (enc (a ++ b)).take (wt c0 (sops a)).length = (enc a).take (wt c0 (sops a)).length ∧ (enc a).length ≤ (enc (a ++ b)).length := by
  refine ⟨?_, ?_⟩
  · unfold enc byts
    rw [sops_app, wt_app, List.append_assoc, List.take_left' rfl, List.take_left' rfl]
  · rw [enc_len, enc_len, sops_app, wt_app, List.length_append]; omega
theorem str_add (a b : List UInt8) : str a ++ str b = str (a ++ b) := by apply ByteArray.ext; simp [str]
theorem slice_head (s : ByteArray) (m : Nat) (h : m ≤ s.size) (V : World) : (Instr.slice 9 (.string s) none (some (.int .i64 m)) none).run Try.prog V = .ok (.string (s.extract 0 m)) V := by
  rw [run_slice_string_h V 9 s Try.underlying9 .i64 m (by omega) (by omega), Int.toNat_natCast]

set_option maxHeartbeats 8000000 in
set_option maxRecDepth 100000 in
theorem walk (s : ByteArray) (t : ByteArray) (w : World) (hs : s.size ≤ 140737488355328) (ht : t.size ≤ 140737488355328) : Calls Try.prog 11 #[.string s, .string t] w fun e w' => e = .returned (.bool true) ∧ Below w.heap.size w w' := by
  have h0 := HS.start w
  have HSO : Hid (∀ V, Calls Try.prog 14 #[.string s, .int .i64 200] V fun e w' => e = .returned (.string (hd s 200)) ∧ V = w') := fun V => some_any s 200 V hs (by omega)
  have HTO : Hid (∀ V, Calls Try.prog 14 #[.string t, .int .i64 200] V fun e w' => e = .returned (.string (hd t 200)) ∧ V = w') := fun V => some_any t 200 V ht (by omega)
  have hl : (s.data.toList.take 200).length ≤ 200 := List.length_take_le ..
  have hr : (t.data.toList.take 200).length ≤ 200 := List.length_take_le ..
  have HS1 : Hid (hd s 200 = str (s.data.toList.take 200)) := Lib.hid rfl
  have HT1 : Hid (hd t 200 = str (t.data.toList.take 200)) := Lib.hid rfl
  generalize s.data.toList.take 200 = l at *
  generalize t.data.toList.take 200 = r at *
  have HE1 : Hid (∀ V, Calls Try.prog 15 #[.string (hd s 200)] V fun e w' => e = .returned (.string (str (enc l))) ∧ Below V.heap.size V w') := fun V => by
    have h := encode_any (hd s 200) V (by rw [HS1.out, str_size]; omega)
    rw [HS1.out, str_toList] at h
    rw [HS1.out]
    exact h
  have HE2 : Hid (∀ V, Calls Try.prog 15 #[.string (hd s 200 ++ hd t 200)] V fun e w' => e = .returned (.string (str (enc (l ++ r)))) ∧ Below V.heap.size V w') := fun V => by
    have h := encode_any (hd s 200 ++ hd t 200) V (by rw [HS1.out, HT1.out, str_add, str_size, List.length_append]; omega)
    rw [HS1.out, HT1.out, str_add, str_toList] at h
    rw [HS1.out, HT1.out, str_add]
    exact h
  have hzs : (hd s 200).size ≤ 200 := hd_size s 200
  have hzt : (hd t 200).size ≤ 200 := hd_size t 200
  have hsa : ((str (enc l)).size : Int) = ((wt c0 (sops l)).length : Int) + 4 := by rw [str_size, enc_len]; omega
  have hsb : ((wt c0 (sops l)).length : Int) + 4 ≤ ((str (enc (l ++ r))).size : Int) := by
    rw [str_size]; have := (enc_heads l r).2; rw [enc_len] at this; omega
  have hm1 : ((wt c0 (sops l)).length : Int) ≤ 6400 := by have := wt_le l; omega
  have hq := heads_eq _ _ _ (enc_heads l r).1.symm
  have hq2 : ((str (enc l)).toList == (str (enc l)).toList) = true := beq_self_eq_true _
  generalize str (enc (l ++ r)) = sb at *
  generalize str (enc l) = sa at *
  generalize (wt c0 (sops l)).length = m at *
  clear HS1 HT1
  generalize hd s 200 = a at *
  generalize hd t 200 = b at *
  go_enter Try.func11, Try.ntmps11
  go_upto_region 7 with (first
    | (go_at_call 13; (with_reducible refine (h0.call (sanity_any _)).mono ?_); rintro e w1 ⟨rfl, h1⟩)
    | (go_at_call 14; (with_reducible refine (HSO.out _).mono ?_); rintro e w2 ⟨rfl, rfl⟩)
    | (go_at_call 14; (with_reducible refine (HTO.out _).mono ?_); rintro e w2 ⟨rfl, rfl⟩)
    | (go_at_call 15; (with_reducible refine (h3.call (HE2.out _)).mono ?_); rintro e w4 ⟨rfl, h4⟩)
    | (go_at_call 15; (with_reducible refine (h1.call (HE1.out _)).mono ?_); rintro e w3 ⟨rfl, h3⟩))
  have hsl1 : ∀ V, (Instr.slice 9 (.string sb) none (some (.int .i64 m)) none).run Try.prog V = .ok (.string (sb.extract 0 m)) V := fun V => slice_head sb m (by omega) V
  have hsl2 : ∀ V, (Instr.slice 9 (.string sa) none (some (.int .i64 m)) none).run Try.prog V = .ok (.string (sa.extract 0 m)) V := fun V => slice_head sa m (by omega) V
  have hd4 := h4.drew
  clear h0 h1 h3
  go_region_held3 (fun V => HS w [] V) ((assumption)) (first
    | (go_at_call 15; (with_reducible refine (HS.call (W := w) (L := []) ?_ (HE1.out _)).mono ?_); (focus assumption); rintro e w9 ⟨rfl, h9⟩))
  go_wp2_with fail
  go_ret
  exact ⟨rfl, h9.below⟩
theorem lifted (os : Os) (started : os.Started) (H : Type) (enc : TypeId × Value → H) :
    ReturnsInHanded {} Try.checked os 11 .any (Rows.coderPrefixSpec.pre6 enc Try.prog Try.f11 Rows.coderPrefixRow.domain false) (Rows.coderPrefixSpec.post enc Try.prog Try.f11 false true false false) := by
  refine returnsInHanded_of_change_sized (C := Try.checked) own started (by kernel_rfl) Try.func11
    (ChangeSpec.witness6 (enc := enc) (C := Try.checked) false ⟨#[], #[.string ByteArray.empty, .string ByteArray.empty], []⟩ 8 (by kernel_rfl) (by kernel_rfl) (by kernel_rfl) (by kernel_rfl)) ?_
  intro W base args ds gs before hval0 hW _ hsz0 _
  have hval : ∀ (j : Nat) t v, Try.f11.params[j]? = some t → args[j]? = some v → Value.okWide Try.prog W .any base t v := hval0
  have hW' := hW
  obtain ⟨p, q, hA0, hV, rfl, hfz, hnd⟩ := hW
  have hA : DataW.TrodAll enc Try.prog W 0 (fun _ => true) true Try.f11.params.toList args.toList ds p := hA0
  have hsz : (DataW.weightsEach Try.prog (Try.f11.params.toList ++ Rows.coderPrefixSpec.plain.varTypes Try.prog) (ds ++ gs)).all (· ≤ reachBytes) = true := hsz0
  rw [Try.params11] at hA hval hsz
  obtain ⟨v0, v1, d0, d1, p0, p1, rfl, rfl, rfl, h0, h1⟩ := trodAll_two hA
  obtain ⟨rfl, rfl⟩ := trodVars_none hV
  obtain ⟨s, rfl, rfl, rfl, ws⟩ := open_string Try.underlying9 (hval 0 9 v0 rfl rfl) h0
  have hs : s.size ≤ 140737488355328 := by have h := sized_string hsz (j := 0) (t := 9) rfl rfl; rw [show s.data.toList.length = s.size from Array.length_toList] at h; exact Nat.le_trans h (by decide)
  obtain ⟨t, rfl, rfl, rfl, wt⟩ := open_string Try.underlying9 (hval 1 9 v1 rfl rfl) h1
  have ht : t.size ≤ 140737488355328 := by have h := sized_string hsz (j := 1) (t := 9) rfl rfl; rw [show t.data.toList.length = t.size from Array.length_toList] at h; exact Nat.le_trans h (by decide)
  refine (walk s t W hs ht).mono fun e W' ⟨he, hb⟩ => ?_
  subst he
  exact ⟨_, rfl, law_post hW' rfl (by kernel_rfl) rfl (by intro t ht; rw [Try.params11] at ht; simp at ht; subst ht; exact ⟨by kernel_rfl, of_decide_eq_true (by kernel_rfl)⟩) hb⟩

theorem holds : Rows.CoderPrefixSaid :=
  OpenClaim.holds_of_wide 11 Try.f11 rfl rfl rfl rfl rfl rfl rfl ⟨rfl, rfl, rfl, rfl, rfl⟩ rfl rfl rfl rfl rfl (by kernel_rfl) Try.func11 (by kernel_rfl)
    (of_decide_eq_true (by kernel_rfl)) (by unfold Func.isWrapper; first | (rw [if_pos (by decide +kernel)]; kernel_rfl) | (rw [if_neg (by decide +kernel)]; exact ⟨rfl, rfl⟩))
    (fun os started H enc _ => lifted os started H enc)
end Go.Proofs.Ytbfnahclkajahaa.C.CLPrefix
