/-
  CoderBack: Decode inverts Encode, and returns ErrForm if a byte is appended (strings of at most 500 bytes).
-/
import Derived.Test.YtbfnahclkajahaaCLaw
import Derived.Test.YtbfnahclkajahaaCLoop
namespace Go.Proofs.Ytbfnahclkajahaa.C.CLBack
open Go.ChangeShapes Go.WideShapes Go.ChangeAt Go.RowKit Go.Shelf
open Go.ChangeMaps (open_string)
set_option maxRecDepth 100000

theorem enc_len (l : List UInt8) : (enc l).length ≤ 32 * l.length + 4 := by
  have h := wt_len c0_ok (sops l)
  rw [sops_len] at h
  unfold enc byts
  rw [List.length_append, be4_len]; omega
theorem dec_enc (l : List UInt8) : dec (str (enc l)) l.length = (str l, 0) := by
  have h := dec_back l []
  rw [List.append_nil] at h
  have h2 := (dec_whole (enc l) l.length).2 (by rw [h])
  unfold dec
  rw [str_toList, str_size, if_pos h2, h]
theorem dec_more (l : List UInt8) (b : UInt8) : dec (str (enc l ++ [b])) l.length = (ByteArray.empty, 11) := by
  have h := dec_back l [b]
  unfold dec
  rw [str_toList, str_size, if_neg]
  intro hc
  have h2 := (dec_whole (enc l ++ [b]) l.length).1 hc
  rw [h] at h2
  have := congrArg List.length h2
  rw [List.length_append] at this
  simp at this
theorem conv1 (w : World) (c : UInt8) : (convert 33 9 (.slice (some ⟨w.heap.size, 0, none⟩) 1 1)).run Try.prog (w.alloc (.cells #[.int .u8 (c.toNat : Int)] 5)) = .ok (.string (str [c])) (w.alloc (.cells #[.int .u8 (c.toNat : Int)] 5)) :=
  owns_conv (B := w.heap.size) (p := [c]) (World.ownsRow_lit w #[.int .u8 (c.toNat : Int)] 1 (Nat.le_refl _) (by unfold maxLen; omega) rfl)
theorem str_add (a b : List UInt8) : str a ++ str b = str (a ++ b) := by apply ByteArray.ext; simp [str]

set_option maxHeartbeats 8000000 in
set_option maxRecDepth 100000 in
theorem walk (s : ByteArray) (c : UInt8) (w : World) (hs : s.size ≤ 140737488355328) : Calls Try.prog 5 #[.string s, .int .u8 (c.toNat : Int)] w fun e w' => e = .returned (.bool true) ∧ Below w.heap.size w w' := by
  have h0 := HS.start w
  have HSO : Hid (∀ V, Calls Try.prog 14 #[.string s, .int .i64 500] V fun e w' => e = .returned (.string (hd s 500)) ∧ V = w') := fun V => some_any s 500 V hs (by omega)
  have hl : (s.data.toList.take 500).length ≤ 500 := List.length_take_le ..
  have HT : Hid (hd s 500 = str (s.data.toList.take 500)) := Lib.hid rfl
  generalize s.data.toList.take 500 = l at *
  have htz : (hd s 500).size = l.length := by rw [HT.out, str_size]
  have hle := enc_len l
  have HE : Hid (∀ V, Calls Try.prog 15 #[.string (hd s 500)] V fun e w' => e = .returned (.string (str (enc l))) ∧ Below V.heap.size V w') := fun V => by
    have h := encode_any (hd s 500) V (by omega)
    rw [HT.out, str_toList] at h
    rw [HT.out]
    exact h
  have HD1 : Hid (∀ V, Calls Try.prog 17 #[.string (str (enc l)), .int .i64 (l.length : Int)] V fun e w' => e = .returned (.tuple #[.string (hd s 500), .int .i64 0]) ∧ Below V.heap.size V w') := fun V => by
    have h := decode_any (str (enc l)) l.length V (by omega) (by rw [str_size]; omega)
    rw [dec_enc] at h
    rw [HT.out]
    exact h
  have HD2 : Hid (∀ V, Calls Try.prog 17 #[.string (str (enc l) ++ str [c]), .int .i64 (l.length : Int)] V fun e w' => e = .returned (.tuple #[.string ByteArray.empty, .int .i64 11]) ∧ Below V.heap.size V w') := fun V => by
    have h := decode_any (str (enc l ++ [c])) l.length V (by omega) (by rw [str_size, List.length_append]; simp only [List.length_cons, List.length_nil]; omega)
    rw [dec_more] at h
    rw [str_add]
    exact h
  have hy : (str (enc l)).size ≤ 20000 := by rw [str_size]; omega
  have hz : (str [c]).size = 1 := by rw [str_size]; rfl
  have hq : ((hd s 500).toList == (hd s 500).toList) = true := beq_self_eq_true _
  have HCV : Hid (∀ W : World, (convert 33 9 (.slice (some ⟨W.heap.size, 0, none⟩) 1 1)).run Try.prog (W.alloc (.cells #[.int .u8 (c.toNat : Int)] 5)) = .ok (.string (str [c])) (W.alloc (.cells #[.int .u8 (c.toNat : Int)] 5))) := fun W => conv1 W c
  have htz2 : ((hd s 500).size : Int) = (l.length : Int) := by omega
  clear hle HT htz
  generalize str (enc l) = y at *
  generalize str [c] = z at *
  generalize hd s 500 = t at *
  generalize l.length = q at *
  go_enter Try.func5, Try.ntmps5
  go_wp2_with (first
    | (go_at_call 13; (with_reducible refine (h0.call (sanity_any _)).mono ?_); rintro e w1 ⟨rfl, h1⟩)
    | (go_at_call 14; (with_reducible refine (HSO.out _).mono ?_); rintro e w2 ⟨rfl, rfl⟩)
    | (go_at_call 15; (with_reducible refine (h1.call (HE.out _)).mono ?_); rintro e w3 ⟨rfl, h3⟩)
    | (go_at_call 17; (with_reducible refine ((h4.alloc _).tl.call (HD2.out _)).mono ?_); rintro e w5 ⟨rfl, h5⟩)
    | (go_at_call 17; (with_reducible refine (h3.call (HD1.out _)).mono ?_); rintro e w4 ⟨rfl, h4⟩; have hcv := HCV.out w4))
  go_ret
  exact ⟨rfl, h5.below⟩
theorem lifted (os : Os) (started : os.Started) (H : Type) (enc : TypeId × Value → H) :
    ReturnsInHanded {} Try.checked os 5 .any (Rows.coderBackSpec.pre6 enc Try.prog Try.f5 Rows.coderBackRow.domain false) (Rows.coderBackSpec.post enc Try.prog Try.f5 false true false false) := by
  refine returnsInHanded_of_change_sized (C := Try.checked) own started (by kernel_rfl) Try.func5
    (ChangeSpec.witness6 (enc := enc) (C := Try.checked) false ⟨#[], #[.string ByteArray.empty, .int .u8 0], []⟩ 8 (by kernel_rfl) (by kernel_rfl) (by kernel_rfl) (by kernel_rfl)) ?_
  intro W base args ds gs before hval0 hW _ hsz0 _
  have hval : ∀ (j : Nat) t v, Try.f5.params[j]? = some t → args[j]? = some v → Value.okWide Try.prog W .any base t v := hval0
  have hW' := hW
  obtain ⟨p, q, hA0, hV, rfl, hfz, hnd⟩ := hW
  have hA : DataW.TrodAll enc Try.prog W 0 (fun _ => true) true Try.f5.params.toList args.toList ds p := hA0
  have hsz : (DataW.weightsEach Try.prog (Try.f5.params.toList ++ Rows.coderBackSpec.plain.varTypes Try.prog) (ds ++ gs)).all (· ≤ reachBytes) = true := hsz0
  rw [Try.params5] at hA hval hsz
  obtain ⟨v0, v1, d0, d1, p0, p1, rfl, rfl, rfl, h0, h1⟩ := trodAll_two hA
  obtain ⟨rfl, rfl⟩ := trodVars_none hV
  obtain ⟨s, rfl, rfl, rfl, ws⟩ := open_string Try.underlying9 (hval 0 9 v0 rfl rfl) h0
  have hs : s.size ≤ 140737488355328 := by have h := sized_string hsz (j := 0) (t := 9) rfl rfl; rw [show s.data.toList.length = s.size from Array.length_toList] at h; exact Nat.le_trans h (by decide)
  obtain ⟨c, rfl⟩ := open_byte (hval 1 5 v1 rfl rfl)
  refine (walk s c W hs).mono fun e W' ⟨he, hb⟩ => ?_
  subst he
  exact ⟨_, rfl, law_post hW' rfl (by kernel_rfl) rfl (by intro t ht; rw [Try.params5] at ht; simp at ht; rcases ht with rfl | rfl <;> exact ⟨by kernel_rfl, of_decide_eq_true (by kernel_rfl)⟩) hb⟩

theorem holds : Rows.CoderBackSaid :=
  OpenClaim.holds_of_wide 5 Try.f5 rfl rfl rfl rfl rfl rfl rfl ⟨rfl, rfl, rfl, rfl, rfl⟩ rfl rfl rfl rfl rfl (by kernel_rfl) Try.func5 (by kernel_rfl)
    (of_decide_eq_true (by kernel_rfl)) (by unfold Func.isWrapper; first | (rw [if_pos (by decide +kernel)]; kernel_rfl) | (rw [if_neg (by decide +kernel)]; exact ⟨rfl, rfl⟩))
    (fun os started H enc _ => lifted os started H enc)
end Go.Proofs.Ytbfnahclkajahaa.C.CLBack
