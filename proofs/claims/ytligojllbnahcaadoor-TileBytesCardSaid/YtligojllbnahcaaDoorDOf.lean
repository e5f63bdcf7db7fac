/-
  digest.Of returns the SHA-256 digest.
-/
import Derived.Test.YtligojllbnahcaaDoorDAbs
import Derived.Deep.RegionWith
namespace Go.Proofs.YtligojllbnahcaaDoor.D
open Go.RowKit

variable {W w w' : World} {g : Nat} {s : Sha.St}

theorem take_ext (m : ByteArray) (c : Nat) : (m.extract 0 c).data.toList = m.data.toList.take c := by
  simp
theorem drop_ext (m : ByteArray) (c : Nat) : (m.extract c m.size).data.toList = m.data.toList.drop c := by
  have e : m.data.toList.length = m.size := lenS m
  simp
  rw [List.take_of_length_le (by rw [List.length_drop]; omega)]
/-- the two halves make the whole -/
theorem halves (m : ByteArray) (c : Nat) (hc : c = m.size / 64) :
    Sha.outTo (Sha.absTo (Sha.absTo Sha.H0 (m.extract 0 (64 * c)).data.toList ((m.extract 0 (64 * c)).size / 64)) (m.extract (64 * c) m.size ++ str (Sha.pad m.data.toList)).data.toList ((m.extract (64 * c) m.size ++ str (Sha.pad m.data.toList)).size / 64)) 8 = Sha.sha m.data.toList := by
  have hl := lenS m
  have e1 : (m.extract 0 (64 * c)).size = 64 * c := by rw [ByteArray.size_extract]; omega
  have e2 : (m.extract (64 * c) m.size ++ str (Sha.pad m.data.toList)).data.toList = m.data.toList.drop (64 * c) ++ Sha.pad m.data.toList := by
    rw [ByteArray.data_append, Array.toList_append, drop_ext, str_toList]
  have e3 : (m.extract (64 * c) m.size ++ str (Sha.pad m.data.toList)).size = (m.data.toList.drop (64 * c) ++ Sha.pad m.data.toList).length := by rw [← e2, lenS]
  rw [e2, e3, e1, take_ext, show 64 * c / 64 = c from by omega, Sha.absTo_append (by rw [List.length_take]; omega), ← List.append_assoc, List.take_append_drop]
  unfold Sha.sha
  congr 2
  have hp := Sha.pad_div m.data.toList
  rw [List.length_append, List.length_drop, List.length_append] at *
  omega

set_option maxHeartbeats 1000000 in
set_option maxRecDepth 100000 in
theorem of_any (m : ByteArray) (w : World) (hk : KT w) (hs : m.size ≤ 1000000) : Calls Tryd.prog 12 #[.string m] w fun e w' => e = .returned (.string (str (Sha.sha m.data.toList))) ∧ Below w.heap.size w w' := by
  obtain ⟨c, hc⟩ : ∃ c, c = m.size / 64 := ⟨_, rfl⟩
  have HE := Lib.hid (halves m c hc)
  have HC : Hid ((m.size : Int) - (m.size : Int) % 64 = (64 * c : Nat)) := by unfold Hid; omega
  have HQ1 : Hid ((m.extract 0 (64 * c)).size % 64 = 0) := by unfold Hid; rw [ByteArray.size_extract]; omega
  have HQ2 : Hid ((m.extract 0 (64 * c)).size ≤ 140737488355328) := by unfold Hid; rw [ByteArray.size_extract]; omega
  have hpl := Sha.pad_len m.data.toList
  have hz := zeros_le m.data.toList.length
  have s2 : (str (Sha.pad m.data.toList)).size ≤ 72 := by rw [str_size]; omega
  have s3 : (m.extract (64 * c) m.size).size ≤ m.size := by rw [ByteArray.size_extract]; omega
  have HQ3 : Hid ((m.extract (64 * c) m.size ++ str (Sha.pad m.data.toList)).size % 64 = 0) := by
    have hp := Sha.pad_div m.data.toList
    rw [List.length_append, lenS] at hp
    unfold Hid; rw [ByteArray.size_append, ByteArray.size_extract, str_size]; omega
  have HQ4 : Hid ((m.extract (64 * c) m.size ++ str (Sha.pad m.data.toList)).size ≤ 140737488355328) := by unfold Hid; rw [ByteArray.size_append]; omega
  have hcm : 64 * c ≤ m.size := by omega
  have hl : (m.size : Int) = (m.data.toList.length : Nat) := by rw [lenS]
  have hl2 : m.data.toList.length ≤ 140737488355328 := by rw [lenS]; omega
  have HL := Lib.hid hl
  have HZ0 := zero8
  clear hc hpl hz hl
  go_enter Tryd.func12, Tryd.ntmps12
  go_upto_region 2 with fail
  rw [HC.out]
  go_upto_region 3 with (first
    | (go_at_call 23; (with_reducible refine (initial_any _).mono ?_); rintro e w1 ⟨rfl, h1⟩)
    | (refine wpList_store_row rfl 52 _ _ rfl _ _ rfl rfl _ _ (heap_alloc_new _ _) (by kernel_rfl) (by rfl) (by kernel_rfl) ?_))
  have HS : Hid (HSt w w1.heap.size Sha.H0 ((w1.alloc (Obj.cells (Array.replicate 8 (Value.int IntKind.u32 0)) 52)).setRow w1.heap.size (stA Sha.H0))) :=
    ⟨below_setRow (h1.alloc h1.size _) h1.size _, h1.size, setRow_heap _ _ _ _ _ _ (heap_alloc_new _ _), Sha.H0_ok, hk⟩
  clear HZ0 hk h1 HC
  generalize (w1.alloc (Obj.cells (Array.replicate 8 (Value.int IntKind.u32 0)) 52)).setRow w1.heap.size (stA Sha.H0) = w2 at HS ⊢
  generalize w1.heap.size = g at HS ⊢
  go_upto_region 4 with (go_at_call 24; (with_reducible refine (absorb_any _ HS.out HQ1.out HQ2.out).mono ?_); rintro e w3 ⟨rfl, h3⟩)
  have HX := Lib.hid h3; clear h3 HS
  have hx := HX.out; clear HX
  first
  | (go_region_with (first
    | (go_at_call 25; (with_reducible refine (HSt.call (W := w) (g := g) (s := Sha.absTo Sha.H0 (m.extract 0 (64 * c)).data.toList ((m.extract 0 (64 * c)).size / 64)) ?_ (padding_any m.data.toList _ _ HL.out hl2)).mono ?_); (focus (repeat (first | assumption | apply HSt.drew))); rintro e w4 ⟨rfl, h4⟩)
    | (go_at_call 24; (with_reducible refine (absorb_any (W := w) (g := g) (s := Sha.absTo Sha.H0 (m.extract 0 (64 * c)).data.toList ((m.extract 0 (64 * c)).size / 64)) _ ?_ HQ3.out HQ4.out).mono ?_); (focus (repeat (first | assumption | apply HSt.drew))); rintro e w5 ⟨rfl, h5⟩)))
  | fail
  all_goals generalize hT : Sha.absTo (Sha.absTo Sha.H0 (m.extract 0 (64 * c)).data.toList ((m.extract 0 (64 * c)).size / 64)) (m.extract (64 * c) m.size ++ str (Sha.pad m.data.toList)).data.toList ((m.extract (64 * c) m.size ++ str (Sha.pad m.data.toList)).size / 64) = t at h5
  all_goals have HT : Hid (Sha.outTo t 8 = Sha.sha m.data.toList) := by unfold Hid; rw [← hT]; exact HE.out
  all_goals clear hT
  all_goals go_wp2_with (go_at_call 26; (with_reducible refine (bytes_any h5).mono ?_); rintro e w6 ⟨rfl, h6⟩)
  all_goals go_ret
  all_goals exact ⟨ret_str (by rw [HT.out]), h6⟩
end Go.Proofs.YtligojllbnahcaaDoor.D
