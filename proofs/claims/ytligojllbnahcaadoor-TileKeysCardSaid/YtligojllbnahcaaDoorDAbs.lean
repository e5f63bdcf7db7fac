/-
  digest: absorb, bytes, padding, initialHash, Of.
-/
import Derived.Test.YtligojllbnahcaaDoorDBlock
namespace Go.Proofs.YtligojllbnahcaaDoor.D
open Go.RowKit

variable {W w w' : World} {g : Nat} {s : Sha.St}

theorem ext_list (l : ByteArray) (a n : Nat) : (l.extract a (a + n)).data.toList = (l.data.toList.drop a).take n := by
  simp [Nat.add_sub_cancel_left]

set_option maxHeartbeats 1000000 in
set_option maxRecDepth 100000 in
theorem absorb_any (l : ByteArray) (h : HSt W g s w) (hl : l.size % 64 = 0) (hsz : l.size ≤ 140737488355328) : Calls Tryd.prog 24 #[.pointer (some ⟨g, 0, none⟩), .string l] w fun e w' => e = .returned (.tuple #[]) ∧ HSt W g (Sha.absTo s l.data.toList (l.size / 64)) w' := by
  obtain ⟨n, hn⟩ : ∃ n, l.size = 64 * n := ⟨l.size / 64, by omega⟩
  rw [show l.size / 64 = n from by omega]
  have HN := Lib.hid hn; clear hn hl
  have H0 := Lib.hid h; clear h
  go_enter Tryd.func24, Tryd.ntmps24
  go_wp2
  go_loopw [4] (fun i wr => ∃ k : Nat, Hid (k ≤ n) ∧ i = .int .i64 (64 * k : Nat) ∧ Hid (HSt W g (Sha.absTo s l.data.toList k) wr)) (fun i _ => l.size - (intOf i).toNat)
  case atStart => exact ⟨0, Nat.zero_le _, rfl, H0⟩
  case round =>
    clear H0
    obtain ⟨k, HK, rfl, HX⟩ := hrel
    by_cases hlt : 64 * k < l.size
    · have hle : 64 * k + 64 ≤ l.size := by have := HN.out; omega
      have hk1 : k + 1 ≤ n := by have := HN.out; omega
      have HL : Hid ((l.extract (64 * k) (64 * k + 64)).size = 64) := by unfold Hid; rw [ByteArray.size_extract]; omega
      have HE : Hid ((l.extract (64 * k) (64 * k + 64)).data.toList = (l.data.toList.drop (64 * k)).take 64) := ext_list _ _ _
      have HK1 := Lib.hid hk1; clear hk1
      go_wp2_with (go_at_call 39; (with_reducible refine (block_any _ HX.out HL.out).mono ?_); rintro e w1 ⟨rfl, h1⟩)
      go_roundw
      case rel => exact ⟨k + 1, HK1, by go_num, by have := h1; rw [HE.out] at this; exact this⟩
      case measure => simp [intOf]; omega
    · obtain rfl : k = n := by have := HN.out; have := HK.out; omega
      go_wp2
      go_end0
      exact ⟨rfl, HX.out⟩

theorem zero8 (w : World) : (zeroValue 52).run Tryd.prog w = .ok (.agg (Array.replicate 8 (.int .u32 0))) w := by kernel_rfl

set_option maxRecDepth 100000 in
theorem initial_any (w : World) : Calls Tryd.prog 23 #[] w fun e w' => e = .returned (.agg (stA Sha.H0)) ∧ Below w.heap.size w w' := by
  go_enter Tryd.func23, Tryd.ntmps23
  go_wp2
  exact bodyPost_ret (results_cell_row Tryd.results23 _ _ _ _ _ _ _ rfl (heap_alloc_new _ _) Tryd.underlying52 rfl (by kernel_rfl)) rfl ⟨rfl, (Below.refl _ _).alloc (Nat.le_refl _) _⟩

theorem HSt.laterB (h : HSt W g s w) {B : Nat} (hb : Below B w w') (hg : g < B) : HSt W g s w' := ⟨h.below.trans (hb.mono (by have := h.at_; omega)), h.at_, by rw [hb.block g hg]; exact h.own, h.ok, h.kt⟩
theorem Bld.later {B b : Nat} {l : List UInt8} (h : Bld B b l w) (hb : Below w.heap.size w w') : Bld B b l w' := by
  have key : ∀ p, Lib.BuilderAt 76 5 B b p (Lib.byteCells l) w → Lib.BuilderAt 76 5 B b p (Lib.byteCells l) w' := by
    rintro p ⟨h1, v, h2, ⟨hl, h3⟩, h4⟩
    refine ⟨h1, v, by rw [hb.block b (Array.getElem?_eq_some_iff.1 h2).1]; exact h2, ⟨hl, ?_⟩, h4⟩
    rcases h3 with h3 | ⟨q, cap, cur, hv, hg, hh, h3⟩
    · exact Or.inl h3
    · exact Or.inr ⟨q, cap, cur, hv, hg, by rw [hb.block q (Array.getElem?_eq_some_iff.1 hh).1]; exact hh, h3⟩
  exact ⟨h.1.imp (key _) (key _), Nat.le_trans h.2 hb.size⟩

theorem builder0 (w : World) : Bld w.heap.size w.heap.size [] (w.alloc (.cells #[.pointer none, .slice none 0 0] 76)) :=
  ⟨Or.inl ⟨Nat.le_refl _, _, heap_alloc_new _ _, ⟨by decide, Or.inl ⟨rfl, rfl⟩⟩, by simp [Value.ownBlock]⟩, by simp⟩

set_option maxHeartbeats 1000000 in
set_option maxRecDepth 100000 in
theorem bytes_any (h : HSt W g s w) : Calls Tryd.prog 26 #[.pointer (some ⟨g, 0, none⟩)] w fun e w' => e = .returned (.string (str (Sha.outTo s 8))) ∧ Below W.heap.size W w' := by
  have H0 := Lib.hid h; clear h
  go_enter Tryd.func26, Tryd.ntmps26
  go_wp2
  have HB0 := Lib.hid (builder0 w)
  have HH0 : Hid (HSt W g s (w.alloc (.cells #[.pointer none, .slice none 0 0] 76))) := H0.out.alloc _
  have hlt := H0.out.lt
  clear H0
  go_loopw [5, 4] (fun i _ wr => ∃ k : Nat, k ≤ 8 ∧ i = .int .i64 k ∧ Hid (Bld w.heap.size w.heap.size (Sha.outTo s k) wr) ∧ Hid (HSt W g s wr)) (fun i _ _ => 8 - (intOf i).toNat)
  case atStart => exact ⟨0, Nat.zero_le _, rfl, HB0, HH0⟩
  case round =>
    clear HB0 HH0
    obtain ⟨k, hk, rfl, HB, HX⟩ := hrel
    by_cases hk8 : k < 8
    · have hc : wr.cell? ⟨g, k, none⟩ = some (.int .u32 (s.toL.getD k 0 : Nat)) := (HX.out.cell k).trans (stA_get k hk8)
      have hl := Sha.toL_lt HX.out.ok k
      have HO : Hid (Sha.outTo s (k + 1) = Sha.outTo s k ++ putN (s.toL.getD k 0) 4) := rfl
      have HL : Hid ((Sha.outTo s k).length + (putN (s.toL.getD k 0) 4).length ≤ 140737488355328) := by unfold Hid; rw [Sha.outTo_len, putN_len]; omega
      generalize s.toL.getD k 0 = x at hc hl HO HL
      have hx : x < 18446744073709551616 := by omega
      go_wp2_with (first
        | (go_at_call 41; (with_reducible refine (put4 x _ hx).mono ?_); rintro e w1 ⟨rfl, h1⟩)
        | (go_at_call 42; (with_reducible refine (bld_write (HB.out.later h1) HL.out).mono ?_); rintro e w2 ⟨rfl, hb2, h2⟩))
      go_roundw
      case rel =>
        refine ⟨k + 1, by omega, by go_num, by rw [HO.out]; exact hb2, ?_⟩
        exact (HX.out.later h1).laterB h2 hlt
      case measure => simp [intOf]; omega
    · obtain rfl : k = 8 := by omega
      go_wp2_with (go_at_call 43; (with_reducible refine (bld_string HB.out).mono ?_); rintro e w1 ⟨rfl, h1⟩)
      go_ret
      exact ⟨rfl, (HX.out.laterB h1 hlt).below⟩

theorem pad_bytes (l : List UInt8) : str [128] ++ str (List.replicate (Sha.zeros l.length) 0) ++ str (putN (8 * l.length) 8) = str (Sha.pad l) := by
  rw [str_append, str_append]; rfl
theorem zeros_le (n : Nat) : Sha.zeros n ≤ 63 := by unfold Sha.zeros; omega
set_option maxHeartbeats 1000000 in
set_option maxRecDepth 100000 in
theorem padding_any (l : List UInt8) (n : Int) (w : World) (hn : n = l.length) (hl : l.length ≤ 140737488355328) : Calls Tryd.prog 25 #[.int .i64 n] w fun e w' => e = .returned (.string (str (Sha.pad l))) ∧ Below w.heap.size w w' := by
  subst hn
  have HP := Lib.hid (pad_bytes l)
  have HZ : Hid ((120 - ((l.length : Int) + 1) % 64) % 64 = (Sha.zeros l.length : Nat)) := by unfold Hid Sha.zeros; omega
  have hz := zeros_le l.length
  generalize Sha.zeros l.length = z at HP HZ hz
  generalize l.length = n at HP HZ hl ⊢
  go_enter Tryd.func25, Tryd.ntmps25
  go_upto_region 2 with fail
  rw [HZ.out]
  have s1 : (str (List.replicate z 0)).size ≤ 63 := by rw [str_size, List.length_replicate]; exact hz
  have s2 : (str (putN (8 * n) 8)).size ≤ 8 := by rw [str_size, putN_len]; omega
  have y1 : ((8 * n : Nat) : Int) = 8 * (n : Int) := by omega
  have HP8 : Hid (∀ v, Calls Tryd.prog 41 #[.int .i64 (8 * (n : Int)), .int .i64 8] v fun e w' => e = .returned (.string (str (putN (8 * n) 8))) ∧ Below v.heap.size v w') := by
    intro v; rw [← y1]; exact put8 _ _ (by omega)
  clear y1 HZ
  go_wp2_with (first
    | (go_at_call 40; (with_reducible refine (repeat_zeros _ _ (by omega)).mono ?_); rintro e w1 ⟨rfl, h1⟩)
    | (go_at_call 41; (with_reducible refine (HP8.out _).mono ?_); rintro e w2 ⟨rfl, h2⟩))
  go_ret
  exact ⟨ret_str HP.out, h1.trans (h2.mono h1.size)⟩
end Go.Proofs.YtligojllbnahcaaDoor.D
