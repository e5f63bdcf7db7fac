/-
  The reference's Big, constants and compress.
-/
import Derived.Test.YtligojllbnahcaaDoorDBlock
import Derived.Great.BuildSlice
namespace Go.Proofs.YtligojllbnahcaaDoor.D
open Go.RowKit

set_option maxHeartbeats 400000 in
set_option maxRecDepth 100000 in
theorem big_nat (u k : Nat) (hl : u < 18446744073709551616) (hk8 : k ≤ 8) (w : World) : Calls Tryd.prog 37 #[.int .u64 u, .int .i64 k] w fun e w' => e = .returned (.string (str (putN u k))) ∧ Below w.heap.size w w' := by
  obtain ⟨i0, hi, hz0, hz1, hz2⟩ := info_parts Tryd.infoB
  go_enter Tryd.func37, Tryd.ntmps37
  go_wp2_with (at_make; refine wpList_make_full _ rfl (.tmp 7) (.tmp 7) 44 rfl w.heap.size 5 i0 (.int .u8 0) 1 Tryd.underlying44 hi hz0 hz1 .i64 .i64 _ _ k rfl rfl ?c1 ?c2 ?c3 ?c4 ?c5 ?_; rotate_right; intro w1 hown hgrow)
  case c1 => rfl
  case c2 => rfl
  case c3 => rw [hz2]; omega
  case c4 => unfold maxLen; omega
  case c5 => exact Nat.le_refl _
  have HM0 : Hid (PutMem w k [] w1) := putMem_start hown hgrow
  clear hi hz0 hz1 hz2 hown hgrow
  go_loopw [0, 6] (fun rest i wr => ∃ (q : List UInt8) (r j : Nat), rest = .int .u64 r ∧ i = .int .i64 ((j : Int) - 1) ∧ Hid (putN u k = putN r j ++ q) ∧ Hid (j + q.length = k) ∧ j ≤ k ∧ r < 18446744073709551616 ∧ Hid (PutMem w j q wr)) (fun _ i _ => (intOf i + 1).toNat)
  case atStart => exact ⟨[], u, k, rfl, rfl, by simp [Hid], by simp [Hid], Nat.le_refl _, hl, HM0⟩
  case round =>
    obtain ⟨q, r, j, rfl, rfl, H1, H2, hjk, hrl, HM⟩ := hrel
    clear hl HM0
    rcases j with _ | j
    · have hcv := HM.out.conv k (by have := H2.out; omega)
      go_wp2
      go_ret
      exact ⟨ret_str (by rw [H1.out]; rfl), HM.out.below⟩
    · rw [show ((j + 1 : Nat) : Int) - 1 = (j : Int) from by omega]
      obtain ⟨v0, hc⟩ := HM.out.cell
      have hf := HM.out.free j
      go_wp2
      go_roundw
      case rel =>
        refine ⟨UInt8.ofNat (r % 256) :: q, r / 256, j, val_int (by omega), by go_num, ?_, ?_, by omega, by omega, HM.out.set _ (val_int (by rw [nat_u8 (by omega)]; omega))⟩
        · have := H1.out; rw [this]; simp [Hid, putN]
        · have := H2.out; simp [Hid]; omega
      case measure => simp [intOf]
theorem big4 (u : Nat) (hl : u < 18446744073709551616) (w : World) : Calls Tryd.prog 37 #[.int .u64 u, .int .i64 4] w fun e w' => e = .returned (.string (str (putN u 4))) ∧ Below w.heap.size w w' := big_nat u 4 hl (by omega) w
theorem big8 (u : Nat) (hl : u < 18446744073709551616) (w : World) : Calls Tryd.prog 37 #[.int .u64 u, .int .i64 8] w fun e w' => e = .returned (.string (str (putN u 8))) ∧ Below w.heap.size w w' := big_nat u 8 hl (by omega) w

def kA : Array Value := ((List.range 64).map fun j => u32v (Sha.K j)).toArray
theorem kA_size : kA.size = 64 := by simp [kA]
theorem kA_get (j : Nat) (h : j < 64) : kA[j]? = some (u32v (Sha.K j)) := by simp [kA, h]
set_option maxRecDepth 100000 in
theorem constants_any (w : World) : Calls Tryd.prog 36 #[] w fun e w' => e = .returned (.agg kA) ∧ Below w.heap.size w w' := by
  have hz := zero64
  go_enter Tryd.func36, Tryd.ntmps36
  go_wp2_with (first
    | (refine wpList_buildTo rfl 66 _ rfl (some 1) rfl kA (by kernel_rfl) ?_)
    | (refine wpList_store_row rfl 66 (.tmp 0) (.tmp 1) rfl w.heap.size kA rfl rfl _ _ (heap_alloc_new _ _) (by kernel_rfl) (by simp [kA_size]) (by kernel_rfl) ?_))
  exact bodyPost_ret (results_cell_row Tryd.results36 _ _ _ _ _ _ _ rfl (setRow_heap _ _ _ _ _ _ (heap_alloc_new _ _)) Tryd.underlying66 rfl (by kernel_rfl)) rfl ⟨rfl, below_setRow ((Below.refl _ _).alloc (Nat.le_refl _) _) (Nat.le_refl _) _⟩
end Go.Proofs.YtligojllbnahcaaDoor.D
