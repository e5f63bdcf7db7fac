/-
  The statements' helper valid: 32 bytes made of a string's, repeated.
-/
import Derived.Test.YtcpbadldplpedaaDoorHex
import Derived.Deep.DeepCutAuto
namespace Go.Proofs.YtcpbadldplpedaaDoor
open Go.RowKit
variable {W w w' : World}

def vbyt (l : List UInt8) (i : Nat) : UInt8 := if l.length = 0 then 0 else l.getD (i % l.length) 0
def validTo (l : List UInt8) (k : Nat) : List UInt8 := (List.range k).map (vbyt l)
theorem validTo_len (l : List UInt8) (k : Nat) : (validTo l k).length = k := by simp [validTo]
theorem validTo_succ (l : List UInt8) (k : Nat) : validTo l (k + 1) = validTo l k ++ [vbyt l k] := by simp [validTo, List.range_succ]
theorem rowN_none (l : List UInt8) (h : l.length = 0) : rowN 32 [] = rowN 32 (validTo l 32) := by
  have e : validTo l 32 = List.replicate 32 0 := by
    have e2 : vbyt l = fun _ => 0 := by funext i; unfold vbyt; rw [if_pos h]
    unfold validTo
    rw [e2]; decide
  rw [e]; rfl
theorem arr_start {W w : World} {k : Nat} (h : w.ownsRow W.heap.size 5 1 (.slice (some ⟨W.heap.size, 0, none⟩) k k) k (madeCells (Value.int .u8 0).cells (k * 1)).toList) (hg : W.grownBy w none) : ArrMem W 5 k [] w := by
  refine ⟨?_, (Below.refl _ W).grown hg (Nat.le_refl _) (by intro k hk; cases hk)⟩
  obtain ⟨hl, ⟨hv, _⟩ | ⟨g, cap, cur, hv, hb, hh, hn, hc, hs, ht⟩⟩ := h
  · simp at hv
  · simp only [Value.slice.injEq, Option.some.injEq, Addr.mk.injEq, and_true, true_and] at hv
    obtain ⟨rfl, rfl⟩ := hv
    rw [hh]
    have e : cur = rowN k [] := by
      apply Array.ext'
      rw [zeroB, List.take_of_length_le (by rw [Array.length_toList]; omega)] at ht
      rw [ht]; simp [rowN]
    rw [e]

set_option maxHeartbeats 1000000 in
set_option maxRecDepth 100000 in
theorem valid_any (s : ByteArray) (w : World) (hs : s.size ≤ 140737488355328) : Calls Tryd.prog 27 #[.string s] w fun e w' => e = .returned (.string (str (validTo s.data.toList 32))) ∧ Below w.heap.size w w' := by
  obtain ⟨i0, hi, hz0, hz1, hz2⟩ := info_parts Tryd.infoB
  go_enter Tryd.func27, Tryd.ntmps27
  go_upto_region 2 with (at_make; refine wpList_make_full _ rfl _ _ 45 rfl w.heap.size 5 i0 (.int .u8 0) 1 Tryd.underlying45 hi hz0 hz1 .i64 .i64 _ _ 32 rfl rfl ?c1 ?c2 ?c3 ?c4 ?c5 ?_; rotate_right; intro w1 hown hgrow)
  case c1 => rfl
  case c2 => rfl
  case c3 => rw [hz2]; omega
  case c4 => unfold maxLen; omega
  case c5 => exact Nat.le_refl _
  have HM0 : Hid (ArrMem w 5 32 [] w1) := arr_start hown hgrow
  clear hi hz0 hz1 hz2 hown hgrow
  go_wp2_with fail
  go_loopw [4] (fun i wr => ∃ k : Nat, k ≤ 32 ∧ i = .int .i64 k ∧ (s.size = 0 → k = 0) ∧ Hid (ArrMem w 5 32 (validTo s.data.toList k) wr)) (fun i _ => 32 - (intOf i).toNat)
  case atStart => exact ⟨0, Nat.zero_le _, rfl, fun _ => rfl, HM0⟩
  case round =>
    clear HM0
    obtain ⟨k, hk, rfl, hk0, HM⟩ := hrel
    have HK0 := Lib.hid hk0; clear hk0
    go_upto_region 3 with fail
    go_cut [12] (fun r wx => r = .bool (decide (k < 32 ∧ 0 < s.size)) ∧ wx = wr)
    case first =>
      by_cases h1 : (k : Int) < 32
      · by_cases h2 : (0 : Int) < s.size
        · go_wp2_with fail
          go_meet
          exact ⟨by rw [decide_eq_true (show k < 32 ∧ 0 < s.size by omega), decide_eq_true (show 0 < s.size by omega)], rfl⟩
        · go_wp2_with fail
          go_meet
          exact ⟨by rw [decide_eq_false (show ¬ (k < 32 ∧ 0 < s.size) by omega), decide_eq_false (show ¬ 0 < s.size by omega)], rfl⟩
      · go_wp2_with fail
        go_meet
        exact ⟨by rw [decide_eq_false (show ¬ (k < 32 ∧ 0 < s.size) by omega)], rfl⟩
    case rest =>
    obtain ⟨rfl, rfl⟩ := hcut
    have hlen := validTo_len s.data.toList k
    by_cases hlt : k < 32 ∧ 0 < s.size
    · rw [decide_eq_true hlt]
      have hm : k % s.size < s.size := Nat.mod_lt _ hlt.2
      have ix := fun w => idx_byt (b := s) 9 Tryd.underlying9 (k % s.size) hm ((k : Int) % (s.size : Int)) (by omega) w
      have HV : Hid (Sha.byt s.data.toList (k % s.size) = (vbyt s.data.toList k).toNat) := by
        unfold Hid Sha.byt vbyt
        rw [lenS, if_neg (by omega)]
      rw [HV.out] at ix
      have hs0 : (0 : Int) < s.size := by omega
      have hk32 : (k : Int) < 32 := by omega
      obtain ⟨v0, c0⟩ := HM.out.cell (by omega) k hlt.1
      have f0 := HM.out.free k
      go_wp2
      go_roundw
      case rel =>
        refine ⟨k + 1, by omega, by go_num, fun h => by omega, ?_⟩
        rw [validTo_succ]
        exact HM.out.put k hlen.symm hlt.1 _ rfl
      case measure => simp [intOf]; omega
    · rw [decide_eq_false hlt]
      have HM2 : Hid (ArrMem w 5 32 (validTo s.data.toList 32) wc) := by
        by_cases h0 : s.size = 0
        · obtain rfl := HK0.out h0
          have e := rowN_none s.data.toList (by rw [lenS]; exact h0)
          exact ⟨by rw [← e]; exact HM.out.own, HM.out.below⟩
        · obtain rfl : k = 32 := by omega
          exact HM.out
      have hcv := HM2.out.conv 32 32 (validTo_len _ _).symm 24 Tryd.underlying24
      go_wp2_with fail
      go_ret
      exact ⟨rfl, HM2.out.below⟩
end Go.Proofs.YtcpbadldplpedaaDoor
