/-
  What the functions of octet and of the reference that only compute return (contracts of their calls).
-/
import Derived.Test.YtfncldaodbfakaaGreatOCrc
import Derived.Test.YtfncldaodbfakaaGreatRows
import Derived.WalkKit
import Derived.WalkSpells
import Derived.WalkLawsBesides
import Derived.Laws.BitsAllLaws
import Derived.PlainAid
import Derived.Lib.Hide
namespace Go.Proofs.YtfncldaodbfakaaGreat.O
open Go.RowKit

theorem ret_int {k : IntKind} {a b : Int} (h : a = b) : Ending.returned (.int k a) = .returned (.int k b) := by rw [h]
theorem ret_str {a b : ByteArray} (h : a = b) : Ending.returned (.string a) = .returned (.string b) := by rw [h]
theorem val_int {k : IntKind} {a b : Int} (h : a = b) : Value.int k a = .int k b := by rw [h]

def clampI (n : Int) : Int := min (max n 0) 8
theorem clampI_bd (n : Int) : 0 ≤ clampI n ∧ clampI n ≤ 8 := by unfold clampI; omega

theorem clamp_any (n : Int) (w : World) : Calls Tryz.prog 153 #[.int .i64 n] w fun e w' => e = .returned (.int .i64 (clampI n)) ∧ w = w' := by
  go_enter Tryz.func153, Tryz.ntmps153
  go_wp2
  all_goals go_ret
  all_goals exact ⟨ret_int (by unfold clampI; omega), rfl⟩

theorem size_any (n : Int) (w : World) : Calls Tryz.prog 132 #[.int .i64 n] w fun e w' => e = .returned (.int .i64 (clampI n)) ∧ w = w' := by
  go_enter Tryz.func132, Tryz.ntmps132
  go_wp2
  all_goals go_ret
  all_goals exact ⟨ret_int (by unfold clampI; omega), rfl⟩

theorem step_odd {r : Nat} (hr : r < 4294967296) (h : (bits BinOp.and IntKind.u32 (r : Int) 1 == 1) = true) : bits BinOp.xor IntKind.u32 ((r : Int) / 2) 3988292384 = (Crc.step r : Int) := by
  have e : bits BinOp.and IntKind.u32 (r : Int) 1 = ((r &&& 1 : Nat) : Int) := u32_and_nat r 1 hr (by omega)
  rw [e, Nat.and_one_is_mod] at h
  have h1 : r % 2 = 1 := by have := of_decide_eq_true h; omega
  have e2 : bits BinOp.xor IntKind.u32 ((r / 2 : Nat) : Int) ((3988292384 : Nat) : Int) = _ := u32_xor_nat (r / 2) 3988292384 (by omega) (by omega)
  unfold Crc.step; rw [if_pos h1]; exact e2
theorem step_evn {r : Nat} (hr : r < 4294967296) (h : (bits BinOp.and IntKind.u32 (r : Int) 1 == 1) = false) : (r : Int) / 2 = (Crc.step r : Int) := by
  have e : bits BinOp.and IntKind.u32 (r : Int) 1 = ((r &&& 1 : Nat) : Int) := u32_and_nat r 1 hr (by omega)
  rw [e, Nat.and_one_is_mod] at h
  have h1 : ¬ r % 2 = 1 := by have := of_decide_eq_false h; omega
  unfold Crc.step; rw [if_neg h1]; omega

theorem step_any (r : Nat) (hr : r < 4294967296) (w : World) : Calls Tryz.prog 187 #[.int .u32 r] w fun e w' => e = .returned (.int .u32 (Crc.step r)) ∧ w = w' := by
  go_enter Tryz.func187, Tryz.ntmps187
  go_wp2
  · go_ret
    exact ⟨ret_int (step_odd hr (by assumption)), rfl⟩
  · go_ret
    exact ⟨ret_int (step_evn hr (by assumption)), rfl⟩

/-- the register behind the first k bytes -/
def reg (s : ByteArray) (k : Nat) : Nat := Crc.crcFrom Crc.ones (s.data.toList.take k)
theorem reg_lt (s : ByteArray) (k : Nat) : reg s k < 4294967296 := Crc.crcFrom_lt (by decide) _
theorem reg_zero (s : ByteArray) : reg s 0 = 4294967295 := rfl
theorem reg_succ (s : ByteArray) (k : Nat) (h : k < s.size) : reg s (k + 1) = Crc.upd (reg s k) (s[k]).toNat := by
  unfold reg
  rw [List.take_succ_eq_append_getElem (by simpa using h), Crc.crcFrom_append]; rfl
theorem reg_end (s : ByteArray) : reg s s.size = Crc.crcFrom Crc.ones s.data.toList := by
  unfold reg; rw [List.take_of_length_le (by simp)]
theorem crc_reg (s : ByteArray) : Crc.crc s.data.toList = 4294967295 - reg s s.size := by rw [reg_end]; rfl

theorem xorByte {r b : Nat} (hr : r < 4294967296) (hb : b < 256) : bits BinOp.xor IntKind.u32 (r : Int) ((b : Int) % 4294967296) = ((r ^^^ b : Nat) : Int) := by
  rw [show (b : Int) % 4294967296 = (b : Int) from by omega]
  exact u32_xor_nat r b hr (by omega)
theorem refStep_odd {r : Nat} (hr : r < 4294967296) (h : ((r : Int) % 2 == 1) = true) : bits BinOp.xor IntKind.u32 ((r : Int) / 2) 3988292384 = (Crc.step r : Int) := by
  have e2 : bits BinOp.xor IntKind.u32 ((r / 2 : Nat) : Int) ((3988292384 : Nat) : Int) = _ := u32_xor_nat (r / 2) 3988292384 (by omega) (by omega)
  have h1 : (r : Int) % 2 = 1 := of_decide_eq_true h
  unfold Crc.step; rw [if_pos (by omega)]; exact e2
theorem refStep_evn {r : Nat} (h : ((r : Int) % 2 == 1) = false) : (r : Int) / 2 = (Crc.step r : Int) := by
  have h1 : ¬ (r : Int) % 2 = 1 := of_decide_eq_false h
  unfold Crc.step; rw [if_neg (by omega)]; omega

set_option maxHeartbeats 400000 in
theorem refSum_any (s : ByteArray) (w : World) (hs : s.size ≤ maxLen) : Calls Tryz.prog 80 #[.string s] w fun e w' => e = .returned (.int .u32 (Crc.crc s.data.toList)) ∧ w = w' := by
  unfold maxLen at hs
  go_enter Tryz.func80, Tryz.ntmps80
  go_wp2
  go_loop [3, 4] (fun c i => ∃ k : Nat, k ≤ s.size ∧ i = .int .i64 k ∧ c = .int .u32 (reg s k)) (fun _ i => s.size - (intOf i).toNat)
  case atStart => exact ⟨0, Nat.zero_le _, rfl, rfl⟩
  case round =>
    obtain ⟨k, hk, rfl, rfl⟩ := hrel
    have hb := reg_lt s k
    by_cases hlt : k < s.size
    · go_wp2
      go_loop [3, 5] (fun c i => ∃ j : Nat, j ≤ 8 ∧ i = .int .i64 j ∧ c = .int .u32 (Crc.steps j (reg s k ^^^ (s[k]).toNat))) (fun _ i => 8 - (intOf i).toNat)
      case atStart => exact ⟨0, by omega, rfl, val_int (xorByte hb (Crc.u8lt _))⟩
      case round =>
        obtain ⟨j, hj, rfl, rfl⟩ := hrel
        obtain ⟨x, hx⟩ : ∃ x, x = Crc.steps j (reg s k ^^^ (s[k]).toNat) := ⟨_, rfl⟩
        have hxl : x < 4294967296 := by rw [hx]; exact Crc.steps_lt _ (Nat.xor_lt_two_pow (n := 32) hb (by have := Crc.u8lt s[k]; omega))
        rw [← hx]
        have HX := Lib.hid hx; clear hx
        by_cases hj8 : j < 8
        · go_wp2
          · go_round
            case rel => exact ⟨j + 1, by omega, by go_num, val_int (by rw [Crc.steps_succ', ← HX.out]; exact refStep_odd hxl (by assumption))⟩
            case measure => simp [intOf]; omega
          · go_round
            case rel => exact ⟨j + 1, by omega, by go_num, val_int (by rw [Crc.steps_succ', ← HX.out]; exact refStep_evn (by assumption))⟩
            case measure => simp [intOf]; omega
        · go_wp2
          go_round
          case rel => exact ⟨k + 1, by omega, by go_num, val_int (by rw [reg_succ s k hlt, HX.out]; obtain rfl : j = 8 := (by omega); rfl)⟩
          case measure => simp [intOf]; omega
    · go_wp2
      go_ret
      exact ⟨ret_int (by rw [crc_reg]; (have : k = s.size := (by omega)); subst this; omega), rfl⟩

end Go.Proofs.YtfncldaodbfakaaGreat.O
