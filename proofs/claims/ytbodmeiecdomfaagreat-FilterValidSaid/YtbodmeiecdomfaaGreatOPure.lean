/-
  What the functions of octet and of the reference that only compute return (contracts of their calls).
-/
import Derived.Test.YtbodmeiecdomfaaGreatOCrc
import Derived.Test.YtbodmeiecdomfaaGreatRows
import Derived.WalkKit
import Derived.WalkSpells
import Derived.WalkLawsBesides
import Derived.Laws.BitsAllLaws
import Derived.PlainAid
import Derived.Lib.Hide
namespace Go.Proofs.YtbodmeiecdomfaaGreat.O
open Go.RowKit

theorem ret_int {k : IntKind} {a b : Int} (h : a = b) : Ending.returned (.int k a) = .returned (.int k b) := by rw [h]
theorem ret_str {a b : ByteArray} (h : a = b) : Ending.returned (.string a) = .returned (.string b) := by rw [h]
theorem val_int {k : IntKind} {a b : Int} (h : a = b) : Value.int k a = .int k b := by rw [h]

def clampI (n : Int) : Int := min (max n 0) 8
theorem clampI_bd (n : Int) : 0 ≤ clampI n ∧ clampI n ≤ 8 := by unfold clampI; omega

theorem step_odd {r : Nat} (hr : r < 4294967296) (h : (bits BinOp.and IntKind.u32 (r : Int) 1 == 1) = true) : bits BinOp.xor IntKind.u32 ((r : Int) / 2) 3988292384 = (Crc.step r : Int) := by
  have e : bits BinOp.and IntKind.u32 (r : Int) 1 = ((r &&& 1 : Nat) : Int) := u32_and_nat r 1 hr (by omega)
  rw [e, Nat.and_one_is_mod] at h
  have h1 : r % 2 = 1 := by have := of_decide_eq_true h; omega
  have e2 : bits BinOp.xor IntKind.u32 ((r / 2 : Nat) : Int) ((3988292384 : Nat) : Int) = _ := u32_xor_nat (r / 2) 3988292384 (by omega) (by omega)
  unfold Crc.step; rw [if_pos h1]; exact e2
theorem step_evn {r : Nat} (hr : r < 4294967296) (h : (bits BinOp.and IntKind.u32 (r : Int) 1 == 1) = false) : (r : Int) / 2 = (Crc.step r : Int) := by
  have e : bits BinOp.and IntKind.u32 (r : Int) 1 = ((r &&& 1 : Nat) : Int) := u32_and_nat r 1 hr (by omega)
  rw [e, Nat.and_one_is_mod] at h
  have h1 : ¬ r % 2 = 1 := by have := of_decide_eq_false h; omega
  unfold Crc.step; rw [if_neg h1]; omega

/-- the register behind the first k bytes -/
def reg (s : ByteArray) (k : Nat) : Nat := Crc.crcFrom Crc.ones (s.data.toList.take k)
theorem reg_lt (s : ByteArray) (k : Nat) : reg s k < 4294967296 := Crc.crcFrom_lt (by decide) _
theorem reg_zero (s : ByteArray) : reg s 0 = 4294967295 := rfl
theorem reg_succ (s : ByteArray) (k : Nat) (h : k < s.size) : reg s (k + 1) = Crc.upd (reg s k) (s[k]).toNat := by
  unfold reg
  rw [List.take_succ_eq_append_getElem (by simpa using h), Crc.crcFrom_append]; rfl
theorem reg_end (s : ByteArray) : reg s s.size = Crc.crcFrom Crc.ones s.data.toList := by
  unfold reg; rw [List.take_of_length_le (by simp)]
theorem crc_reg (s : ByteArray) : Crc.crc s.data.toList = 4294967295 - reg s s.size := by rw [reg_end]; rfl

theorem xorByte {r b : Nat} (hr : r < 4294967296) (hb : b < 256) : bits BinOp.xor IntKind.u32 (r : Int) ((b : Int) % 4294967296) = ((r ^^^ b : Nat) : Int) := by
  rw [show (b : Int) % 4294967296 = (b : Int) from by omega]
  exact u32_xor_nat r b hr (by omega)
theorem refStep_odd {r : Nat} (hr : r < 4294967296) (h : ((r : Int) % 2 == 1) = true) : bits BinOp.xor IntKind.u32 ((r : Int) / 2) 3988292384 = (Crc.step r : Int) := by
  have e2 : bits BinOp.xor IntKind.u32 ((r / 2 : Nat) : Int) ((3988292384 : Nat) : Int) = _ := u32_xor_nat (r / 2) 3988292384 (by omega) (by omega)
  have h1 : (r : Int) % 2 = 1 := of_decide_eq_true h
  unfold Crc.step; rw [if_pos (by omega)]; exact e2
theorem refStep_evn {r : Nat} (h : ((r : Int) % 2 == 1) = false) : (r : Int) / 2 = (Crc.step r : Int) := by
  have h1 : ¬ (r : Int) % 2 = 1 := of_decide_eq_false h
  unfold Crc.step; rw [if_neg (by omega)]; omega

end Go.Proofs.YtbodmeiecdomfaaGreat.O
