/-
  A reader in memory; Used, push (contracts).
-/
import Derived.Test.YtbfnahclkajahaaCEnc
namespace Go.Proofs.Ytbfnahclkajahaa.C
open Go.RowKit Go.Shelf
set_option maxRecDepth 100000
variable {W w w' : World} {L : List (Nat × Obj)}

/-- what a reader holds behind the bounds -/
abbrev rr (s : ByteArray) (v n : Nat) : List Value := [.string s, .int .u32 (v : Int), .int .i64 (n : Int)]
abbrev rmob (d : Nat → Int) (lo hi : Nat) (s : ByteArray) (v n : Nat) : Obj := mob 70 d (iv lo hi (rr s v n))
theorem sx_lt (s : ByteArray) (k : Nat) (h : k < s.size) : sx s.data.toList k = s[k].toNat := by unfold sx; rw [toL s k h]; rfl
theorem sx_ge (s : ByteArray) (k : Nat) (h : ¬ k < s.size) : sx s.data.toList k = 0 := by
  unfold sx; rw [List.getElem?_eq_none (by rw [Array.length_toList]; exact Nat.le_of_not_lt h)]; rfl
theorem or_low {a b : Nat} (hb : b < 256) (ha : a * 256 < 4294967296) : bits BinOp.or IntKind.u32 ((a * 256 : Nat) : Int) (b : Int) = ((a * 256 + b : Nat) : Int) := by
  have h := u32_or_nat (a * 256) b ha (by omega)
  rw [show a * 256 ||| b = a * 256 + b by
    have := Nat.shiftLeft_add_eq_or_of_lt (i := 8) (b := b) (by omega) a
    rw [Nat.shiftLeft_eq] at this; exact this.symm] at h
  exact h
theorem used_any (b n : Nat) (d : Nat → Int) (lo hi v : Nat) (s : ByteArray) (w : World) (h : HS W ((b, rmob d lo hi s v n) :: L) w) (hn : n ≤ 1000000) :
    Calls Try.prog 27 #[.pointer (some ⟨b, 0, none⟩)] w fun e w' => e = .returned (.int .i64 ((4 + n : Nat) : Int)) ∧ w = w' := by
  have hc : w.cell? ⟨b, 260, none⟩ = some (.int .i64 (n : Int)) := h.hd_r 4
  go_enter Try.func27, Try.ntmps27
  go_wp2
  go_ret
  exact ⟨ret_int (by omega), rfl⟩
theorem usedNil_any (w : World) : Calls Try.prog 27 #[.pointer none] w fun e w' => e = .returned (.int .i64 0) ∧ w = w' := by
  go_enter Try.func27, Try.ntmps27
  go_wp2
  go_ret
  exact ⟨rfl, rfl⟩
set_option maxHeartbeats 1000000 in
theorem push_any (b k n : Nat) (d : Nat → Int) (lo hi v : Nat) (s : ByteArray) (w : World) (h : HS W ((b, rmob d lo hi s v n) :: L) w) :
    Calls Try.prog 42 #[.pointer (some ⟨b, 0, none⟩), .int .i64 k] w fun e w' => e = .returned (.tuple #[]) ∧ HS W ((b, rmob d lo hi s ((v * 256 + sx s.data.toList k) % 4294967296) n) :: L) w' := by
  have hc2 : w.cell? ⟨b, 258, none⟩ = some (.string s) := h.hd_r 2
  have hc3 : w.cell? ⟨b, 259, none⟩ = some (.int .u32 (v : Int)) := h.hd_r 3
  have hf := h.hfro 259
  have hput := fun (x : Nat) => h.putr 3 (.int .u32 (x : Int))
  have HP : Hid (∀ x : Nat, HS W ((b, rmob d lo hi s x n) :: L) (w.setCell ⟨b, 259, none⟩ (.int .u32 (x : Int)))) := hput
  clear hput h
  have hsh : (v : Int) * 256 % 4294967296 = ((v * 256 % 4294967296 : Nat) : Int) := by omega
  have hor : ∀ y : Nat, y < 256 → bits BinOp.or IntKind.u32 ((v : Int) * 256 % 4294967296) (y : Int) = (((v * 256 + y) % 4294967296 : Nat) : Int) := fun y hy => by
    have e : v * 256 % 4294967296 = (v % 16777216) * 256 := by omega
    rw [hsh, e, or_low hy (by omega)]
    congr 1; omega
  by_cases hlt : k < s.size
  · have hy := hor s[k].toNat (byt_lt _)
    have HX := Lib.hid (sx_lt s k hlt)
    clear hor hsh
    go_enter Try.func42, Try.ntmps42
    go_wp2
    refine bodyPost_end (results_none rfl _ _ _) rfl ⟨rfl, ?_⟩
    rw [HX.out]
    have hY := byt_lt s[k]
    exact HS.val (by rw [show (s[k].toNat : Int) % 4294967296 = s[k].toNat by omega]; exact hy) (HP.out _)
  · have hy := hor 0 (by omega)
    rw [show ((0 : Nat) : Int) = 0 from rfl] at hy
    have HX := Lib.hid (sx_ge s k hlt)
    clear hor hsh
    go_enter Try.func42, Try.ntmps42
    go_wp2
    refine bodyPost_end (results_none rfl _ _ _) rfl ⟨rfl, ?_⟩
    rw [HX.out]
    exact HP.out _
end Go.Proofs.Ytbfnahclkajahaa.C
