/-
  What octet's Reader does, as functions on lists of bytes, and the contracts of its methods. The contracts of the methods Var, Text and Num of octet's Reader.
-/
import Derived.Test.YtfncldaodbfakaaGreatONum
import Derived.Deep.QuietTactic
import Derived.BigQuiet
namespace Go.Proofs.YtfncldaodbfakaaGreat.O
open Go.RowKit
set_option maxRecDepth 100000

/-- n (64 bits) as an int -/
def i64of (n : Nat) : Int := if n < 9223372036854775808 then n else (n : Int) - 18446744073709551616

def tk (S : List UInt8) (p : Nat) (f : Bool) (n : Int) : List UInt8 × Nat × Bool :=
  if f = true ∨ n < 0 ∨ (S.length : Int) - p < n then ([], p, true) else ((S.drop p).take n.toNat, p + n.toNat, false)
def nm (S : List UInt8) (p : Nat) (f : Bool) (z : Int) : Int × Nat × Bool :=
  (i64of (Leb.be (tk S p f (clampI z)).1), (tk S p f (clampI z)).2)
def vrGo (p : Nat) : Option (Nat × Nat) → Int × Nat × Bool
  | none => (0, p, true)
  | some (n, g) => (i64of n, p + g, false)
def vr (S : List UInt8) (p : Nat) (f : Bool) : Int × Nat × Bool :=
  if f = true then (0, p, true) else vrGo p (Leb.dec (S.drop p))
def tx (S : List UInt8) (p : Nat) (f : Bool) : List UInt8 × Nat × Bool :=
  if (tk S (vr S p f).2.1 (vr S p f).2.2 (vr S p f).1).2.2 = true then ([], p, true) else tk S (vr S p f).2.1 (vr S p f).2.2 (vr S p f).1

/-- the reader in block b of memory -/
def Rd (w : World) (b : Nat) (s : ByteArray) (p : Nat) (f : Bool) : Prop := w.heap[b]? = some (.cells #[.string s, .int .i64 p, .bool f] 172 (0, 0))
theorem Rd.cells {w : World} {b : Nat} {s : ByteArray} {p : Nat} {f : Bool} (h : Rd w b s p f) :
    w.cell? ⟨b, 0, none⟩ = some (.string s) ∧ w.cell? ⟨b, 1, none⟩ = some (.int .i64 p) ∧ w.cell? ⟨b, 2, none⟩ = some (.bool f) ∧ w.frozen? ⟨b, 1, none⟩ = false ∧ w.frozen? ⟨b, 2, none⟩ = false :=
  ⟨by rw [cell_of_row _ _ _ _ _ _ h]; rfl, by rw [cell_of_row _ _ _ _ _ _ h]; rfl, by rw [cell_of_row _ _ _ _ _ _ h]; rfl, frozen_of_row _ _ _ _ _ h, frozen_of_row _ _ _ _ _ h⟩
theorem Rd.setAt {w : World} {b : Nat} {s : ByteArray} {p : Nat} {f : Bool} (h : Rd w b s p f) (q : Nat) {v : Value} (hv : v = .int .i64 q) : Rd (w.setCell ⟨b, 1, none⟩ v) b s q f := by
  subst hv; unfold Rd; rw [heap_setCell_same _ _ _ _ _ _ h]; rfl
theorem Rd.setFailed {w : World} {b : Nat} {s : ByteArray} {p : Nat} {f : Bool} (h : Rd w b s p f) : Rd (w.setCell ⟨b, 2, none⟩ (.bool true)) b s p true := by
  unfold Rd; rw [heap_setCell_same _ _ _ _ _ _ h]; rfl
theorem grown_setCell (w : World) (b i : Nat) (v : Value) : w.grownBy (w.setCell ⟨b, i, none⟩ v) (some b) :=
  ⟨rfl, rfl, rfl, by simp, fun k _ hk => heap_setCell_other _ _ _ _ (by intro e; apply hk; rw [e])⟩
theorem grown_trans {a b c : World} {r : Option Nat} (h : a.grownBy b r) (k : b.grownBy c r) : a.grownBy c r :=
  ⟨k.os.trans h.os, k.tape.trans h.tape, k.output.trans h.output, Nat.le_trans h.size k.size, fun i h1 h2 => (k.block i (Nat.lt_of_lt_of_le h1 h.size) h2).trans (h.block i h1 h2)⟩
theorem grown_none {a b : World} {r : Option Nat} (h : a.grownBy b none) : a.grownBy b r := ⟨h.os, h.tape, h.output, h.size, fun i h1 _ => h.block i h1 (by simp)⟩
theorem grown_drewN (w : World) (n : Nat) (r : Option Nat) : w.grownBy (w.drewN n) r := ⟨rfl, rfl, rfl, Nat.le_refl _, fun _ _ _ => rfl⟩
theorem Rd.drewN {w : World} {b : Nat} {s : ByteArray} {p : Nat} {f : Bool} (h : Rd w b s p f) (n : Nat) : Rd (w.drewN n) b s p f := h
/-- another reader's block stays as it is -/
theorem Rd.kept {w w' : World} {b c : Nat} {s : ByteArray} {p : Nat} {f : Bool} (h : Rd w b s p f) (hg : w.grownBy w' (some c)) (hne : b ≠ c) : Rd w' b s p f := by
  unfold Rd at *; rw [hg.block b ?_ (by intro e; injection e with e; exact hne e)]
  · exact h
  · exact (Array.getElem?_eq_some_iff.1 h).1
theorem Rd.keptB {w w' : World} {b B : Nat} {s : ByteArray} {p : Nat} {f : Bool} (h : Rd w b s p f) (hg : Below B w w') (hne : b < B) : Rd w' b s p f := by
  unfold Rd at *; rw [hg.block b hne]; exact h

theorem failed_nil (w : World) : Calls Tryz.prog 62 #[.pointer none] w fun e w' => e = .returned (.bool true) ∧ w = w' := by
  go_enter Tryz.func62, Tryz.ntmps62
  go_wp2
  go_ret
  exact ⟨rfl, rfl⟩
theorem failed_any (b : Nat) (s : ByteArray) (p : Nat) (f : Bool) (w : World) (h : Rd w b s p f) : Calls Tryz.prog 62 #[.pointer (some ⟨b, 0, none⟩)] w fun e w' => e = .returned (.bool f) ∧ w = w' := by
  obtain ⟨c0, c1, c2, f1, f2⟩ := h.cells
  have HR := Lib.hid h; clear h
  go_enter Tryz.func62, Tryz.ntmps62
  go_wp2
  go_ret
  exact ⟨rfl, rfl⟩
theorem left_nil (w : World) : Calls Tryz.prog 117 #[.pointer none] w fun e w' => e = .returned (.int .i64 0) ∧ w = w' := by
  go_enter Tryz.func117, Tryz.ntmps117
  go_wp2
  go_ret
  exact ⟨rfl, rfl⟩
theorem left_any (b : Nat) (s : ByteArray) (p : Nat) (f : Bool) (w : World) (h : Rd w b s p f) (hp : p ≤ s.size) (hs : s.size ≤ 9223372036854775807) :
    Calls Tryz.prog 117 #[.pointer (some ⟨b, 0, none⟩)] w fun e w' => e = .returned (.int .i64 ((s.size : Int) - p)) ∧ ∃ n, w' = w.drewN n := by
  obtain ⟨c0, c1, c2, f1, f2⟩ := h.cells
  have HR := Lib.hid h; clear h
  go_enter Tryz.func117, Tryz.ntmps117
  go_wp2
  go_quiet (fail)
  go_wp2
  go_ret
  exact ⟨rfl, _, rfl⟩
theorem read_any (s : ByteArray) (w : World) : Calls Tryz.prog 59 #[.string s] w fun e w' => e = .returned (.pointer (some ⟨w.heap.size, 0, none⟩)) ∧ Rd w' w.heap.size s 0 false ∧ Below w.heap.size w w' ∧ w.heap.size < w'.heap.size := by
  go_enter Tryz.func59, Tryz.ntmps59
  go_wp2
  go_ret
  exact ⟨rfl, heap_alloc_new _ _, (Below.refl _ _).alloc (Nat.le_refl _) _, by simp⟩

theorem extract_str (s : ByteArray) (p n : Nat) : s.extract p (p + n) = str ((s.data.toList.drop p).take n) := by
  apply ByteArray.ext
  simp [str, ByteArray.data_extract]
  apply Array.ext'
  simp

theorem take_nil (n : Int) (w : World) : Calls Tryz.prog 61 #[.pointer none, .int .i64 n] w fun e w' => e = .returned (.string (str [])) ∧ w = w' := by
  go_enter Tryz.func61, Tryz.ntmps61
  go_wp2_with (go_at_call 62; refine (failed_nil _).mono ?_; rintro e w1 ⟨rfl, rfl⟩)
  go_ret
  exact ⟨rfl, rfl⟩
theorem take_any (b : Nat) (s : ByteArray) (p : Nat) (f : Bool) (n : Int) (w : World) (h : Rd w b s p f) (hp : p ≤ s.size) (hs : s.size ≤ 9223372036854775807) :
    Calls Tryz.prog 61 #[.pointer (some ⟨b, 0, none⟩), .int .i64 n] w fun e w' => e = .returned (.string (str (tk s.data.toList p f n).1)) ∧ Rd w' b s (tk s.data.toList p f n).2.1 (tk s.data.toList p f n).2.2 ∧ w.grownBy w' (some b) := by
  have hlen : s.data.toList.length = s.size := Array.length_toList
  by_cases hf : f = true
  · subst hf
    have e : tk s.data.toList p true n = ([], p, true) := by unfold tk; simp
    rw [e]
    have HR := Lib.hid h; clear h hlen e
    go_enter Tryz.func61, Tryz.ntmps61
    go_wp2_with (go_at_call 62; refine (failed_any _ _ _ _ _ HR.out).mono ?_; rintro e w1 ⟨rfl, rfl⟩)
    go_ret
    exact ⟨rfl, HR.out, World.grownBy.refl _ _⟩
  · have hf : f = false := by simpa using hf
    subst hf
    obtain ⟨c0, c1, c2, f1, f2⟩ := h.cells
    by_cases hneg : n < 0
    · have e : tk s.data.toList p false n = ([], p, true) := by unfold tk; rw [if_pos (by simp [hneg])]
      rw [e]
      have HR := Lib.hid h; clear h hlen e
      go_enter Tryz.func61, Tryz.ntmps61
      go_wp2_with (go_at_call 62; refine (failed_any _ _ _ _ _ HR.out).mono ?_; rintro e w1 ⟨rfl, rfl⟩)
      go_ret
      exact ⟨rfl, HR.out.setFailed, grown_setCell _ _ _ _⟩
    · by_cases hbig : (s.size : Int) - p < n
      · have e : tk s.data.toList p false n = ([], p, true) := by unfold tk; rw [if_pos (by rw [hlen]; simp [hbig])]
        rw [e]
        have HR := Lib.hid h; clear h hlen e
        go_enter Tryz.func61, Tryz.ntmps61
        go_wp2_with (first | (go_at_call 62; refine (failed_any _ _ _ _ _ HR.out).mono ?_; rintro e w1 ⟨rfl, rfl⟩) | (go_at_call 117; refine (left_any _ _ _ _ _ HR.out hp hs).mono ?_; rintro e w1 ⟨rfl, k, rfl⟩))
        go_ret
        exact ⟨rfl, Rd.setFailed (HR.out.drewN k), grown_trans (grown_drewN _ _ _) (grown_setCell _ _ _ _)⟩
      · have e : tk s.data.toList p false n = ((s.data.toList.drop p).take n.toNat, p + n.toNat, false) := by unfold tk; rw [if_neg (by rw [hlen]; simp [hneg, hbig])]
        rw [e]
        have HR := Lib.hid h; clear h hlen e
        go_enter Tryz.func61, Tryz.ntmps61
        go_wp2_with (first | (go_at_call 62; refine (failed_any _ _ _ _ _ HR.out).mono ?_; rintro e w1 ⟨rfl, rfl⟩) | (go_at_call 117; refine (left_any _ _ _ _ _ HR.out hp hs).mono ?_; rintro e w1 ⟨rfl, k, rfl⟩))
        go_quiet (fail)
        go_wp2
        go_ret
        obtain ⟨m, rfl⟩ := Int.eq_ofNat_of_zero_le hneg
        refine ⟨ret_str ?_, (Rd.setAt (HR.out.drewN k) (p + m) (val_int (by omega))).drewN _, grown_trans (grown_trans (grown_drewN _ _ _) (grown_setCell _ _ _ _)) (grown_drewN _ _ _)⟩
        rw [show ((p : Int) + (m : Int)).toNat = p + m from by omega, extract_str]; rfl

def decV : Option (Nat × Nat) → Value
  | none => .tuple #[.int .u64 0, .int .i64 0, .bool false]
  | some (n, g) => .tuple #[.int .u64 n, .int .i64 g, .bool true]

theorem acc_eq {acc b k : Nat} (hb : b < 256) (hk : k ≤ 9) (h9 : k = 9 → b ≤ 1) (ha : acc < 128 ^ k) :
    bits BinOp.or IntKind.u64 (acc : Int) (IntKind.u64.wrap (IntKind.u64.wrap (bits BinOp.and IntKind.u8 (b : Int) 127) * 2 ^ (7 * k))) = ((acc + b % 128 * 128 ^ k : Nat) : Int) := by
  have e1 := u8_and_nat b 127 hb (by omega)
  have e2 : b &&& 127 = b % 128 := Nat.and_two_pow_sub_one_eq_mod b 7
  rw [e2] at e1
  have e0 : bits BinOp.and IntKind.u8 (b : Int) 127 = ((b % 128 : Nat) : Int) := e1
  have p1 : (128 : Nat) ^ k = 2 ^ (7 * k) := by rw [Nat.pow_mul]
  have hx : b % 128 * 2 ^ (7 * k) < 18446744073709551616 := by
    by_cases e : k = 9
    · subst e
      have := h9 rfl
      have : b % 128 ≤ 1 := by omega
      exact Nat.lt_of_le_of_lt (Nat.mul_le_mul_right _ this) (by decide)
    · have h1 : 2 ^ (7 * k) ≤ 2 ^ (7 * 8) := Nat.pow_le_pow_right (by omega) (by omega)
      have h2 : b % 128 * 2 ^ (7 * k) ≤ 128 * 2 ^ (7 * 8) := Nat.mul_le_mul (by omega) h1
      have h3 : 128 * 2 ^ (7 * 8) < 18446744073709551616 := by decide
      omega
  have ha64 : acc < 18446744073709551616 := by
    refine Nat.lt_of_lt_of_le ha (Nat.le_trans (Nat.pow_le_pow_right (by omega) hk) (by decide))
  rw [e0, IntKind.wrap_u64, IntKind.wrap_u64]
  have e3 : ((b % 128 : Nat) : Int) % 18446744073709551616 = ((b % 128 : Nat) : Int) := by omega
  rw [e3, show ((b % 128 : Nat) : Int) * 2 ^ (7 * k) = ((b % 128 * 2 ^ (7 * k) : Nat) : Int) from by rw [Int.natCast_mul, Int.natCast_pow]; rfl]
  rw [show ((b % 128 * 2 ^ (7 * k) : Nat) : Int) % 18446744073709551616 = ((b % 128 * 2 ^ (7 * k) : Nat) : Int) from by
    generalize b % 128 * 2 ^ (7 * k) = y at hx; omega]
  have e5 := u64_or_nat acc (b % 128 * 2 ^ (7 * k)) ha64 hx
  rw [e5]
  congr 1
  rw [p1] at ha ⊢
  rw [Nat.or_comm, Nat.mul_comm, ← Nat.two_pow_add_eq_or_of_lt ha, Nat.add_comm]

theorem acc_eq9 {acc b : Nat} (hb : b ≤ 1) (ha : acc < 128 ^ 9) :
    bits BinOp.or IntKind.u64 (acc : Int) (IntKind.u64.wrap (IntKind.u64.wrap (bits BinOp.and IntKind.u8 (b : Int) 127) * 9223372036854775808)) = ((acc + b % 128 * 128 ^ 9 : Nat) : Int) := by
  have h := acc_eq (k := 9) (b := b) (by omega) (by omega) (fun _ => hb) ha
  have e : (2 : Int) ^ (7 * 9) = 9223372036854775808 := by simp
  rw [e] at h
  exact h
theorem dec_cons (s : ByteArray) (k : Nat) (h : k < s.size) : s.data.toList.drop k = s[k] :: s.data.toList.drop (k + 1) := by
  rw [List.drop_eq_getElem_cons (by simpa using h)]; rfl
theorem ret_none {S : List UInt8} (h : Leb.dec S = none) : Ending.returned (.tuple #[.int .u64 0, .int .i64 0, .bool false]) = .returned (decV (Leb.dec S)) := by rw [h]; rfl
theorem ret_some {S : List UInt8} {n g : Nat} (h : Leb.dec S = some (n, g)) {x y : Int} (hx : x = n) (hy : y = g) : Ending.returned (.tuple #[.int .u64 x, .int .i64 y, .bool true]) = .returned (decV (Leb.dec S)) := by rw [h, hx, hy]; rfl

theorem dec_a {s : ByteArray} {k acc : Nat} (H : Leb.dec s.data.toList = Leb.decG k acc (s.data.toList.drop k)) (hlt : k < s.size) (h : k = 9) (hb : 1 < (s[k]).toNat) : Leb.dec s.data.toList = none := by rw [H, dec_cons s k hlt]; simp [Leb.decG, h] at hb ⊢; intro h2; omega
theorem dec_b {s : ByteArray} {k acc : Nat} (H : Leb.dec s.data.toList = Leb.decG k acc (s.data.toList.drop k)) (hlt : k < s.size) (hb : (s[k]).toNat = 0) (hk : 0 < k) : Leb.dec s.data.toList = none := by rw [H, dec_cons s k hlt]; simp [Leb.decG, hb, hk]
theorem dec_c {s : ByteArray} {k acc : Nat} (H : Leb.dec s.data.toList = Leb.decG k acc (s.data.toList.drop k)) (hlt : k < s.size) (h9 : k = 9 → (s[k]).toNat ≤ 1) (hb : (s[k]).toNat < 128) (hz : ¬ ((s[k]).toNat = 0 ∧ 0 < k)) : Leb.dec s.data.toList = some (acc + (s[k]).toNat % 128 * 128 ^ k, k + 1) := by
  rw [H, dec_cons s k hlt]; simp only [Leb.decG]; rw [if_neg (by rintro ⟨a, b⟩; have := h9 a; omega), if_pos hb, if_neg hz]
theorem dec_d {s : ByteArray} {k acc : Nat} (H : Leb.dec s.data.toList = Leb.decG k acc (s.data.toList.drop k)) (hlt : k < s.size) (h9 : k ≠ 9) (hb : 128 ≤ (s[k]).toNat) : Leb.dec s.data.toList = Leb.decG (k + 1) (acc + (s[k]).toNat % 128 * 128 ^ k) (s.data.toList.drop (k + 1)) := by
  rw [H, dec_cons s k hlt]; simp only [Leb.decG]; rw [if_neg (by rintro ⟨a, b⟩; exact h9 a), if_neg (by omega)]
theorem dec_e {s : ByteArray} {k acc : Nat} (H : Leb.dec s.data.toList = Leb.decG k acc (s.data.toList.drop k)) (hk : ¬ k < s.size) : Leb.dec s.data.toList = none := by
  rw [H, List.drop_eq_nil_of_le (by rw [Array.length_toList]; exact Nat.le_of_not_lt hk)]; rfl
theorem acc_lt {acc b k : Nat} (ha : acc < 128 ^ k) : acc + b % 128 * 128 ^ k < 128 ^ (k + 1) := by
  rw [Nat.pow_succ]
  have : b % 128 * 128 ^ k ≤ 127 * 128 ^ k := Nat.mul_le_mul_right _ (by omega)
  omega

set_option maxHeartbeats 1000000 in
set_option maxRecDepth 100000 in
theorem dec_any (s : ByteArray) (w : World) (hs : s.size ≤ 9223372036854775807) : Calls Tryz.prog 156 #[.string s] w fun e w' => e = .returned (decV (Leb.dec s.data.toList)) ∧ w = w' := by
  go_enter Tryz.func156, Tryz.ntmps156
  go_wp2
  go_loop [2, 10] (fun n i => ∃ k acc : Nat, k ≤ s.size ∧ k ≤ 9 ∧ i = .int .i64 k ∧ n = .int .u64 acc ∧ Hid (Leb.dec s.data.toList = Leb.decG k acc (s.data.toList.drop k)) ∧ Hid (acc < 128 ^ k)) (fun _ i => s.size - (intOf i).toNat)
  case atStart => exact ⟨0, 0, by omega, by omega, rfl, rfl, rfl, by simp [Hid]⟩
  case round =>
    obtain ⟨k, acc, hk, hk9, rfl, rfl, H1, H2⟩ := hrel
    by_cases hlt : k < s.size
    · by_cases h9 : k = 9
      · subst h9
        by_cases hb1 : 1 < (s[9]).toNat
        · go_wp2
          go_ret3
          exact ⟨ret_none (dec_a H1.out hlt rfl hb1), rfl⟩
        · by_cases hb0 : (s[9]).toNat = 0
          · have HZ := Lib.hid hb0
            go_wp2
            go_ret3
            exact ⟨ret_none (dec_b H1.out hlt HZ.out (by omega)), rfl⟩
          · go_wp2
            go_ret3
            exact ⟨ret_some (dec_c H1.out hlt (fun _ => by omega) (by omega) (by omega)) (acc_eq9 (by omega) H2.out) rfl, rfl⟩
      · by_cases hb : (s[k]).toNat < 128
        · by_cases hb0 : (s[k]).toNat = 0
          · by_cases hk0 : 0 < k
            · have HZ := Lib.hid hb0
              go_wp2
              go_ret3
              exact ⟨ret_none (dec_b H1.out hlt HZ.out hk0), rfl⟩
            · have HZ := Lib.hid hb0
              go_wp2
              go_ret3
              exact ⟨ret_some (dec_c H1.out hlt (fun _ => by omega) (by omega) (by omega)) (by rw [← acc_eq (Crc.u8lt _) (by omega) (fun _ => by omega) H2.out, HZ.out]; rfl) (by omega), rfl⟩
          · go_wp2
            go_ret3
            exact ⟨ret_some (dec_c H1.out hlt (fun _ => by omega) hb (by omega)) (acc_eq (Crc.u8lt _) (by omega) (fun _ => by omega) H2.out) (by omega), rfl⟩
        · go_wp2
          go_round
          case rel => exact ⟨k + 1, _, by omega, by omega, by go_num, val_int (acc_eq (Crc.u8lt _) (by omega) (fun _ => by omega) H2.out), dec_d H1.out hlt h9 (by omega), acc_lt H2.out⟩
          case measure => simp [intOf]; omega
    · go_wp2
      go_ret3
      exact ⟨ret_none (dec_e H1.out hlt), rfl⟩
end Go.Proofs.YtfncldaodbfakaaGreat.O

namespace Go.Proofs.YtfncldaodbfakaaGreat.O
open Go.RowKit
set_option maxRecDepth 100000

theorem quiet_same {P : Program} {f : FuncId} {args : Array Value} {w : World} {n : Nat} {v : Value}
    (h : Calls P f args (w.drewN n) fun e w' => e = .returned v ∧ w.drewN n = w') : Calls P f args (w.drewN n) fun e w'' => e = .returned v ∧ ∃ m, w'' = w.drewN m :=
  h.mono fun _ _ ⟨he, hm⟩ => ⟨he, n, hm.symm⟩
theorem quiet_draw {P : Program} {f : FuncId} {args : Array Value} {w : World} {n : Nat} {v : Value}
    (h : Calls P f args (w.drewN n) fun e w' => e = .returned v ∧ ∃ m, w' = (w.drewN n).drewN m) : Calls P f args (w.drewN n) fun e w'' => e = .returned v ∧ ∃ m, w'' = w.drewN m :=
  Calls.quiet_of h

theorem extract_end (s : ByteArray) (p : Nat) : (s.extract p s.size).data.toList = s.data.toList.drop p := by
  have e : (s.extract p s.size).data.toList = List.take (s.size - p) (List.drop p s.data.toList) := by simp [ByteArray.data_extract]
  rw [e, List.take_of_length_le (by rw [List.length_drop, Array.length_toList]; exact Nat.le_refl _)]

theorem var_read_nil (w : World) : Calls Tryz.prog 116 #[.pointer none] w fun e w' => e = .returned (.int .i64 0) ∧ w = w' := by
  go_enter Tryz.func116, Tryz.ntmps116
  go_wp2_with (go_at_call 62; refine (failed_nil _).mono ?_; rintro e w1 ⟨rfl, rfl⟩)
  go_ret
  exact ⟨rfl, rfl⟩

theorem i64of_wrap {n : Nat} (h : n < 18446744073709551616) : IntKind.i64.wrap (n : Int) = i64of n := by
  rw [IntKind.wrap_i64]; unfold i64of; split <;> omega

set_option maxHeartbeats 400000 in
set_option maxRecDepth 100000 in
theorem var_read (b : Nat) (s : ByteArray) (p : Nat) (f : Bool) (w : World) (h : Rd w b s p f) (hp : p ≤ s.size) (hs : s.size ≤ 9223372036854775807) :
    Calls Tryz.prog 116 #[.pointer (some ⟨b, 0, none⟩)] w fun e w' => e = .returned (.int .i64 (vr s.data.toList p f).1) ∧ Rd w' b s (vr s.data.toList p f).2.1 (vr s.data.toList p f).2.2 ∧ w.grownBy w' (some b) := by
  by_cases hf : f = true
  · subst hf
    have HR := Lib.hid h; clear h
    go_enter Tryz.func116, Tryz.ntmps116
    go_wp2_with (go_at_call 62; refine (failed_any _ _ _ _ _ HR.out).mono ?_; rintro e w1 ⟨rfl, rfl⟩)
    go_ret
    exact ⟨rfl, HR.out, World.grownBy.refl _ _⟩
  · have hf : f = false := by simpa using hf
    subst hf
    obtain ⟨c0, c1, c2, f1, f2⟩ := h.cells
    have hsz : (s.extract p s.size).size ≤ 9223372036854775807 := by
      have : (s.extract p s.size).size ≤ s.size := by rw [ByteArray.size_extract]; omega
      omega
    cases hd : Leb.dec (s.data.toList.drop p) with
    | none =>
      have HC : Hid (∀ w, Calls Tryz.prog 156 #[.string (s.extract p s.size)] w fun e w' => e = .returned (.tuple #[.int .u64 0, .int .i64 0, .bool false]) ∧ w = w') := fun w => by
        have := dec_any (s.extract p s.size) w hsz
        rw [extract_end, hd] at this; exact this
      have e : vr s.data.toList p false = (0, p, true) := by unfold vr; rw [if_neg (by simp), hd]; rfl
      rw [e]
      have HR := Lib.hid h; clear h e hd hsz
      go_enter Tryz.func116, Tryz.ntmps116
      go_wp2_with (go_at_call 62; refine (failed_any _ _ _ _ _ HR.out).mono ?_; rintro e w1 ⟨rfl, rfl⟩)
      go_quiet ((go_at_call 156; exact quiet_same (HC.out _)))
      go_wp2
      go_ret
      exact ⟨rfl, (HR.out.drewN _).setFailed, grown_trans (grown_drewN _ _ _) (grown_setCell _ _ _ _)⟩
    | some ng =>
      obtain ⟨n, g⟩ := ng
      obtain ⟨hn, hg, rest, hr⟩ := Leb.dec_some hd
      have hpg : p + g ≤ s.size := by
        have := congrArg List.length hr
        rw [List.length_drop, List.length_append, Array.length_toList] at this
        have e : s.data.size = s.size := rfl
        omega
      have hn' : n < 18446744073709551616 := hn
      clear hg rest hr hn
      have HC : Hid (∀ w, Calls Tryz.prog 156 #[.string (s.extract p s.size)] w fun e w' => e = .returned (.tuple #[.int .u64 n, .int .i64 g, .bool true]) ∧ w = w') := fun w => by
        have := dec_any (s.extract p s.size) w hsz
        rw [extract_end, hd] at this; exact this
      have e : vr s.data.toList p false = (i64of n, p + g, false) := by unfold vr; rw [if_neg (by simp), hd]; rfl
      rw [e]
      have HR := Lib.hid h; clear h e hd hsz
      go_enter Tryz.func116, Tryz.ntmps116
      go_wp2_with (go_at_call 62; refine (failed_any _ _ _ _ _ HR.out).mono ?_; rintro e w1 ⟨rfl, rfl⟩)
      go_quiet ((go_at_call 156; exact quiet_same (HC.out _)))
      go_wp2
      go_ret
      refine ⟨ret_int (by rw [← i64of_wrap hn']; exact (IntWalk.i64_left _).symm), Rd.setAt (HR.out.drewN _) (p + g) (val_int (by omega)), grown_trans (grown_drewN _ _ _) (grown_setCell _ _ _ _)⟩

theorem tk_bd {S : List UInt8} {p : Nat} (f : Bool) (n : Int) (h : p ≤ S.length) : (tk S p f n).2.1 ≤ S.length := by
  unfold tk; split
  · exact h
  · next h2 => simp only [not_or, Int.not_lt] at h2; show p + n.toNat ≤ _; omega
theorem vr_bd {S : List UInt8} {p : Nat} (f : Bool) (h : p ≤ S.length) : (vr S p f).2.1 ≤ S.length := by
  unfold vr; split
  · exact h
  · cases hd : Leb.dec (S.drop p) with
    | none => exact h
    | some ng =>
      obtain ⟨n, g⟩ := ng
      obtain ⟨hn, hg, rest, hr⟩ := Leb.dec_some hd
      have := congrArg List.length hr
      rw [List.length_drop, List.length_append] at this
      show p + g ≤ _; omega

theorem text_read_nil (w : World) : Calls Tryz.prog 60 #[.pointer none] w fun e w' => e = .returned (.string (str [])) ∧ w = w' := by
  go_enter Tryz.func60, Tryz.ntmps60
  go_wp2_with (go_at_call 62; refine (failed_nil _).mono ?_; rintro e w1 ⟨rfl, rfl⟩)
  go_ret
  exact ⟨rfl, rfl⟩

theorem tk_fail {S : List UInt8} {p : Nat} {f : Bool} {n : Int} (h : (tk S p f n).2.2 = true) : (tk S p f n).1 = [] := by
  unfold tk at *; split at h
  · next hc => rw [if_pos hc]
  · simp at h

theorem sized_any (b : Nat) (s : ByteArray) (p : Nat) (f : Bool) (w : World) (h : Rd w b s p f) (hp : p ≤ s.size) (hs : s.size ≤ 9223372036854775807) :
    Calls Tryz.prog 115 #[.pointer (some ⟨b, 0, none⟩), .func (Fn.func 116) #[.pointer (some ⟨b, 0, none⟩)] #[]] w fun e w' =>
      e = .returned (.string (str (tk s.data.toList (vr s.data.toList p f).2.1 (vr s.data.toList p f).2.2 (vr s.data.toList p f).1).1)) ∧
      Rd w' b s (tk s.data.toList (vr s.data.toList p f).2.1 (vr s.data.toList p f).2.2 (vr s.data.toList p f).1).2.1 (tk s.data.toList (vr s.data.toList p f).2.1 (vr s.data.toList p f).2.2 (vr s.data.toList p f).1).2.2 ∧ w.grownBy w' (some b) := by
  have HV := Lib.hid (var_read b s p f w h hp hs)
  have hq : (vr s.data.toList p f).2.1 ≤ s.size := by have := vr_bd f (S := s.data.toList) (p := p) (by rw [Array.length_toList]; exact hp); rw [Array.length_toList] at this; exact this
  have HR := Lib.hid h; clear h
  generalize vr s.data.toList p f = v at HV hq ⊢
  obtain ⟨n, q, f1⟩ := v
  simp only at HV hq ⊢
  go_enter Tryz.func115, Tryz.ntmps115
  go_wp2_with (first | (go_at_call 116; refine HV.out.mono ?_; rintro e w1 ⟨rfl, hr1, hg1⟩; have HR1 := Lib.hid hr1; clear hr1) | (go_at_call 61; refine (take_any _ _ _ _ _ _ HR1.out hq hs).mono ?_; rintro e w2 ⟨rfl, hr2, hg2⟩))
  go_ret
  exact ⟨rfl, hr2, grown_trans hg1 hg2⟩

set_option maxHeartbeats 400000 in
set_option maxRecDepth 100000 in
theorem text_read (b : Nat) (s : ByteArray) (p : Nat) (f : Bool) (w : World) (h : Rd w b s p f) (hp : p ≤ s.size) (hs : s.size ≤ 9223372036854775807) :
    Calls Tryz.prog 60 #[.pointer (some ⟨b, 0, none⟩)] w fun e w' => e = .returned (.string (str (tx s.data.toList p f).1)) ∧ Rd w' b s (tx s.data.toList p f).2.1 (tx s.data.toList p f).2.2 ∧ w.grownBy w' (some b) := by
  by_cases hf : f = true
  · subst hf
    have HR := Lib.hid h; clear h
    have e : tx s.data.toList p true = ([], p, true) := by unfold tx; simp [vr, tk]
    rw [e]; clear e
    go_enter Tryz.func60, Tryz.ntmps60
    go_wp2_with (go_at_call 62; refine (failed_any _ _ _ _ _ HR.out).mono ?_; rintro e w1 ⟨rfl, rfl⟩)
    go_ret
    exact ⟨rfl, HR.out, World.grownBy.refl _ _⟩
  · have hf : f = false := by simpa using hf
    subst hf
    obtain ⟨c0, c1, c2, f1, f2⟩ := h.cells
    have HS := Lib.hid (sized_any b s p false w h hp hs)
    have HR := Lib.hid h; clear h
    have HT : Hid (tx s.data.toList p false = if (tk s.data.toList (vr s.data.toList p false).2.1 (vr s.data.toList p false).2.2 (vr s.data.toList p false).1).2.2 = true then ([], p, true) else tk s.data.toList (vr s.data.toList p false).2.1 (vr s.data.toList p false).2.2 (vr s.data.toList p false).1) := rfl
    have HF := Lib.hid (tk_fail (S := s.data.toList) (p := (vr s.data.toList p false).2.1) (f := (vr s.data.toList p false).2.2) (n := (vr s.data.toList p false).1))
    rw [HT.out]; clear HT
    generalize tk s.data.toList (vr s.data.toList p false).2.1 (vr s.data.toList p false).2.2 (vr s.data.toList p false).1 = t at HS HF ⊢
    obtain ⟨l, q, f'⟩ := t
    simp only at HS HF ⊢
    by_cases hf' : f' = true
    · subst hf'
      obtain rfl := HF.out rfl
      rw [if_pos rfl]
      go_enter Tryz.func60, Tryz.ntmps60
      go_wp2_with (first | (go_at_call 62; refine (failed_any _ _ _ _ _ HR.out).mono ?_; rintro e w1 ⟨rfl, rfl⟩) | (go_at_call 115; refine HS.out.mono ?_; rintro e w2 ⟨rfl, hr2, hg2⟩; obtain ⟨d0, d1, d2, g1, g2⟩ := hr2.cells; have HR2 := Lib.hid hr2; clear hr2))
      go_ret
      exact ⟨rfl, HR2.out.setAt p rfl, grown_trans hg2 (grown_setCell _ _ _ _)⟩
    · have hf' : f' = false := by simpa using hf'
      subst hf'
      rw [if_neg (by simp)]
      go_enter Tryz.func60, Tryz.ntmps60
      go_wp2_with (first | (go_at_call 62; refine (failed_any _ _ _ _ _ HR.out).mono ?_; rintro e w1 ⟨rfl, rfl⟩) | (go_at_call 115; refine HS.out.mono ?_; rintro e w2 ⟨rfl, hr2, hg2⟩; obtain ⟨d0, d1, d2, g1, g2⟩ := hr2.cells; have HR2 := Lib.hid hr2; clear hr2))
      go_ret
      exact ⟨rfl, HR2.out, hg2⟩

theorem num_read_nil (z : Int) (w : World) : Calls Tryz.prog 158 #[.pointer none, .int .i64 z] w fun e w' => e = .returned (.int .i64 0) ∧ Below w.heap.size w w' := by
  have hcb := run_bytes_of_string w 9 84 5 (str []) Tryz.underlying9 Tryz.underlying84 Tryz.underlying5
  have hz : (str []).size = 0 := rfl
  rw [hz] at hcb; clear hz
  go_enter Tryz.func158, Tryz.ntmps158
  go_wp2_with (first | (go_at_call 153; refine (clamp_any _ _).mono ?_; rintro e w1 ⟨rfl, rfl⟩) | (go_at_call 61; refine (take_nil _ _).mono ?_; rintro e w1 ⟨rfl, rfl⟩))
  refine wp_loop_rounds 1 ?_
  rw [rounds_succ]
  go_wp2
  go_ret
  exact ⟨rfl, ((Below.refl _ _).alloc (Nat.le_refl _) _).drew⟩

theorem be_step {n b k : Nat} (hn : n < 256 ^ k) (hk : k < 8) (hb : b < 256) : n < 72057594037927936 ∧ bits BinOp.or IntKind.u64 ((n : Int) * 256) (b : Int) = ((n * 256 + b : Nat) : Int) := by
  have h1 : 256 ^ k ≤ 256 ^ 7 := Nat.pow_le_pow_right (by omega) (by omega)
  rw [show (256 : Nat) ^ 7 = 72057594037927936 from rfl] at h1
  refine ⟨by omega, ?_⟩
  have e := u64_or_nat (n * 256) b (by omega) (by omega)
  have e2 : n * 256 ||| b = n * 256 + b := by
    have := Nat.two_pow_add_eq_or_of_lt (i := 8) (b := b) hb n
    rw [show (2 : Nat) ^ 8 * n = n * 256 from by rw [Nat.mul_comm]] at this
    rw [this]
  rw [e2] at e
  rw [← e, Int.natCast_mul]; rfl

theorem bytes_at (w : World) (l : List UInt8) (c : Nat) (m : Nat × Nat) (j : Nat) (hj : j < l.length) : ((w.alloc (.cells (bytesRow (str l) c) 5 m)).drew).cell? ⟨w.heap.size, j, none⟩ = some (.int .u8 ((l[j]).toNat : Int)) := by
  have h := World.cell?_alloc_mark w (bytesRow (str l) c) 5 m j
  have h2 := bytesRow_at (str l) c j (by simpa [str] using hj)
  rw [h2] at h
  exact h
theorem be_take (l : List UInt8) (k : Nat) (h : k < l.length) : Leb.be (l.take (k + 1)) = Leb.be (l.take k) * 256 + (l[k]).toNat := by
  rw [List.take_succ_eq_append_getElem h, Leb.be_snoc]

set_option maxHeartbeats 400000 in
set_option maxRecDepth 100000 in
theorem num_read (b : Nat) (s : ByteArray) (p : Nat) (f : Bool) (z : Int) (w : World) (h : Rd w b s p f) (hp : p ≤ s.size) (hs : s.size ≤ 9223372036854775807) :
    Calls Tryz.prog 158 #[.pointer (some ⟨b, 0, none⟩), .int .i64 z] w fun e w' => e = .returned (.int .i64 (nm s.data.toList p f z).1) ∧ Rd w' b s (nm s.data.toList p f z).2.1 (nm s.data.toList p f z).2.2 ∧ w.grownBy w' (some b) := by
  unfold nm
  have hl8 : (tk s.data.toList p f (clampI z)).1.length ≤ 8 := by
    have hz := clampI_bd z
    unfold tk; split
    · exact Nat.zero_le _
    · show (List.take _ _).length ≤ 8
      have := List.length_take_le (clampI z).toNat (s.data.toList.drop p); omega
  have HT := Lib.hid (take_any b s p f (clampI z) w h hp hs)
  have HR := Lib.hid h; clear h
  generalize tk s.data.toList p f (clampI z) = t at HT hl8 ⊢
  obtain ⟨l, q, f'⟩ := t
  simp only at HT hl8 ⊢
  go_enter Tryz.func158, Tryz.ntmps158
  go_wp2_with (first | (go_at_call 153; refine (clamp_any _ _).mono ?_; rintro e w1 ⟨rfl, rfl⟩) | (go_at_call 61; refine HT.out.mono ?_; rintro e w1 ⟨rfl, hr1, hg1⟩; have hcb := run_bytes_of_string w1 9 84 5 (str l) Tryz.underlying9 Tryz.underlying84 Tryz.underlying5; rw [str_size] at hcb; have HR1 := Lib.hid hr1; clear hr1))
  have HRN : Hid (Rd (w1.alloc (Obj.cells (bytesRow (str l) (grownCap w1 l.length 0 5)) 5 ((bytesRow (str l) (grownCap w1 l.length 0 5)).size, (bytesRow (str l) (grownCap w1 l.length 0 5)).size + 1))).drew b s q f') :=
    HR1.out.keptB (((Below.refl _ _).alloc (Nat.le_refl _) _).drew) (Array.getElem?_eq_some_iff.1 HR1.out).1
  have HG : Hid (w.grownBy (w1.alloc (Obj.cells (bytesRow (str l) (grownCap w1 l.length 0 5)) 5 ((bytesRow (str l) (grownCap w1 l.length 0 5)).size, (bytesRow (str l) (grownCap w1 l.length 0 5)).size + 1))).drew (some b)) :=
    grown_trans hg1 (grown_trans (World.grownBy_alloc _ _ _) (grown_drewN _ 1 _))
  have HB := Lib.hid (bytes_at w1 l (grownCap w1 l.length 0 5) ((bytesRow (str l) (grownCap w1 l.length 0 5)).size, (bytesRow (str l) (grownCap w1 l.length 0 5)).size + 1))
  clear hcb
  generalize (w1.alloc (Obj.cells (bytesRow (str l) (grownCap w1 l.length 0 5)) 5 ((bytesRow (str l) (grownCap w1 l.length 0 5)).size, (bytesRow (str l) (grownCap w1 l.length 0 5)).size + 1))).drew = w2 at HRN HG HB ⊢
  generalize w1.heap.size = b1 at HB ⊢
  clear hg1
  go_loop [5, 14] (fun n i => ∃ k : Nat, k ≤ l.length ∧ i = .int .i64 k ∧ n = .int .u64 (Leb.be (l.take k) : Nat)) (fun _ i => l.length - (intOf i).toNat)
  case atStart => exact ⟨0, Nat.zero_le _, rfl, rfl⟩
  case round =>
    obtain ⟨k, hk, rfl, rfl⟩ := hrel
    by_cases hlt : k < l.length
    · have hbe : Leb.be (l.take k) < 256 ^ k := by
        have := Leb.be_lt (l.take k); rw [List.length_take_of_le hk] at this; exact this
      obtain ⟨hn, hst⟩ := be_step hbe (by omega) (Leb.u8lt l[k])
      have HST : Hid (bits BinOp.or IntKind.u64 ((Leb.be (l.take k) : Int) * 256) ((l[k]).toNat : Int) = (Leb.be (l.take (k + 1)) : Nat)) := by rw [be_take l k hlt]; exact hst
      have hc := HB.out k hlt
      clear hbe hst
      go_wp2
      go_round
      case rel => exact ⟨k + 1, by omega, by go_num, val_int (by rw [← HST.out, IntWalk.u64_in _ ⟨by omega, by have := Leb.u8lt l[k]; omega⟩])⟩
      case measure => simp [intOf]; omega
    · obtain rfl : k = l.length := by omega
      have hbe : Leb.be l < 256 ^ l.length := Leb.be_lt l
      rw [List.take_of_length_le (Nat.le_refl _)]
      have hn : Leb.be l < 18446744073709551616 := Nat.lt_of_lt_of_le hbe (Nat.le_trans (Nat.pow_le_pow_right (by omega) hl8) (by decide))
      clear hbe
      go_wp2
      go_ret
      exact ⟨ret_int (by rw [← i64of_wrap hn]; exact (IntWalk.i64_left _).symm), HRN.out, HG.out⟩
end Go.Proofs.YtfncldaodbfakaaGreat.O
