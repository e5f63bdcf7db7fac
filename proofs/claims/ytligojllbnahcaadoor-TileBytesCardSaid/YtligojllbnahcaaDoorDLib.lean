/-
  Strings out of bytes; octet.Put; strings.Builder, strings.Repeat, strings.IndexByte as the walks use them.
-/
import Derived.Test.YtligojllbnahcaaDoorShelf
import Derived.Test.YtligojllbnahcaaDoorDSha
import Derived.Test.YtligojllbnahcaaDoorRows
import Derived.WalkKit
import Derived.WalkSpells
import Derived.WalkLawsBesides
import Derived.Laws.BitsAllLaws
import Derived.Laws.CopyOwn
import Derived.Lib.Strings
import Derived.PlainAid
import Derived.Deep.QuietTactic
import Derived.BigQuiet
import Derived.Lib.Hide
namespace Go.Proofs.YtligojllbnahcaaDoor.D
open Go.RowKit

theorem ret_int {k : IntKind} {a b : Int} (h : a = b) : Ending.returned (.int k a) = .returned (.int k b) := by rw [h]
theorem ret_str {a b : ByteArray} (h : a = b) : Ending.returned (.string a) = .returned (.string b) := by rw [h]
theorem val_int {k : IntKind} {a b : Int} (h : a = b) : Value.int k a = .int k b := by rw [h]

/-- a string out of its bytes -/
def str (l : List UInt8) : ByteArray := ⟨l.toArray⟩
theorem str_append (a b : List UInt8) : str a ++ str b = str (a ++ b) := by
  apply ByteArray.ext; simp [str]
theorem str_size (a : List UInt8) : (str a).size = a.length := by simp [str, ByteArray.size]
theorem str_toList (a : List UInt8) : (str a).data.toList = a := by simp [str]
theorem toList_str (s : ByteArray) : str s.data.toList = s := by apply ByteArray.ext; simp [str]
theorem lenS (s : ByteArray) : s.data.toList.length = s.size := Array.length_toList
theorem nat_u8 {x : Nat} (h : x < 256) : (UInt8.ofNat x).toNat = x := by simp [UInt8.toNat_ofNat']; omega

/-- n as a 64-bit number without sign -/
def u64of (n : Int) : Nat := (n % 18446744073709551616).toNat
theorem u64of_lt (n : Int) : u64of n < 18446744073709551616 := by unfold u64of; omega
theorem wrap_u64of (n : Int) : IntKind.u64.wrap n = (u64of n : Int) := by rw [IntKind.wrap_u64]; unfold u64of; omega
theorem u64of_nat {n : Nat} (h : n < 18446744073709551616) : u64of (n : Int) = n := by unfold u64of; omega

def bcell (b : UInt8) : Value := .int .u8 (b.toNat : Int)

def clampI (n : Int) : Int := min (max n 0) 8
theorem clampI_bd (n : Int) : 0 ≤ clampI n ∧ clampI n ≤ 8 := by unfold clampI; omega

theorem clamp_any (n : Int) (w : World) : Calls Tryd.prog 54 #[.int .i64 n] w fun e w' => e = .returned (.int .i64 (clampI n)) ∧ w = w' := by
  go_enter Tryd.func54, Tryd.ntmps54
  go_wp2
  all_goals go_ret
  all_goals exact ⟨ret_int (by unfold clampI; omega), rfl⟩

theorem Tryd.infoB : (Tryd.prog.info? 5).map (fun i => (i.zero, i.size, i.bytes)) = some (some (.int .u8 0), 1, 1) := by kernel_rfl
theorem zeroB : ∀ n, (madeCells (Value.int .u8 0).cells (n * 1)).toList = List.replicate n (.int .u8 0) := fun n => by rw [Nat.mul_one]; exact toList_madeCells_one _ _

def rowP (j : Nat) (q : List UInt8) : Array Value := (List.replicate j (Value.int .u8 0) ++ q.map bcell).toArray
structure PutMem (W : World) (j : Nat) (q : List UInt8) (w : World) : Prop where
  own : w.heap[W.heap.size]? = some (.cells (rowP j q) 5 (0, 0))
  below : Below W.heap.size W w
theorem putMem_start {W w : World} {k : Nat} (h : w.ownsRow W.heap.size 5 1 (.slice (some ⟨W.heap.size, 0, none⟩) k k) k (madeCells (Value.int .u8 0).cells (k * 1)).toList) (hg : W.grownBy w none) : PutMem W k [] w := by
  refine ⟨?_, (Below.refl _ W).grown hg (Nat.le_refl _) (by intro k hk; cases hk)⟩
  obtain ⟨hl, ⟨hv, _⟩ | ⟨g, cap, cur, hv, hb, hh, hn, hc, hs, ht⟩⟩ := h
  · simp at hv
  · simp only [Value.slice.injEq, Option.some.injEq, Addr.mk.injEq, and_true, true_and] at hv
    obtain ⟨rfl, rfl⟩ := hv
    rw [hh]
    have e : cur = rowP k [] := by
      apply Array.ext'
      rw [zeroB, List.take_of_length_le (by rw [Array.length_toList]; omega)] at ht
      rw [ht]; simp [rowP]
    rw [e]
theorem PutMem.cell {W w : World} {j : Nat} {q : List UInt8} (h : PutMem W (j + 1) q w) : ∃ v, w.cell? ⟨W.heap.size, j, none⟩ = some v := by
  rw [cell_of_row _ _ _ _ _ _ h.own]; exact ⟨_, Array.getElem?_eq_getElem (by simp [rowP]; omega)⟩
theorem PutMem.free {W w : World} {j : Nat} {q : List UInt8} (h : PutMem W j q w) (i : Nat) : w.frozen? ⟨W.heap.size, i, none⟩ = false := frozen_of_row _ _ _ _ _ h.own
theorem rowP_set (j : Nat) (q : List UInt8) (b : UInt8) : (rowP (j + 1) q).setIfInBounds j (bcell b) = rowP j (b :: q) := by
  apply Array.ext'
  rw [Array.toList_setIfInBounds]
  simp only [rowP]
  rw [List.replicate_succ', List.append_assoc, List.set_append_right _ _ (by simp)]
  simp
theorem PutMem.set {W w : World} {j : Nat} {q : List UInt8} (h : PutMem W (j + 1) q w) (b : UInt8) {v : Value} (hv : v = bcell b) : PutMem W j (b :: q) (w.setCell ⟨W.heap.size, j, none⟩ v) := by
  subst hv
  exact ⟨by rw [heap_setCell_same _ _ _ _ _ _ h.own, rowP_set], h.below.setCell (Nat.le_refl _) _⟩
theorem PutMem.conv {W w : World} {q : List UInt8} (h : PutMem W 0 q w) (n : Nat) (hn : n = q.length) : (convert 44 9 (.slice (some ⟨W.heap.size, 0, none⟩) n n)).run Tryd.prog w = .ok (.string (str q)) w := by
  subst hn
  refine run_convert_bytes_back w _ _ _ ⟨W.heap.size, 0, none⟩ q.length q Tryd.underlying44 Tryd.underlying5 Tryd.underlying9 fun j hj => ?_
  have hadd : (⟨W.heap.size, 0, none⟩ : Addr).add j = ⟨W.heap.size, j, none⟩ := by unfold Addr.add; split <;> simp_all
  rw [hadd, cell_of_row _ _ _ _ _ _ h.own]; simp [rowP, hj, bcell]

set_option maxHeartbeats 400000 in
set_option maxRecDepth 100000 in
theorem put_any (n z : Int) (w : World) : Calls Tryd.prog 41 #[.int .i64 n, .int .i64 z] w fun e w' => e = .returned (.string (str (putN (u64of n) (clampI z).toNat))) ∧ Below w.heap.size w w' := by
  have hu := wrap_u64of n
  have hl := u64of_lt n
  generalize u64of n = u at hu hl ⊢
  obtain ⟨k, hk⟩ : ∃ k : Nat, clampI z = k := ⟨(clampI z).toNat, by have := clampI_bd z; omega⟩
  have hk8 : k ≤ 8 := by have := clampI_bd z; omega
  rw [show (clampI z).toNat = k from by omega]
  obtain ⟨i0, hi, hz0, hz1, hz2⟩ := info_parts Tryd.infoB
  go_enter Tryd.func41, Tryd.ntmps41
  go_wp2_with (first | (go_at_call 54; refine (clamp_any _ _).mono ?_; rintro e w' ⟨rfl, rfl⟩) | (at_make; refine wpList_make_full _ rfl (.tmp 9) (.tmp 9) 44 rfl w.heap.size 5 i0 (.int .u8 0) 1 Tryd.underlying44 hi hz0 hz1 .i64 .i64 _ _ k rfl rfl ?c1 ?c2 ?c3 ?c4 ?c5 ?_; rotate_right; intro w1 hown hgrow))
  case c1 => rfl
  case c2 => rfl
  case c3 => rw [hz2]; omega
  case c4 => unfold maxLen; omega
  case c5 => exact Nat.le_refl _
  have HM0 : Hid (PutMem w k [] w1) := putMem_start hown hgrow
  clear hu hi hz0 hz1 hz2 hown hgrow hk
  go_loopw [6, 7] (fun rest i wr => ∃ (q : List UInt8) (r j : Nat), rest = .int .u64 r ∧ i = .int .i64 ((j : Int) - 1) ∧ Hid (putN u k = putN r j ++ q) ∧ Hid (j + q.length = k) ∧ j ≤ k ∧ r < 18446744073709551616 ∧ Hid (PutMem w j q wr)) (fun _ i _ => (intOf i + 1).toNat)
  case atStart => exact ⟨[], u, k, rfl, rfl, by simp [Hid], by simp [Hid], Nat.le_refl _, hl, HM0⟩
  case round =>
    obtain ⟨q, r, j, rfl, rfl, H1, H2, hjk, hrl, HM⟩ := hrel
    clear hl HM0
    rcases j with _ | j
    · have hcv := HM.out.conv k (by have := H2.out; omega)
      go_wp2
      go_ret
      exact ⟨ret_str (by rw [H1.out]; rfl), HM.out.below⟩
    · rw [show ((j + 1 : Nat) : Int) - 1 = (j : Int) from by omega]
      obtain ⟨v0, hc⟩ := HM.out.cell
      have hf := HM.out.free j
      go_wp2
      go_roundw
      case rel =>
        refine ⟨UInt8.ofNat (r % 256) :: q, r / 256, j, val_int (by omega), by go_num, ?_, ?_, by omega, by omega, HM.out.set _ (val_int (by rw [nat_u8 (by omega)]; omega))⟩
        · have := H1.out; rw [this]; simp [Hid, putN]
        · have := H2.out; simp [Hid]; omega
      case measure => simp [intOf]

/-- Put of a number that is a natural one, at a size that is not clamped -/
theorem put_nat (n k : Nat) (w : World) (hn : n < 18446744073709551616) (hk : k ≤ 8) : Calls Tryd.prog 41 #[.int .i64 n, .int .i64 k] w fun e w' => e = .returned (.string (str (putN n k))) ∧ Below w.heap.size w w' := by
  have h := put_any n k w
  rw [u64of_nat hn, show (clampI k).toNat = k from by unfold clampI; omega] at h
  exact h

theorem put4 (n : Nat) (w : World) (hn : n < 18446744073709551616) : Calls Tryd.prog 41 #[.int .i64 n, .int .i64 4] w fun e w' => e = .returned (.string (str (putN n 4))) ∧ Below w.heap.size w w' := put_nat n 4 w hn (by omega)
theorem put8 (n : Nat) (w : World) (hn : n < 18446744073709551616) : Calls Tryd.prog 41 #[.int .i64 n, .int .i64 8] w fun e w' => e = .returned (.string (str (putN n 8))) ∧ Below w.heap.size w w' := put_nat n 8 w hn (by omega)

/-- a builder of the call's own holds these bytes -/
def Bld (B b : Nat) (l : List UInt8) (w : World) : Prop := Lib.IsBuilder 76 5 B b (Lib.byteCells l) w ∧ B ≤ w.heap.size
theorem bld_write {B b : Nat} {l m : List UInt8} {w : World} (h : Bld B b l w) (hlen : l.length + m.length ≤ 140737488355328) :
    Calls Tryd.prog 42 #[.pointer (some ⟨b, 0, none⟩), .string (str m)] w fun e w' => e = .returned (.tuple #[.int .i64 (str m).size, .nilIface]) ∧ Bld B b (l ++ m) w' ∧ Below B w w' := by
  have h0 := Any.Builder_WriteString ({ Tryd.lays105 with }) Tryd.Builder_Extra_105 B b (Lib.byteCells l) (str m) w h.1 (by rw [Lib.byteCells_length, str_size]; exact hlen) h.2
  refine h0.mono fun e w' ⟨h1, h2, h3⟩ => ⟨h1, ⟨Or.inr ?_, Nat.le_trans h.2 h3.size⟩, h3⟩
  rw [Lib.byteCells_append]; exact h2
theorem bld_string {B b : Nat} {l : List UInt8} {w : World} (h : Bld B b l w) :
    Calls Tryd.prog 43 #[.pointer (some ⟨b, 0, none⟩)] w fun e w' => e = .returned (.string (str l)) ∧ Below B w w' :=
  Any.Builder_String_any ({ Tryd.lays105 with }) Tryd.Builder_Extra_105 B b l w h.1 h.2
theorem repeatL_zero (c : Nat) : Lib.repeatL [0] c = List.replicate c 0 := by
  induction c with
  | zero => rfl
  | succ c ih => rw [Lib.repeatL, ih, List.replicate_succ]; rfl
theorem repeat_zeros (c : Nat) (w : World) (hc : c ≤ 1000) : Calls Tryd.prog 40 #[.string ⟨#[0]⟩, .int .i64 c] w fun e w' => e = .returned (.string (str (List.replicate c 0))) ∧ Below w.heap.size w w' := by
  have h := Tryd.strings_Repeat ⟨#[0]⟩ c w (by omega) (by rw [show ByteArray.size ⟨#[0]⟩ = 1 from rfl]; omega)
  rw [repeatL_zero] at h; exact h
theorem Below.call {P : Program} {f : FuncId} {args : Array Value} {w : World} {v : Value} {w0 : World} (hs : Below w0.heap.size w0 w)
    (h : Calls P f args w fun e w' => e = .returned v ∧ Below w.heap.size w w') : Calls P f args w fun e w' => e = .returned v ∧ Below w0.heap.size w0 w' :=
  h.mono fun _ _ ⟨h1, h2⟩ => ⟨h1, hs.trans (h2.mono hs.size)⟩
theorem quiet_same {P : Program} {f : FuncId} {args : Array Value} {w : World} {n : Nat} {v : Value} (h : Calls P f args (w.drewN n) fun e w' => e = .returned v ∧ w.drewN n = w') : Calls P f args (w.drewN n) fun e w'' => e = .returned v ∧ ∃ m, w'' = w.drewN m :=
  Calls.quiet_of_same (h.mono fun _ _ ⟨h1, h2⟩ => ⟨h1, h2.symm⟩)

end Go.Proofs.YtligojllbnahcaaDoor.D
