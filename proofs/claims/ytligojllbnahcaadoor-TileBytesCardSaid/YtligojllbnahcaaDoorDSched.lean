/-
  digest.messageSchedule returns the 64 words of a block.
-/
import Derived.Test.YtligojllbnahcaaDoorDWords
import Derived.BigRegion
import Derived.ChangeAlike
import Derived.RegionTactic
import Derived.Deep.DeepCutAuto
import Derived.Deep.QuietTactic
import Derived.BigQuiet
import Derived.Outline
namespace Go.Proofs.YtligojllbnahcaaDoor.D
open Go.RowKit

def u32v (n : Nat) : Value := .int .u32 (n : Int)
/-- the first i cells are the first i words -/
def Wds (b : List UInt8) (i : Nat) (cs : Array Value) : Prop := cs.size = 64 ∧ ∀ j, j < i → cs[j]? = some (u32v (Sha.wd b j))
def wdA (b : List UInt8) : Array Value := ((List.range 64).map fun j => u32v (Sha.wd b j)).toArray
theorem wdA_size (b : List UInt8) : (wdA b).size = 64 := by simp [wdA]
theorem wdA_get (b : List UInt8) (j : Nat) (h : j < 64) : (wdA b)[j]? = some (u32v (Sha.wd b j)) := by simp [wdA, h]
theorem wds_done {b : List UInt8} {cs : Array Value} (h : Wds b 64 cs) : cs = wdA b := by
  unfold wdA
  apply Array.ext'
  apply List.ext_getElem?
  intro j
  by_cases hj : j < 64
  · have := h.2 j hj
    rw [Array.getElem?_toList, this]; simp [List.getElem?_range hj]
  · rw [List.getElem?_eq_none (by rw [Array.length_toList, h.1]; omega), List.getElem?_eq_none (by simp; omega)]
theorem Wds.step {b : List UInt8} {i : Nat} {cs : Array Value} (h : Wds b i cs) (hi : i < 64) {v : Value} (hv : v = u32v (Sha.wd b i)) : Wds b (i + 1) (cs.setIfInBounds i v) := by
  subst hv
  refine ⟨by simp [h.1], fun j hj => ?_⟩
  by_cases he : i = j
  · subst he; rw [Array.getElem?_setIfInBounds_self_of_lt (by rw [h.1]; omega)]
  · rw [Array.getElem?_setIfInBounds_ne he]; exact h.2 j (by omega)
theorem wds_start (b : List UInt8) : Wds b 0 (Array.replicate 64 (.int .u32 0)) := ⟨by simp, fun j hj => by omega⟩

/-- what the loops keep of memory: the result's block, the schedule's own block -/
structure SchMem (W : World) (b : List UInt8) (i : Nat) (w : World) : Prop where
  res : w.heap[W.heap.size]? = some (.cells (Array.replicate 64 (.int .u32 0)) 66 (0, 0))
  own : ∃ cs, w.heap[W.heap.size + 1]? = some (.cells cs 66 (0, 0)) ∧ Wds b i cs
  below : Below W.heap.size W w
theorem SchMem.set {W w : World} {b : List UInt8} {i : Nat} (h : SchMem W b i w) (hi : i < 64) {v : Value} (hv : v = u32v (Sha.wd b i)) : SchMem W b (i + 1) (w.setCell ⟨W.heap.size + 1, i, none⟩ v) := by
  obtain ⟨h1, ⟨cs, h2, h3⟩, h4⟩ := h
  exact ⟨by rw [heap_setCell_other _ _ _ _ (by simp)]; exact h1, ⟨_, heap_setCell_same _ _ _ _ _ _ h2, h3.step hi hv⟩, h4.setCell (by simp) _⟩
theorem SchMem.drew {W w : World} {b : List UInt8} {i : Nat} (h : SchMem W b i w) : SchMem W b i w.drew := ⟨h.res, h.own, h.below.drew⟩
theorem SchMem.cell {W w : World} {b : List UInt8} {i : Nat} (h : SchMem W b i w) (j : Nat) (hj : j < i) : w.cell? ⟨W.heap.size + 1, j, none⟩ = some (.int .u32 (Sha.wd b j : Nat)) := by
  obtain ⟨_, ⟨cs, h2, h3⟩, _⟩ := h
  rw [cell_of_row _ _ _ _ _ _ h2]; exact h3.2 j hj
theorem SchMem.any {W w : World} {b : List UInt8} {i : Nat} (h : SchMem W b i w) (j : Nat) (hj : j < 64) : ∃ v, w.cell? ⟨W.heap.size + 1, j, none⟩ = some v := by
  obtain ⟨_, ⟨cs, h2, h3⟩, _⟩ := h
  rw [cell_of_row _ _ _ _ _ _ h2]; exact ⟨_, Array.getElem?_eq_getElem (by rw [h3.1]; exact hj)⟩
theorem SchMem.free {W w : World} {b : List UInt8} {i : Nat} (h : SchMem W b i w) (j : Nat) : w.frozen? ⟨W.heap.size + 1, j, none⟩ = false := by
  obtain ⟨_, ⟨cs, h2, h3⟩, _⟩ := h
  exact frozen_of_row _ _ _ _ _ h2

theorem zero64 (w : World) : (zeroValue 66).run Tryd.prog w = .ok (.agg (Array.replicate 64 (.int .u32 0))) w := by kernel_rfl

theorem word_val {a b c d : Nat} (ha : a < 256) (hb : b < 256) (hc : c < 256) (hd : d < 256) :
    bits BinOp.or IntKind.u32 (bits BinOp.or IntKind.u32 (bits BinOp.or IntKind.u32 ((a : Int) % 4294967296 * 16777216 % 4294967296) ((b : Int) % 4294967296 * 65536 % 4294967296)) ((c : Int) % 4294967296 * 256 % 4294967296)) ((d : Int) % 4294967296) = ((a * 16777216 + b * 65536 + c * 256 + d : Nat) : Int) := by
  rw [show (a : Int) % 4294967296 * 16777216 % 4294967296 = ((a * 16777216 : Nat) : Int) from by omega, show (b : Int) % 4294967296 * 65536 % 4294967296 = ((b * 65536 : Nat) : Int) from by omega,
    show (c : Int) % 4294967296 * 256 % 4294967296 = ((c * 256 : Nat) : Int) from by omega, show (d : Int) % 4294967296 = (d : Int) from by omega]
  have e1 : bits BinOp.or IntKind.u32 ((a * 16777216 : Nat) : Int) ((b * 65536 : Nat) : Int) = _ := u32_or_nat (a * 16777216) (b * 65536) (by omega) (by omega)
  have l1 : a * 16777216 ||| b * 65536 < 4294967296 := Nat.or_lt_two_pow (n := 32) (by omega) (by omega)
  have e2 : bits BinOp.or IntKind.u32 ((a * 16777216 ||| b * 65536 : Nat) : Int) ((c * 256 : Nat) : Int) = _ := u32_or_nat _ _ l1 (by omega)
  have l2 : (a * 16777216 ||| b * 65536) ||| c * 256 < 4294967296 := Nat.or_lt_two_pow (n := 32) l1 (by omega)
  have e3 : bits BinOp.or IntKind.u32 (((a * 16777216 ||| b * 65536) ||| c * 256 : Nat) : Int) (d : Int) = _ := u32_or_nat _ _ l2 (by omega)
  rw [Sha.or_sum hb hc hd] at e3
  rw [← e3, ← e2, ← e1]
theorem q_byte {q : ByteArray} {l : List UInt8} {o n : Nat} (h : q.data.toList = (l.drop o).take n) (j : Nat) (hj : j < q.size) : q[j].toNat = Sha.byt l (o + j) := by
  have hl : j < ((l.drop o).take n).length := by rw [← h, lenS]; exact hj
  have e : q[j] = ((l.drop o).take n)[j]'hl := by
    show q.data[j] = _
    rw [← Array.getElem_toList]
    exact List.getElem_of_eq h _
  rw [e, List.getElem_take, List.getElem_drop]
  unfold Sha.byt
  rw [List.getD_eq_getElem?_getD, List.getElem?_eq_getElem (by rw [List.length_take, List.length_drop] at hl; omega)]; rfl
theorem word_q {q : ByteArray} {l : List UInt8} {k : Nat} (h : q.data.toList = (l.drop (4 * k)).take 4) (hz : q.size = 4) {x : Int}
    (hx : x = bits BinOp.or IntKind.u32 (bits BinOp.or IntKind.u32 (bits BinOp.or IntKind.u32 ((q[0].toNat : Int) % 4294967296 * 16777216 % 4294967296) ((q[1].toNat : Int) % 4294967296 * 65536 % 4294967296)) ((q[2].toNat : Int) % 4294967296 * 256 % 4294967296)) ((q[3].toNat : Int) % 4294967296)) :
    x = (Sha.word l k : Nat) := by
  rw [hx, word_val (q[0]).toNat_lt (q[1]).toNat_lt (q[2]).toNat_lt (q[3]).toNat_lt, q_byte h, q_byte h, q_byte h, q_byte h]; rfl

theorem s0_val {x : Nat} (hx : x < 4294967296) : bits BinOp.xor IntKind.u32 (bits BinOp.xor IntKind.u32 (Sha.rotr x 7 : Nat) (Sha.rotr x 18 : Nat)) ((x : Int) / 8) = (Sha.s0 x : Nat) := by
  have e1 := u32_xor_nat _ _ (Sha.rotr_lt (n := 7) hx) (Sha.rotr_lt (n := 18) hx)
  have e2 : bits BinOp.xor IntKind.u32 ((Sha.rotr x 7 ^^^ Sha.rotr x 18 : Nat) : Int) ((x / 8 : Nat) : Int) = _ := u32_xor_nat _ _ (Sha.xor_lt (Sha.rotr_lt hx) (Sha.rotr_lt hx)) (show x / 8 < 4294967296 by omega)
  unfold Sha.s0
  rw [Nat.shiftRight_eq_div_pow, show (2 : Nat) ^ 3 = 8 from rfl, ← e2, ← e1]; rfl
theorem s1_val {x : Nat} (hx : x < 4294967296) : bits BinOp.xor IntKind.u32 (bits BinOp.xor IntKind.u32 (Sha.rotr x 17 : Nat) (Sha.rotr x 19 : Nat)) ((x : Int) / 1024) = (Sha.s1 x : Nat) := by
  have e1 := u32_xor_nat _ _ (Sha.rotr_lt (n := 17) hx) (Sha.rotr_lt (n := 19) hx)
  have e2 : bits BinOp.xor IntKind.u32 ((Sha.rotr x 17 ^^^ Sha.rotr x 19 : Nat) : Int) ((x / 1024 : Nat) : Int) = _ := u32_xor_nat _ _ (Sha.xor_lt (Sha.rotr_lt hx) (Sha.rotr_lt hx)) (show x / 1024 < 4294967296 by omega)
  unfold Sha.s1
  rw [Nat.shiftRight_eq_div_pow, show (2 : Nat) ^ 10 = 1024 from rfl, ← e2, ← e1]; rfl

set_option maxHeartbeats 1000000 in
set_option maxRecDepth 100000 in
theorem sched_any (s : ByteArray) (w : World) (hs : s.size = 64) : Calls Tryd.prog 48 #[.string s] w fun e w' => e = .returned (.agg (wdA s.data.toList)) ∧ Below w.heap.size w w' := by
  have hz := zero64
  have hm0 : SchMem w s.data.toList 0 ((w.alloc (Obj.cells (Array.replicate 64 (Value.int IntKind.u32 0)) 66)).alloc (Obj.cells (Array.replicate 64 (Value.int IntKind.u32 0)) 66)) :=
    ⟨heap_alloc2_old _ _ _, ⟨_, heap_alloc2_new _ _ _, wds_start _⟩, ((Below.refl _ _).alloc (Nat.le_refl _) _).alloc (by simp) _⟩
  have HM0 := Lib.hid hm0; clear hm0
  have HS := Lib.hid hs
  have hs1 : s.size ≤ 64 := by omega
  have hs2 : 64 ≤ s.size := by omega
  clear hs
  go_enter Tryd.func48, Tryd.ntmps48
  go_wp2
  clear hz
  go_loopw [11, 4, 5] (fun i _ _ wr => ∃ k : Nat, k ≤ 16 ∧ i = .int .i64 k ∧ Hid (SchMem w s.data.toList k wr)) (fun i _ _ _ => 16 - (intOf i).toNat)
  case atStart => exact ⟨0, by omega, rfl, HM0⟩
  case round =>
    clear HM0
    obtain ⟨k, hk, rfl, HM⟩ := hrel
    by_cases hlt : k < 16
    · go_upto_region 6 with fail
      have hq : (s.extract (4 * k) (4 * k + 4)).size = 4 := by rw [ByteArray.size_extract]; omega
      have HQ : Hid ((s.extract (4 * k) (4 * k + 4)).data.toList = (s.data.toList.drop (4 * k)).take 4) := by
        unfold Hid; simp [Nat.add_sub_cancel_left]
      generalize s.extract (4 * k) (4 * k + 4) = q at hq HQ ⊢
      have q0 : 0 < q.size := by omega
      have q1 : (1 : Int) < q.size := by omega
      have q2 : (2 : Int) < q.size := by omega
      have q3 : (3 : Int) < q.size := by omega
      have HZ := Lib.hid hq; clear hq
      obtain ⟨v0, hc⟩ := HM.out.any k (by omega)
      have hf := HM.out.free k
      go_region
      go_wp2
      go_roundw
      case rel =>
        refine ⟨k + 1, by omega, by go_num, (HM.out.set (by omega) ?_).drew⟩
        exact val_int (by rw [Sha.wd_low _ (by omega)]; exact word_q HQ.out HZ.out rfl)
      case measure => simp [intOf]; omega
    · obtain rfl : k = 16 := by omega
      rw [show ((16 : Nat) : Int) = 16 from rfl]
      go_wp2
      go_loopw [6, 7, 8, 9, 10] (fun i _ _ _ _ wr => ∃ k : Nat, 16 ≤ k ∧ k ≤ 64 ∧ i = .int .i64 k ∧ Hid (SchMem w s.data.toList k wr)) (fun i _ _ _ _ _ => 64 - (intOf i).toNat)
      case atStart => exact ⟨16, by omega, by omega, rfl, HM⟩
      case round =>
        clear HM
        obtain ⟨k, hk1, hk2, rfl, HM⟩ := hrel
        by_cases hlt : k < 64
        · have c15 := HM.out.cell (k - 15) (by omega)
          have c2 := HM.out.cell (k - 2) (by omega)
          have c7 := HM.out.cell (k - 7) (by omega)
          have c16 := HM.out.cell (k - 16) (by omega)
          have l15 := Sha.wd_lt s.data.toList (k - 15)
          have l2 := Sha.wd_lt s.data.toList (k - 2)
          have l7 := Sha.wd_lt s.data.toList (k - 7)
          have l16 := Sha.wd_lt s.data.toList (k - 16)
          have HW := Lib.hid (Sha.wd_high s.data.toList hk1)
          generalize Sha.wd s.data.toList (k - 15) = x15 at c15 l15 HW
          generalize Sha.wd s.data.toList (k - 2) = x2 at c2 l2 HW
          generalize Sha.wd s.data.toList (k - 7) = x7 at c7 l7 HW
          generalize Sha.wd s.data.toList (k - 16) = x16 at c16 l16 HW
          have HE0 := Lib.hid (s0_val l15)
          have HE1 := Lib.hid (s1_val l2)
          have y0 := Sha.s0_lt l15
          have y1 := Sha.s1_lt l2
          obtain ⟨v0, hc⟩ := HM.out.any k (by omega)
          have hf := HM.out.free k
          go_wp2
          go_region
          go_upto_region 14 with (first
            | (go_at_call 49; (with_reducible refine (rotr_7 _ l15 _).mono ?_); rintro e w' ⟨rfl, rfl⟩)
            | (go_at_call 49; (with_reducible refine (rotr_18 _ l15 _).mono ?_); rintro e w' ⟨rfl, rfl⟩)
            | (go_at_call 49; (with_reducible refine (rotr_17 _ l2 _).mono ?_); rintro e w' ⟨rfl, rfl⟩)
            | (go_at_call 49; (with_reducible refine (rotr_19 _ l2 _).mono ?_); rintro e w' ⟨rfl, rfl⟩))
          rw [HE0.out, HE1.out]
          clear HE0 HE1
          generalize Sha.s0 x15 = z0 at y0 HW ⊢
          generalize Sha.s1 x2 = z1 at y1 HW ⊢
          go_region
          go_wp2
          go_roundw
          case rel =>
            refine ⟨k + 1, by omega, by omega, by go_num, (HM.out.drew.set (by omega) ?_).drew⟩
            exact val_int (by rw [HW.out]; omega)
          case measure => simp [intOf]; omega
        · obtain rfl : k = 64 := by omega
          obtain ⟨cs, hcs, hok⟩ := HM.out.own
          have hres := HM.out.res
          have hbel := HM.out.below
          obtain rfl := wds_done hok
          have HC := Lib.hid hcs; clear hcs
          have HO := Lib.hid hok; clear hok
          have HR := Lib.hid hres; clear hres
          have HB := Lib.hid hbel; clear hbel HM
          go_wp2_with (first | (refine wpList_load_row rfl 66 _ rfl _ rfl _ _ _ _ HC.out Tryd.underlying66 rfl (by kernel_rfl) ?_) | (refine wpList_store_row rfl 66 _ _ rfl _ _ rfl rfl _ _ HR.out (by kernel_rfl) (by simp [wdA_size]) (by kernel_rfl) ?_))
          refine bodyPost_ret (results_cell_row Tryd.results48 _ _ _ _ _ _ _ rfl (setRow_heap _ _ _ _ _ _ HR.out) Tryd.underlying66 rfl (by kernel_rfl)) rfl ⟨rfl, ?_⟩
          exact below_setRow HB.out (Nat.le_refl _) _
end Go.Proofs.YtligojllbnahcaaDoor.D
