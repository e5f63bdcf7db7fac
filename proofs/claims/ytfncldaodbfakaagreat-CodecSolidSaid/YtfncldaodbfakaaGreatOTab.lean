/-
  octet.checksumTable returns the 256 entries of the table; octet.Sum returns the checksum of its argument.
-/
import Derived.Test.YtfncldaodbfakaaGreatOPure
import Derived.Laws.CopyOwn
namespace Go.Proofs.YtfncldaodbfakaaGreat.O
open Go.RowKit

def u32 (n : Nat) : Value := .int .u32 (n : Int)
/-- the entries at multiples of d are those of the table -/
def Tab (d : Nat) (cs : Array Value) : Prop := cs.size = 256 ∧ ∀ j, j < 256 → d ∣ j → cs[j]? = some (.int .u32 (Crc.tab j : Nat))
def TabTo (B q : Nat) (cs : Array Value) : Prop := Tab (2 * B) cs ∧ ∀ j, j < 256 → j < q → B ∣ j → cs[j]? = some (.int .u32 (Crc.tab j : Nat))

theorem tab_start : Tab 256 (Array.replicate 256 (.int .u32 0)) := by
  refine ⟨by simp, fun j hj hd => ?_⟩
  have : j = 0 := Nat.eq_zero_of_dvd_of_lt hd hj
  subst this
  rw [Crc.tab_zero, Array.getElem?_replicate, if_pos (by omega)]; rfl
theorem tabTo_start {B : Nat} {cs : Array Value} (h : Tab (2 * B) cs) : TabTo B 0 cs := ⟨h, fun j _ h2 => by omega⟩
theorem tabTo_end {B : Nat} {cs : Array Value} (h : TabTo B 256 cs) : Tab B cs := ⟨h.1.1, fun j h1 h2 => h.2 j h1 h1 h2⟩
theorem tabTo_step {B q : Nat} {cs : Array Value} (h : TabTo B q cs) (hB : 1 ≤ B) (hd : 2 * B ∣ q) (hq : q + 2 * B ≤ 256) {v : Value} (hv : v = .int .u32 (Crc.tab (q + B) : Nat)) : TabTo B (q + 2 * B) (cs.setIfInBounds (q + B) v) := by
  subst hv
  refine ⟨⟨by simp [h.1.1], fun j hj hdj => ?_⟩, fun j hj hjq hdj => ?_⟩
  · have hne : q + B ≠ j := by
      intro e
      have : 2 * B ∣ B := (Nat.dvd_add_right hd).1 (e ▸ hdj)
      have := Nat.le_of_dvd hB this
      omega
    rw [Array.getElem?_setIfInBounds_ne hne]
    exact h.1.2 j hj hdj
  · by_cases he : q + B = j
    · subst he
      rw [Array.getElem?_setIfInBounds_self_of_lt (by rw [h.1.1]; omega)]
    · rw [Array.getElem?_setIfInBounds_ne he]
      by_cases hlt : j < q
      · exact h.2 j hj hlt hdj
      · have hBq : B ∣ q := Nat.dvd_trans (Nat.dvd_mul_left B 2) hd
        have hr : B ∣ j - q := Nat.dvd_sub hdj hBq
        obtain ⟨c, hc⟩ := hr
        have hc2 : c < 2 := by
          refine Nat.lt_of_not_le fun h2 => ?_
          have : B * 2 ≤ B * c := Nat.mul_le_mul_left _ h2
          omega
        have : c = 0 ∨ c = 1 := by omega
        rcases this with rfl | rfl
        · have : j = q := by omega
          subst this
          exact h.1.2 j hj hd
        · exfalso; omega

def tabArr : Array Value := ((List.range 256).map fun j => Value.int .u32 (Crc.tab j : Nat)).toArray
theorem tabArr_size : tabArr.size = 256 := by simp [tabArr]
theorem tabArr_get (j : Nat) (h : j < 256) : tabArr[j]? = some (.int .u32 (Crc.tab j : Nat)) := by simp [tabArr, h]
theorem tab_done {cs : Array Value} (h : Tab 1 cs) : cs = tabArr := by
  unfold tabArr
  apply Array.ext'
  apply List.ext_getElem?
  intro j
  by_cases hj : j < 256
  · have := h.2 j hj (Nat.one_dvd j)
    rw [Array.getElem?_toList, this]; simp [List.getElem?_range hj]
  · rw [List.getElem?_eq_none (by rw [Array.length_toList, h.1]; omega), List.getElem?_eq_none (by simp; omega)]

/-- the step's value in the walk's spelling -/
theorem tab_xor {B q t : Nat} (ht : t < 8) (hB : B = 2 ^ (7 - t)) (hd : 2 * B ∣ q) (hq : q + 2 * B ≤ 256) :
    bits BinOp.xor IntKind.u32 (Crc.tab q : Nat) (Crc.steps (t + 1) 1 : Nat) = (Crc.tab (q + B) : Nat) := by
  have e := Crc.steps_one (t + 1) (by omega)
  rw [show 8 - (t + 1) = 7 - t from by omega, ← hB] at e
  rw [e]
  have hp : 1 ≤ B := by rw [hB]; exact Nat.two_pow_pos _
  have h1 := Crc.tab_lt (b := q) (by omega)
  have h2 := Crc.tab_lt (b := B) (by omega)
  have hx : bits BinOp.xor IntKind.u32 (Crc.tab q : Nat) (Crc.tab B : Nat) = ((Crc.tab q ^^^ Crc.tab B : Nat) : Int) := u32_xor_nat _ _ h1 h2
  rw [hx]
  obtain ⟨m, hm⟩ := hd
  have := Crc.tab_add (7 - t) m
  rw [Nat.pow_succ, ← hB, show B * 2 = 2 * B from Nat.mul_comm _ _, ← hm] at this
  rw [this]

theorem idx_eq {r b : Nat} (hb : b < 256) : bits BinOp.xor IntKind.u8 ((r : Int) % 256) (b : Int) = (((r % 256) ^^^ b : Nat) : Int) := by
  have := u8_xor_nat (r % 256) b (by omega) hb
  rw [← this]; rfl
theorem fold_eq {r b : Nat} (hr : r < 4294967296) (hb : b < 256) : bits BinOp.xor IntKind.u32 ((r : Int) / 256) (Crc.tab ((r % 256) ^^^ b) : Nat) = (Crc.upd r b : Int) := by
  have hi : (r % 256) ^^^ b < 256 := Nat.xor_lt_two_pow (n := 8) (by omega) (by omega)
  have := u32_xor_nat (r / 256) (Crc.tab ((r % 256) ^^^ b)) (by omega) (Crc.tab_lt hi)
  rw [Crc.upd_tab, ← this]; rfl

theorem not_eq {r : Nat} (hr : r < 4294967296) : bits BinOp.xor IntKind.u32 IntKind.u32.max (r : Int) = ((4294967295 - r : Nat) : Int) := by
  have := u32_xor_nat 4294967295 r (by omega) hr
  rw [show 4294967295 - r = 4294967295 ^^^ r from Crc.ones_sub hr, ← this]; rfl

theorem zero256 (w : World) : (zeroValue 197).run Tryz.prog w = .ok (.agg (Array.replicate 256 (.int .u32 0))) w := by kernel_rfl

theorem bit_half (t : Nat) (ht : t < 8) : ∃ B, 2 ^ (8 - t) = 2 * B ∧ B = 2 ^ (7 - t) ∧ 1 ≤ B ∧ B ≤ 128 ∧ (256 : Nat) = 2 ^ t * (2 * B) ∧ 2 ^ (8 - (t + 1)) = B := by
  refine ⟨2 ^ (7 - t), ?_, rfl, Nat.two_pow_pos _, ?_, ?_, ?_⟩
  · rw [show 8 - t = (7 - t) + 1 from by omega, Nat.pow_succ, Nat.mul_comm]
  · exact Nat.le_trans (Nat.pow_le_pow_right (by omega) (show 7 - t ≤ 7 by omega)) (by decide)
  · rw [← Nat.mul_assoc, Nat.mul_comm (2 ^ t) 2, Nat.mul_assoc, ← Nat.pow_add, show t + (7 - t) = 7 from by omega]
  · rw [show 8 - (t + 1) = 7 - t from by omega]

/-- what the table's loops keep of memory: the result's block, the table's own block -/
structure TabMem (W : World) (ok : Array Value → Prop) (w : World) : Prop where
  res : w.heap[W.heap.size]? = some (.cells (Array.replicate 256 (.int .u32 0)) 197 (0, 0))
  own : ∃ cs, w.heap[W.heap.size + 1]? = some (.cells cs 197 (0, 0)) ∧ ok cs
  below : Below W.heap.size W w

theorem TabMem.set {W w : World} {ok ok' : Array Value → Prop} (h : TabMem W ok w) (i : Nat) (v : Value) (hok : ∀ cs, ok cs → ok' (cs.setIfInBounds i v)) : TabMem W ok' (w.setCell ⟨W.heap.size + 1, i, none⟩ v) := by
  obtain ⟨h1, ⟨cs, h2, h3⟩, h4⟩ := h
  exact ⟨by rw [heap_setCell_other _ _ _ _ (by simp)]; exact h1, ⟨_, heap_setCell_same _ _ _ _ _ _ h2, hok cs h3⟩, h4.setCell (by simp) _⟩

set_option maxHeartbeats 1000000 in
set_option maxRecDepth 100000 in
theorem table_any (w : World) : Calls Tryz.prog 154 #[] w fun e w' => e = .returned (.agg tabArr) ∧ Below w.heap.size w w' := by
  have hz := zero256
  have hm0 : TabMem w (Tab 256) ((w.alloc (Obj.cells (Array.replicate 256 (Value.int IntKind.u32 0)) 197)).alloc (Obj.cells (Array.replicate 256 (Value.int IntKind.u32 0)) 197)) :=
    ⟨heap_alloc2_old _ _ _, ⟨_, heap_alloc2_new _ _ _, tab_start⟩, ((Below.refl _ _).alloc (Nat.le_refl _) _).alloc (by simp) _⟩
  have HM0 := Lib.hid hm0; clear hm0
  go_enter Tryz.func154, Tryz.ntmps154
  go_wp2
  clear hz
  go_loopw [3, 4] (fun r b wr => ∃ t : Nat, t ≤ 8 ∧ r = .int .u32 (Crc.steps t 1 : Nat) ∧ b = .int .i64 (2 ^ (8 - t) / 2 : Nat) ∧ TabMem w (Tab (2 ^ (8 - t))) wr) (fun _ b _ => (intOf b).toNat)
  case atStart => exact ⟨0, by omega, rfl, rfl, HM0.out⟩
  case round =>
    obtain ⟨t, ht, rfl, rfl, hmem⟩ := hrel
    by_cases ht8 : t < 8
    · obtain ⟨B, hB1, hB2, hB3, hB4, hB5, hB6⟩ := bit_half t ht8
      rw [hB1] at hmem ⊢
      have e2 : 2 * B / 2 = B := by omega
      rw [e2]; clear e2 hB1
      have hsl := Crc.steps_lt t (r := 1) (by omega)
      have H2 := Lib.hid hB2; clear hB2
      have H5 := Lib.hid hB5; clear hB5
      have H6 := Lib.hid hB6; clear hB6
      have HM := Lib.hid hmem; clear hmem
      go_wp2_with (go_at_call 187; refine (step_any _ hsl _).mono ?_; rintro e w' ⟨rfl, rfl⟩)
      go_loopw [5] (fun o wq => ∃ q : Nat, q ≤ 256 ∧ 2 * B ∣ q ∧ o = .int .i64 q ∧ TabMem w (TabTo B q) wq) (fun o _ => 256 - (intOf o).toNat)
      case atStart => exact ⟨0, by omega, Nat.dvd_zero _, rfl, ⟨HM.out.res, by obtain ⟨cs, h1, h2⟩ := HM.out.own; exact ⟨cs, h1, tabTo_start h2⟩, HM.out.below⟩⟩
      case round =>
        obtain ⟨q, hq, hdq, rfl, hmq⟩ := hrel
        have HQ := Lib.hid hmq; clear hmq
        have HD := Lib.hid hdq; clear hdq
        by_cases hq2 : q < 256
        · have hq3 : q + 2 * B ≤ 256 := by
            obtain ⟨m, hm⟩ := HD.out
            have h5 := H5.out
            have : m < 2 ^ t := by
              refine Nat.lt_of_not_le fun hle => ?_
              have := Nat.mul_le_mul_right (2 * B) hle
              rw [Nat.mul_comm m] at this; omega
            have := Nat.mul_le_mul_right (2 * B) (show m + 1 ≤ 2 ^ t from this)
            rw [Nat.add_mul, Nat.one_mul, Nat.mul_comm m] at this; omega
          obtain ⟨cs, hcs, hok⟩ := HQ.out.own
          have hc1 : wr.cell? ⟨w.heap.size + 1, q, none⟩ = some (.int .u32 (Crc.tab q : Nat)) := by rw [cell_of_row _ _ _ _ _ _ hcs]; exact hok.1.2 q hq2 HD.out
          obtain ⟨v0, hc2⟩ : ∃ v0, wr.cell? ⟨w.heap.size + 1, q + B, none⟩ = some v0 := by
            rw [cell_of_row _ _ _ _ _ _ hcs]; exact ⟨_, Array.getElem?_eq_getElem (by rw [hok.1.1]; omega)⟩
          have hf2 : wr.frozen? ⟨w.heap.size + 1, q + B, none⟩ = false := frozen_of_row _ _ _ _ _ hcs
          have HC := Lib.hid hcs; clear hcs
          have HO := Lib.hid hok; clear hok
          go_wp2
          go_roundw
          case rel =>
            refine ⟨q + 2 * B, hq3, Nat.dvd_add HD.out (Nat.dvd_refl _), by go_num, HQ.out.set _ _ fun cs h => ?_⟩
            exact tabTo_step h hB3 HD.out hq3 (val_int (by rw [← Crc.steps_succ']; exact tab_xor ht8 H2.out HD.out hq3))
          case measure => simp [intOf]; omega
        · obtain rfl : q = 256 := by omega
          go_wp2
          go_roundw
          case rel =>
            refine ⟨t + 1, by omega, val_int (by rw [Crc.steps_succ']), val_int (by rw [H6.out]; omega), ?_⟩
            rw [H6.out]
            exact ⟨HQ.out.res, by obtain ⟨cs, h1, h2⟩ := HQ.out.own; exact ⟨cs, h1, tabTo_end h2⟩, HQ.out.below⟩
          case measure => simp [intOf]; omega
    · obtain rfl : t = 8 := by omega
      obtain ⟨cs, hcs, hok⟩ := hmem.own
      have hres := hmem.res
      have hbel := hmem.below
      obtain rfl := tab_done hok
      have HC := Lib.hid hcs; clear hcs
      have HO := Lib.hid hok; clear hok
      have HR := Lib.hid hres; clear hres
      have HB := Lib.hid hbel; clear hbel hmem
      simp only [Nat.sub_self, Nat.pow_zero, show (1 : Nat) / 2 = 0 from rfl]
      go_wp2_with (first | (refine wpList_load_row rfl 197 _ rfl _ rfl _ _ _ _ HC.out Tryz.underlying197 rfl (by kernel_rfl) ?_) | (refine wpList_store_row rfl 197 _ _ rfl _ _ rfl rfl _ _ HR.out (by kernel_rfl) (by simp [tabArr_size]) (by kernel_rfl) ?_))
      refine bodyPost_ret (results_cell_row Tryz.results154 _ _ _ _ _ _ _ rfl (setRow_heap _ _ _ _ _ _ HR.out) Tryz.underlying197 rfl (by kernel_rfl)) rfl ⟨rfl, ?_⟩
      exact below_setRow HB.out (Nat.le_refl _) _

set_option maxHeartbeats 1000000 in
set_option maxRecDepth 100000 in
theorem sum_any (s : ByteArray) (w : World) (hs : s.size ≤ maxLen) : Calls Tryz.prog 110 #[.string s] w fun e w' => e = .returned (.int .u32 (Crc.crc s.data.toList : Nat)) ∧ Below w.heap.size w w' := by
  unfold maxLen at hs
  have hz := zero256
  go_enter Tryz.func110, Tryz.ntmps110
  go_wp2_with (first | (go_at_call 154; refine (table_any _).mono ?_; rintro e w1 ⟨rfl, hb1⟩) | (refine wpList_store_row rfl 197 _ _ rfl _ _ rfl rfl _ _ (heap_alloc_new _ _) (by kernel_rfl) (by simp [tabArr_size]) (by kernel_rfl) ?_))
  have HT : Hid (((w1.alloc (Obj.cells (Array.replicate 256 (Value.int IntKind.u32 0)) 197)).setRow w1.heap.size tabArr).heap[w1.heap.size]? = some (.cells tabArr 197 (0, 0))) := setRow_heap _ _ _ _ _ _ (heap_alloc_new _ _)
  have HB : Hid (Below w.heap.size w ((w1.alloc (Obj.cells (Array.replicate 256 (Value.int IntKind.u32 0)) 197)).setRow w1.heap.size tabArr)) := below_setRow (hb1.alloc hb1.size _) hb1.size _
  generalize (w1.alloc (Obj.cells (Array.replicate 256 (Value.int IntKind.u32 0)) 197)).setRow w1.heap.size tabArr = w2 at HT HB ⊢
  generalize w1.heap.size = b1 at HT ⊢
  clear hb1 hz
  go_loop [4, 5] (fun c i => ∃ k : Nat, k ≤ s.size ∧ i = .int .i64 k ∧ c = .int .u32 (reg s k)) (fun _ i => s.size - (intOf i).toNat)
  case atStart => exact ⟨0, Nat.zero_le _, rfl, rfl⟩
  case round =>
    obtain ⟨k, hk, rfl, rfl⟩ := hrel
    have hb := reg_lt s k
    by_cases hlt : k < s.size
    · have hx := idx_eq (r := reg s k) (Crc.u8lt s[k])
      have hi : (reg s k % 256) ^^^ (s[k]).toNat < 256 := Nat.xor_lt_two_pow (n := 8) (by omega) (by have := Crc.u8lt s[k]; omega)
      have HF := Lib.hid (fold_eq hb (Crc.u8lt s[k]))
      generalize (reg s k % 256) ^^^ (s[k]).toNat = idx at hx hi HF
      have hc : w2.cell? ⟨b1, idx, none⟩ = some (.int .u32 (Crc.tab idx : Nat)) := by rw [cell_of_row _ _ _ _ _ _ HT.out]; exact tabArr_get idx hi
      go_wp2
      go_round
      case rel => exact ⟨k + 1, by omega, by go_num, val_int (by rw [reg_succ s k hlt]; exact HF.out)⟩
      case measure => simp [intOf]; omega
    · obtain rfl : k = s.size := by omega
      go_wp2
      go_ret
      exact ⟨ret_int (by rw [not_eq hb, crc_reg]), HB.out⟩
end Go.Proofs.YtfncldaodbfakaaGreat.O
