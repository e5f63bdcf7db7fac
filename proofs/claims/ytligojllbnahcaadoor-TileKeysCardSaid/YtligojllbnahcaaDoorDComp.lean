/-
  The reference's compress.
-/
import Derived.Test.YtligojllbnahcaaDoorDRef
namespace Go.Proofs.YtligojllbnahcaaDoor.D
open Go.RowKit

theorem zero8a (w : World) : (zeroValue 51).run Tryd.prog w = .ok (.agg (Array.replicate 8 (.int .u32 0))) w := by kernel_rfl

/-- the blocks of a call: the hash value, the table, the result, the schedule -/
structure CM (W : World) (A : Array Value) (l : List UInt8) (i : Nat) (w : World) : Prop where
  hb : w.heap[W.heap.size]? = some (.cells A 51 (0, 0))
  kb : w.heap[W.heap.size + 1]? = some (.cells kA 66 (0, 0))
  rb : w.heap[W.heap.size + 1 + 1]? = some (.cells (Array.replicate 8 (.int .u32 0)) 51 (0, 0))
  wb : ∃ cs, w.heap[W.heap.size + 1 + 1 + 1]? = some (.cells cs 66 (0, 0)) ∧ Wds l i cs
  below : Below W.heap.size W w
variable {W w : World} {A : Array Value} {l : List UInt8} {i : Nat}
theorem CM.drewN (h : CM W A l i w) (n : Nat) : CM W A l i (w.drewN n) := ⟨h.hb, h.kb, h.rb, h.wb, h.below.trans ⟨rfl, rfl, rfl, Nat.le_refl _, fun _ _ => rfl⟩⟩
theorem CM.drew (h : CM W A l i w) : CM W A l i w.drew := ⟨h.hb, h.kb, h.rb, h.wb, h.below.drew⟩
theorem CM.cell (h : CM W A l i w) (j : Nat) (hj : j < i) : w.cell? ⟨W.heap.size + 1 + 1 + 1, j, none⟩ = some (.int .u32 (Sha.wd l j : Nat)) := by
  obtain ⟨cs, h2, h3⟩ := h.wb
  rw [cell_of_row _ _ _ _ _ _ h2]; exact h3.2 j hj
theorem CM.any (h : CM W A l i w) (j : Nat) (hj : j < 64) : ∃ v, w.cell? ⟨W.heap.size + 1 + 1 + 1, j, none⟩ = some v := by
  obtain ⟨cs, h2, h3⟩ := h.wb
  rw [cell_of_row _ _ _ _ _ _ h2]; exact ⟨_, Array.getElem?_eq_getElem (by rw [h3.1]; exact hj)⟩
theorem CM.free (h : CM W A l i w) (j : Nat) : w.frozen? ⟨W.heap.size + 1 + 1 + 1, j, none⟩ = false := by
  obtain ⟨cs, h2, h3⟩ := h.wb
  exact frozen_of_row _ _ _ _ _ h2
theorem CM.k (h : CM W A l i w) (j : Nat) (hj : j < 64) : w.cell? ⟨W.heap.size + 1, j, none⟩ = some (.int .u32 (Sha.K j : Nat)) := by
  rw [cell_of_row _ _ _ _ _ _ h.kb]; exact kA_get j hj
theorem CM.set (h : CM W A l i w) (hi : i < 64) {v : Value} (hv : v = u32v (Sha.wd l i)) : CM W A l (i + 1) (w.setCell ⟨W.heap.size + 1 + 1 + 1, i, none⟩ v) := by
  obtain ⟨h1, h2, h3, ⟨cs, h4, h5⟩, h6⟩ := h
  exact ⟨by rw [heap_setCell_other _ _ _ _ (by simp <;> omega)]; exact h1, by rw [heap_setCell_other _ _ _ _ (by simp <;> omega)]; exact h2, by rw [heap_setCell_other _ _ _ _ (by simp <;> omega)]; exact h3, ⟨_, heap_setCell_same _ _ _ _ _ _ h4, h5.step hi hv⟩, h6.setCell (by simp <;> omega) _⟩

/-- the state v lies in block q -/
structure CV (W : World) (A : Array Value) (l : List UInt8) (q : Nat) (B : Array Value) (w : World) : Prop where
  cm : CM W A l 64 w
  at_ : W.heap.size + 1 + 1 + 1 < q
  vb : w.heap[q]? = some (.cells B 51 (0, 0))
variable {q : Nat} {B : Array Value}
theorem CV.drewN (h : CV W A l q B w) (n : Nat) : CV W A l q B (w.drewN n) := ⟨h.cm.drewN n, h.at_, h.vb⟩
theorem CV.drew (h : CV W A l q B w) : CV W A l q B w.drew := ⟨h.cm.drew, h.at_, h.vb⟩
theorem CV.start (h : CM W A l 64 w) (C : Array Value) : CV W A l w.heap.size B ((w.alloc (.cells C 51)).setRow w.heap.size B) := by
  obtain ⟨h1, h2, h3, ⟨cs, h4, h5⟩, h6⟩ := h
  have k1 := (Array.getElem?_eq_some_iff.1 h1).1
  have k2 := (Array.getElem?_eq_some_iff.1 h2).1
  have k3 := (Array.getElem?_eq_some_iff.1 h3).1
  have k4 := (Array.getElem?_eq_some_iff.1 h4).1
  refine ⟨⟨?_, ?_, ?_, ⟨cs, ?_, h5⟩, below_setRow (h6.alloc h6.size _) h6.size _⟩, k4, setRow_heap _ _ _ _ _ _ (heap_alloc_new _ _)⟩
  · rw [setRow_other _ _ _ _ (by omega), Below.heap_alloc _ _ _ k1, h1]
  · rw [setRow_other _ _ _ _ (by omega), Below.heap_alloc _ _ _ k2, h2]
  · rw [setRow_other _ _ _ _ (by omega), Below.heap_alloc _ _ _ k3, h3]
  · rw [setRow_other _ _ _ _ (by omega), Below.heap_alloc _ _ _ k4, h4]
theorem CV.put (h : CV W A l q B w) (B' : Array Value) : CV W A l q B' (w.setRow q B') := by
  obtain ⟨⟨h1, h2, h3, ⟨cs, h4, h5⟩, h6⟩, hq, hv⟩ := h
  refine ⟨⟨?_, ?_, ?_, ⟨cs, ?_, h5⟩, below_setRow h6 (by omega) _⟩, hq, setRow_heap _ _ _ _ _ _ hv⟩
  · rw [setRow_other _ _ _ _ (by omega), h1]
  · rw [setRow_other _ _ _ _ (by omega), h2]
  · rw [setRow_other _ _ _ _ (by omega), h3]
  · rw [setRow_other _ _ _ _ (by omega), h4]
theorem CV.sum (h : CV W A l q B w) (i : Nat) (v : Value) : CV W (A.setIfInBounds i v) l q B (w.setCell ⟨W.heap.size, i, none⟩ v) := by
  obtain ⟨⟨h1, h2, h3, ⟨cs, h4, h5⟩, h6⟩, hq, hv⟩ := h
  refine ⟨⟨heap_setCell_same _ _ _ _ _ _ h1, ?_, ?_, ⟨cs, ?_, h5⟩, h6.setCell (Nat.le_refl _) _⟩, hq, ?_⟩
  · rw [heap_setCell_other _ _ _ _ (by simp)]; exact h2
  · rw [heap_setCell_other _ _ _ _ (by simp <;> omega)]; exact h3
  · rw [heap_setCell_other _ _ _ _ (by simp <;> omega)]; exact h4
  · rw [heap_setCell_other _ _ _ _ (by simp <;> omega)]; exact hv

/-- what a round reads -/
structure RM (W : World) (A : Array Value) (l : List UInt8) (q : Nat) (t : Sha.St) (k xk xw : Nat) (w : World) : Prop where
  d0 : w.cell? ⟨q, 0, none⟩ = some (.int .u32 (t.a : Nat))
  d1 : w.cell? ⟨q, 1, none⟩ = some (.int .u32 (t.b : Nat))
  d2 : w.cell? ⟨q, 2, none⟩ = some (.int .u32 (t.c : Nat))
  d3 : w.cell? ⟨q, 3, none⟩ = some (.int .u32 (t.d : Nat))
  d4 : w.cell? ⟨q, 4, none⟩ = some (.int .u32 (t.e : Nat))
  d5 : w.cell? ⟨q, 5, none⟩ = some (.int .u32 (t.f : Nat))
  d6 : w.cell? ⟨q, 6, none⟩ = some (.int .u32 (t.g : Nat))
  d7 : w.cell? ⟨q, 7, none⟩ = some (.int .u32 (t.h : Nat))
  cK : w.cell? ⟨W.heap.size + 1, k, none⟩ = some (.int .u32 (xk : Nat))
  cW : w.cell? ⟨W.heap.size + 1 + 1 + 1, k, none⟩ = some (.int .u32 (xw : Nat))
  cv : Hid (CV W A l q (stA t) w)
theorem RM.drewN {t : Sha.St} {k xk xw : Nat} (h : RM W A l q t k xk xw w) (n : Nat) : RM W A l q t k xk xw (w.drewN n) := ⟨h.d0, h.d1, h.d2, h.d3, h.d4, h.d5, h.d6, h.d7, h.cK, h.cW, h.cv.out.drewN n⟩
theorem CV.rm {t : Sha.St} (h : CV W A l q (stA t) w) (k : Nat) (hk : k < 64) : RM W A l q t k (Sha.K k) (Sha.wd l k) w := by
  have e : ∀ i, w.cell? ⟨q, i, none⟩ = (stA t)[i]? := fun i => cell_of_row _ _ _ _ _ _ h.vb
  exact ⟨by rw [e]; rfl, by rw [e]; rfl, by rw [e]; rfl, by rw [e]; rfl, by rw [e]; rfl, by rw [e]; rfl, by rw [e]; rfl, by rw [e]; rfl, h.cm.k k hk, h.cm.cell k hk, h⟩

theorem round_cells {t : Sha.St} {xk xw : Nat} {v4 v0 : Int} (h0 : v0 = ((Sha.round t xk xw).a : Nat)) (h4 : v4 = ((Sha.round t xk xw).e : Nat)) :
    #[Value.int .u32 v0, .int .u32 (t.a : Nat), .int .u32 (t.b : Nat), .int .u32 (t.c : Nat), .int .u32 v4, .int .u32 (t.e : Nat), .int .u32 (t.f : Nat), .int .u32 (t.g : Nat)] = stA (Sha.round t xk xw) := by
  subst h0 h4; rfl
/-- the first j sums laid -/
def sumA (s t : Sha.St) (j : Nat) : Array Value := ((List.range 8).map fun i => if i < j then u32v ((s.toL.getD i 0 + t.toL.getD i 0) % 4294967296) else u32v (s.toL.getD i 0)).toArray
theorem sumA_zero (s t : Sha.St) : sumA s t 0 = stA s := rfl
theorem sumA_eight (s t : Sha.St) : sumA s t 8 = stA (Sha.add s t) := rfl
theorem sumA_get (s t : Sha.St) (j : Nat) (hj : j < 8) : (sumA s t j)[j]? = some (.int .u32 (s.toL.getD j 0 : Nat)) := by
  simp [sumA, hj, u32v]
theorem sumA_set (s t : Sha.St) (j : Nat) (hj : j < 8) {v : Int} (hv : v = (((s.toL.getD j 0 + t.toL.getD j 0) % 4294967296 : Nat) : Int)) : (sumA s t j).setIfInBounds j (.int .u32 v) = sumA s t (j + 1) := by
  subst hv
  apply Array.ext'
  apply List.ext_getElem?
  intro i
  rw [Array.toList_setIfInBounds, List.getElem?_set]
  simp only [sumA, List.length_map, List.length_range, List.getElem?_map]
  by_cases hi : i < 8
  · rw [List.getElem?_range hi]
    by_cases h : j = i
    · subst h; simp [hj, u32v]
    · simp only [h, if_false, Option.map_some, Option.some.injEq]
      by_cases h2 : i < j
      · rw [if_pos h2, if_pos (by omega)]
      · rw [if_neg h2, if_neg (by omega)]
  · rw [List.getElem?_eq_none (by simp; omega)]
    simp; omega

theorem cm_start (w : World) (A : Array Value) (l : List UInt8) : CM w A l 0 ((((w.alloc (Obj.cells A 51)).alloc (Obj.cells kA 66)).alloc (Obj.cells (Array.replicate 8 (Value.int IntKind.u32 0)) 51)).alloc (Obj.cells (Array.replicate 64 (Value.int IntKind.u32 0)) 66)) := by
  have e : ∀ (v : World) (o : Obj), (v.alloc o).heap.size = v.heap.size + 1 := fun v o => by simp
  have n : ∀ (v : World) (o : Obj) (k : Nat), k = v.heap.size → (v.alloc o).heap[k]? = some o := fun v o k h => by subst h; exact heap_alloc_new _ _
  refine ⟨?_, ?_, ?_, ⟨_, ?_, wds_start _⟩, ((((Below.refl _ _).alloc (Nat.le_refl _) _).alloc (by simp) _).alloc (by simp; omega) _).alloc (by simp; omega) _⟩
  · rw [Below.heap_alloc _ _ _ (by simp only [e]; omega), Below.heap_alloc _ _ _ (by simp only [e]; omega), Below.heap_alloc _ _ _ (by simp only [e]; omega), n _ _ _ rfl]
  · rw [Below.heap_alloc _ _ _ (by simp only [e]; omega), Below.heap_alloc _ _ _ (by simp only [e]; omega), n _ _ _ (by simp only [e])]
  · rw [Below.heap_alloc _ _ _ (by simp only [e]; omega), n _ _ _ (by simp only [e])]
  · rw [n _ _ _ (by simp only [e])]

theorem idx_word {b : ByteArray} (o : Nat) (ho : o < b.size) (i : Int) (hi : i = o) (w : World) : (Instr.index 9 (.string b) (.int .i64 i)).run Tryd.prog w = .ok (.int .u8 (Sha.byt b.data.toList o : Nat)) w := by
  subst hi
  rw [run_index_string w _ b .i64 _ Tryd.underlying9, dif_pos (by omega)]
  have := q_byte (q := b) (l := b.data.toList) (o := 0) (n := b.size) (by rw [List.drop_zero, List.take_of_length_le (by rw [lenS]; exact Nat.le_refl _)]) o ho
  rw [Nat.zero_add] at this
  rw [← this]; rfl
theorem word_sum {a b c d : Nat} (ha : a < 256) (hb : b < 256) (hc : c < 256) (hd : d < 256) {x : Int}
    (hx : x = ((((a : Int) % 4294967296 * 16777216 % 4294967296 + (b : Int) % 4294967296 * 65536 % 4294967296) % 4294967296 + (c : Int) % 4294967296 * 256 % 4294967296) % 4294967296 + (d : Int) % 4294967296) % 4294967296) :
    x = ((a * 16777216 + b * 65536 + c * 256 + d : Nat) : Int) := by rw [hx]; omega

theorem chR_val {e f g : Nat} (he : e < 4294967296) (hf : f < 4294967296) (hg : g < 4294967296) :
    bits BinOp.or IntKind.u32 (bits BinOp.and IntKind.u32 (e : Int) (f : Int)) (bits BinOp.and IntKind.u32 (4294967295 - (e : Int)) (g : Int)) = (Sha.ch e f g : Nat) := by
  have e1 : bits BinOp.and IntKind.u32 (e : Int) (f : Int) = _ := u32_and_nat e f he hf
  have e3 : bits BinOp.and IntKind.u32 ((4294967295 - e : Nat) : Int) (g : Int) = _ := u32_and_nat (4294967295 - e) g (by omega) hg
  rw [show (4294967295 - (e : Int)) = ((4294967295 - e : Nat) : Int) from by omega, e1, e3, ← Sha.ch_or he]
  exact u32_or_nat _ _ (Sha.and_lt hf) (Sha.and_lt hg)
theorem majR_val {a b c : Nat} (ha : a < 4294967296) (hb : b < 4294967296) (hc : c < 4294967296) :
    bits BinOp.or IntKind.u32 (bits BinOp.or IntKind.u32 (bits BinOp.and IntKind.u32 (a : Int) (b : Int)) (bits BinOp.and IntKind.u32 (a : Int) (c : Int))) (bits BinOp.and IntKind.u32 (b : Int) (c : Int)) = (Sha.maj a b c : Nat) := by
  have e1 : bits BinOp.and IntKind.u32 (a : Int) (b : Int) = _ := u32_and_nat a b ha hb
  have e2 : bits BinOp.and IntKind.u32 (a : Int) (c : Int) = _ := u32_and_nat a c ha hc
  have e3 : bits BinOp.and IntKind.u32 (b : Int) (c : Int) = _ := u32_and_nat b c hb hc
  have e4 : bits BinOp.or IntKind.u32 ((a &&& b : Nat) : Int) ((a &&& c : Nat) : Int) = _ := u32_or_nat _ _ (Sha.and_lt hb) (Sha.and_lt hc)
  rw [e1, e2, e3, e4, ← Sha.maj_or]
  exact u32_or_nat _ _ (Nat.or_lt_two_pow (n := 32) (Sha.and_lt hb) (Sha.and_lt hc)) (Sha.and_lt hc)

set_option maxHeartbeats 4000000 in
set_option maxRecDepth 100000 in
theorem compress_any (s : Sha.St) (b : ByteArray) (w : World) (ho : s.ok) (hb : b.size = 64) : Calls Tryd.prog 38 #[.agg (stA s), .string b, .agg kA] w fun e w' => e = .returned (.agg (stA (Sha.comp s b.data.toList))) ∧ Below w.heap.size w w' := by
  have hz := zero64
  have hz8 := zero8a
  have HB := Lib.hid hb
  have HO := Lib.hid ho
  have hs1 : b.size ≤ 64 := by omega
  have hs2 : 64 ≤ b.size := by omega
  clear hb ho
  go_enter Tryd.func38, Tryd.ntmps38
  go_wp2
  have HM0 := Lib.hid (cm_start w (stA s) b.data.toList)
  clear hz
  go_loopw [8, 9, 10] (fun i _ _ wr => ∃ k : Nat, k ≤ 64 ∧ i = .int .i64 k ∧ Hid (CM w (stA s) b.data.toList k wr)) (fun i _ _ _ => 64 - (intOf i).toNat)
  case atStart => exact ⟨0, by omega, rfl, HM0⟩
  case round =>
    clear HM0
    obtain ⟨k, hk, rfl, HM⟩ := hrel
    by_cases hlt : k < 64
    · obtain ⟨v0, hc⟩ := HM.out.any k (by omega)
      have hf := HM.out.free k
      by_cases h16 : k < 16
      · have q0 := fun w => idx_word (b := b) (4 * k) (by omega) (4 * (k : Int)) (by omega) w
        have q1 := fun w => idx_word (b := b) (4 * k + 1) (by omega) (4 * (k : Int) + 1) (by omega) w
        have q2 := fun w => idx_word (b := b) (4 * k + 2) (by omega) (4 * (k : Int) + 2) (by omega) w
        have q3 := fun w => idx_word (b := b) (4 * k + 3) (by omega) (4 * (k : Int) + 3) (by omega) w
        have HW : Hid (Sha.wd b.data.toList k = Sha.byt b.data.toList (4 * k) * 16777216 + Sha.byt b.data.toList (4 * k + 1) * 65536 + Sha.byt b.data.toList (4 * k + 2) * 256 + Sha.byt b.data.toList (4 * k + 3)) := Sha.wd_low _ h16
        have b0 := Sha.byt_lt b.data.toList (4 * k)
        have b1 := Sha.byt_lt b.data.toList (4 * k + 1)
        have b2 := Sha.byt_lt b.data.toList (4 * k + 2)
        have b3 := Sha.byt_lt b.data.toList (4 * k + 3)
        generalize Sha.byt b.data.toList (4 * k) = x0 at q0 HW b0
        generalize Sha.byt b.data.toList (4 * k + 1) = x1 at q1 HW b1
        generalize Sha.byt b.data.toList (4 * k + 2) = x2 at q2 HW b2
        generalize Sha.byt b.data.toList (4 * k + 3) = x3 at q3 HW b3
        have r0 : IntKind.i64.wrap (4 * (k : Int)) = 4 * (k : Int) := IntWalk.i64_in _ (by omega)
        have r1 : IntKind.i64.wrap (4 * (k : Int) + 1) = 4 * (k : Int) + 1 := IntWalk.i64_in _ (by omega)
        have r2 : IntKind.i64.wrap (4 * (k : Int) + 2) = 4 * (k : Int) + 2 := IntWalk.i64_in _ (by omega)
        have r3 : IntKind.i64.wrap (4 * (k : Int) + 3) = 4 * (k : Int) + 3 := IntWalk.i64_in _ (by omega)
        go_upto_region 6 with fail
        go_region
        go_wp2
        go_roundw
        case rel => exact ⟨k + 1, by omega, by go_num, (HM.out.set hlt (val_int (by rw [HW.out]; omega))).drew⟩
        case measure => simp [intOf]; omega
      · have c15 := HM.out.cell (k - 15) (by omega)
        have c2 := HM.out.cell (k - 2) (by omega)
        have c7 := HM.out.cell (k - 7) (by omega)
        have c16 := HM.out.cell (k - 16) (by omega)
        have l15 := Sha.wd_lt b.data.toList (k - 15)
        have l2 := Sha.wd_lt b.data.toList (k - 2)
        have l7 := Sha.wd_lt b.data.toList (k - 7)
        have l16 := Sha.wd_lt b.data.toList (k - 16)
        have HW := Lib.hid (Sha.wd_high b.data.toList (i := k) (by omega))
        generalize Sha.wd b.data.toList (k - 15) = x15 at c15 l15 HW
        generalize Sha.wd b.data.toList (k - 2) = x2 at c2 l2 HW
        generalize Sha.wd b.data.toList (k - 7) = x7 at c7 l7 HW
        generalize Sha.wd b.data.toList (k - 16) = x16 at c16 l16 HW
        have HE0 := Lib.hid (s0_val l15)
        have HE1 := Lib.hid (s1_val l2)
        have y0 := Sha.s0_lt l15
        have y1 := Sha.s1_lt l2
        have k16 : 16 ≤ k := by omega
        go_upto_region 7 with fail
        have r15 : IntKind.i64.wrap ((k : Int) - 15) = ((k - 15 : Nat) : Int) := by rw [IntWalk.i64_in _ (by omega)]; omega
        go_quiet ((first
          | (go_at_call 47; with_reducible exact quiet_same (turn_7 _ l15 _))
          | (go_at_call 47; with_reducible exact quiet_same (turn_18 _ l15 _))))
        rw [HE0.out]
        clear r15 HE0 c15
        have dc2 : (wr.drewN nq).cell? ⟨w.heap.size + 1 + 1 + 1, k - 2, none⟩ = some (.int .u32 (x2 : Nat)) := c2
        have dc7 : (wr.drewN nq).cell? ⟨w.heap.size + 1 + 1 + 1, k - 7, none⟩ = some (.int .u32 (x7 : Nat)) := c7
        have dc16 : (wr.drewN nq).cell? ⟨w.heap.size + 1 + 1 + 1, k - 16, none⟩ = some (.int .u32 (x16 : Nat)) := c16
        have dhc : (wr.drewN nq).cell? ⟨w.heap.size + 1 + 1 + 1, k, none⟩ = some v0 := hc
        have dhf : (wr.drewN nq).frozen? ⟨w.heap.size + 1 + 1 + 1, k, none⟩ = false := hf
        have dHM : Hid (CM w (stA s) b.data.toList k (wr.drewN nq)) := HM.out.drewN nq
        clear HM hf c2 c7 c16 hc
        generalize wr.drewN nq = wr1 at dHM dhf dc2 dc7 dc16 dhc ⊢
        generalize Sha.s0 x15 = z0 at y0 HW ⊢
        go_upto_region 8 with fail
        have r2 : IntKind.i64.wrap ((k : Int) - 2) = ((k - 2 : Nat) : Int) := by rw [IntWalk.i64_in _ (by omega)]; omega
        go_quiet ((first
          | (go_at_call 47; with_reducible exact quiet_same (turn_17 _ l2 _))
          | (go_at_call 47; with_reducible exact quiet_same (turn_19 _ l2 _))))
        rw [HE1.out]
        clear r2 HE1 dc2
        have ec7 : (wr1.drewN nq).cell? ⟨w.heap.size + 1 + 1 + 1, k - 7, none⟩ = some (.int .u32 (x7 : Nat)) := dc7
        have ec16 : (wr1.drewN nq).cell? ⟨w.heap.size + 1 + 1 + 1, k - 16, none⟩ = some (.int .u32 (x16 : Nat)) := dc16
        have ehc : (wr1.drewN nq).cell? ⟨w.heap.size + 1 + 1 + 1, k, none⟩ = some v0 := dhc
        have ehf : (wr1.drewN nq).frozen? ⟨w.heap.size + 1 + 1 + 1, k, none⟩ = false := dhf
        have eHM : Hid (CM w (stA s) b.data.toList k (wr1.drewN nq)) := dHM.out.drewN nq
        clear dHM dhf dc7 dc16 dhc
        generalize wr1.drewN nq = wr2 at eHM ehf ec7 ec16 ehc ⊢
        generalize Sha.s1 x2 = z1 at y1 HW ⊢
        go_upto_region 9 with fail
        go_region
        go_wp2
        go_roundw
        case rel => exact ⟨k + 1, by omega, by go_num, (eHM.out.set hlt (val_int (by rw [HW.out]; omega))).drew⟩
        case measure => simp [intOf]; omega
    · obtain rfl : k = 64 := by omega
      rw [show ((64 : Nat) : Int) = 64 from rfl]
      have HB8 := Lib.hid HM.out.hb
      go_upto_region 11 with (first
        | (refine wpList_load_row rfl 51 _ rfl _ rfl _ _ _ _ HB8.out Tryd.underlying51 rfl (by kernel_rfl) ?_)
        | (refine wpList_store_row rfl 51 _ _ rfl _ _ rfl rfl _ _ (heap_alloc_new _ _) (by kernel_rfl) (by rfl) (by kernel_rfl) ?_))
      have HV : Hid (CV w (stA s) b.data.toList wr.heap.size (stA s) ((wr.alloc (Obj.cells (Array.replicate 8 (Value.int IntKind.u32 0)) 51)).setRow wr.heap.size (stA s))) := CV.start HM.out _
      clear HM HB8 hz8
      generalize (wr.alloc (Obj.cells (Array.replicate 8 (Value.int IntKind.u32 0)) 51)).setRow wr.heap.size (stA s) = w4 at HV ⊢
      generalize wr.heap.size = q at HV ⊢
      go_wp2
      go_loopw [12, 13, 14, 15, 16, 17] (fun i _ _ _ _ _ wr => ∃ (k : Nat) (t : Sha.St), k ≤ 64 ∧ i = .int .i64 k ∧ Hid (t.ok) ∧ Hid (Sha.stAt s b.data.toList k = t) ∧ Hid (CV w (stA s) b.data.toList q (stA t) wr)) (fun i _ _ _ _ _ _ => 64 - (intOf i).toNat)
      case atStart => exact ⟨0, s, by omega, rfl, HO, rfl, HV⟩
      case round =>
        clear HV
        obtain ⟨k, t, hk, rfl, HT, HE, HM⟩ := hrel
        by_cases hlt : k < 64
        · have HR : Hid (Sha.stAt s b.data.toList (k + 1) = Sha.round t (Sha.K k) (Sha.wd b.data.toList k)) := by unfold Hid; rw [Sha.stAt, HE.out]
          obtain ⟨a0, a1, a2, a3, a4, a5, a6, a7⟩ := HT.out
          have R0 := HM.out.rm k hlt
          clear HM
          have lK := Sha.K_lt k
          have lW := Sha.wd_lt b.data.toList k
          generalize Sha.K k = xk at R0 lK HR
          generalize Sha.wd b.data.toList k = xw at R0 lW HR
          have ⟨d0, d1, d2, d3, d4, d5, d6, d7, cK, cW, HM⟩ := R0
          go_upto_region 14 with fail
          go_quiet ((first
            | (go_at_call 47; with_reducible exact quiet_same (turn_6 _ a4 _))
            | (go_at_call 47; with_reducible exact quiet_same (turn_11 _ a4 _))
            | (go_at_call 47; with_reducible exact quiet_same (turn_25 _ a4 _))))
          rw [S1_val a4]
          have R1 := R0.drewN nq
          clear R0 d0 d1 d2 d3 d4 d5 d6 d7 cK cW HM
          generalize wr.drewN nq = wr1 at R1 ⊢
          have ⟨d0, d1, d2, d3, d4, d5, d6, d7, cK, cW, HM⟩ := R1
          go_upto_region 16 with fail
          rw [chR_val a4 a5 a6]
          have y1 := Sha.S1_lt a4
          have y2 := Sha.ch_lt (e := t.e) a5 a6
          have y3 := Sha.S0_lt a0
          have y4 := Sha.maj_lt (a := t.a) a1 a2
          have HS0 := Lib.hid (S0_val a0)
          have HMJ := Lib.hid (majR_val a0 a1 a2)
          have HT1 : Hid (Sha.t1 t xk xw = (t.h + Sha.S1 t.e + Sha.ch t.e t.f t.g + xk + xw) % 4294967296) := rfl
          have HT2 : Hid (Sha.t2 t = (Sha.S0 t.a + Sha.maj t.a t.b t.c) % 4294967296) := rfl
          generalize Sha.S1 t.e = x1 at y1 HT1 ⊢
          generalize Sha.ch t.e t.f t.g = x2 at y2 HT1 ⊢
          go_quiet (fail)
          have R2 := R1.drewN nq
          clear R1 d0 d1 d2 d3 d4 d5 d6 d7 cK cW HM
          generalize wr1.drewN nq = wr2 at R2 ⊢
          have ⟨d0, d1, d2, d3, d4, d5, d6, d7, cK, cW, HM⟩ := R2
          go_upto_region 17 with fail
          go_quiet ((first
            | (go_at_call 47; with_reducible exact quiet_same (turn_2 _ a0 _))
            | (go_at_call 47; with_reducible exact quiet_same (turn_13 _ a0 _))
            | (go_at_call 47; with_reducible exact quiet_same (turn_22 _ a0 _))))
          rw [HS0.out]
          have R3 := R2.drewN nq
          clear R2 d0 d1 d2 d3 d4 d5 d6 d7 cK cW HM
          generalize wr2.drewN nq = wr3 at R3 ⊢
          have ⟨d0, d1, d2, d3, d4, d5, d6, d7, cK, cW, HM⟩ := R3
          go_upto_region 19 with fail
          rw [HMJ.out]
          clear HS0 HMJ
          generalize Sha.S0 t.a = x3 at y3 HT2 ⊢
          generalize Sha.maj t.a t.b t.c = x4 at y4 HT2 ⊢
          go_wp2_with (refine wpList_store_row rfl 51 _ _ rfl _ _ rfl rfl _ _ HM.out.vb (by kernel_rfl) (by rfl) (by kernel_rfl) ?_)
          go_roundw
          case rel =>
            refine ⟨k + 1, Sha.round t xk xw, by omega, by go_num, Sha.round_ok HT.out _ _, HR, ?_⟩
            have hA := round_cells (t := t) (xk := xk) (xw := xw) (v0 := ((t.h : Int) + x1 + x2 + xk + xw + x3 + x4) % 4294967296) (v4 := ((t.d : Int) + ((t.h : Int) + x1 + x2 + xk + xw)) % 4294967296)
              (by show _ = (((Sha.t1 t xk xw + Sha.t2 t) % 4294967296 : Nat) : Int); rw [HT1.out, HT2.out]; omega) (by show _ = (((t.d + Sha.t1 t xk xw) % 4294967296 : Nat) : Int); rw [HT1.out]; omega)
            rw [hA]
            exact HM.out.put _
          case measure => simp [intOf]; omega
        · obtain rfl : k = 64 := by omega
          rw [show ((64 : Nat) : Int) = 64 from rfl]
          have hso : s.ok := HO.out
          have HC : Hid (Sha.comp s b.data.toList = Sha.add s t) := by unfold Hid Sha.comp; rw [HE.out]
          have HM2 : Hid (CV w (sumA s t 0) b.data.toList q (stA t) wr) := HM
          clear HM HE
          go_wp2
          go_loopw [18] (fun i wr => ∃ j : Nat, j ≤ 8 ∧ i = .int .i64 j ∧ Hid (CV w (sumA s t j) b.data.toList q (stA t) wr)) (fun i _ => 8 - (intOf i).toNat)
          case atStart => exact ⟨0, by omega, rfl, HM2⟩
          case round =>
            clear HM2
            obtain ⟨j, hj, rfl, HM⟩ := hrel
            by_cases hlt : j < 8
            · have c1 : wr.cell? ⟨w.heap.size, j, none⟩ = some (.int .u32 (s.toL.getD j 0 : Nat)) := by rw [cell_of_row _ _ _ _ _ _ HM.out.cm.hb]; exact sumA_get s t j hlt
              have c2 : wr.cell? ⟨q, j, none⟩ = some (.int .u32 (t.toL.getD j 0 : Nat)) := by rw [cell_of_row _ _ _ _ _ _ HM.out.vb]; exact stA_get j hlt
              have hf : wr.frozen? ⟨w.heap.size, j, none⟩ = false := frozen_of_row _ _ _ _ _ HM.out.cm.hb
              have l1 := Sha.toL_lt hso j
              have l2 := Sha.toL_lt HT.out j
              have HA : Hid (∀ v : Int, v = (((s.toL.getD j 0 + t.toL.getD j 0) % 4294967296 : Nat) : Int) → (sumA s t j).setIfInBounds j (.int .u32 v) = sumA s t (j + 1)) := fun v hv => sumA_set s t j hlt hv
              generalize s.toL.getD j 0 = x1 at c1 l1 HA
              generalize t.toL.getD j 0 = x2 at c2 l2 HA
              go_wp2
              go_region
              go_wp2
              go_roundw
              case rel =>
                refine ⟨j + 1, by omega, by go_num, ?_⟩
                rw [← HA.out (((x1 : Int) + x2) % 4294967296) (by omega)]
                exact (HM.out.sum j _).drew
              case measure => simp [intOf]; omega
            · obtain rfl : j = 8 := by omega
              have hh := HM.out.cm.hb
              rw [sumA_eight, ← HC.out] at hh
              have HH := Lib.hid hh; clear hh
              have HR := Lib.hid HM.out.cm.rb
              have HB2 := Lib.hid HM.out.cm.below
              clear HM HC
              go_wp2_with (first | (refine wpList_load_row rfl 51 _ rfl _ rfl _ _ _ _ HH.out Tryd.underlying51 rfl (by kernel_rfl) ?_) | (refine wpList_store_row rfl 51 _ _ rfl _ _ rfl rfl _ _ HR.out (by kernel_rfl) (by simp only [stA_size, Array.size_replicate]) (by kernel_rfl) ?_))
              refine bodyPost_ret (results_cell_row Tryd.results38 _ _ _ _ _ _ _ rfl (setRow_heap _ _ _ _ _ _ HR.out) Tryd.underlying51 rfl (by kernel_rfl)) rfl ⟨rfl, ?_⟩
              exact below_setRow HB2.out (by omega) _
end Go.Proofs.YtligojllbnahcaaDoor.D
