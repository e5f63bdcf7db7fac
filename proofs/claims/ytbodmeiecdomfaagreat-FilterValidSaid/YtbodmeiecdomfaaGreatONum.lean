/-
  octet.Put, Var and Text, and the reference's, return the forms of Leb (contracts of their calls).
-/
import Derived.Test.YtbodmeiecdomfaaGreatOPure
import Derived.Test.YtbodmeiecdomfaaGreatOLeb
import Derived.Laws.CopyOwn
import Derived.Lib.Strings
namespace Go.Proofs.YtbodmeiecdomfaaGreat.O
open Go.RowKit
set_option maxRecDepth 100000

/-- a string out of its bytes -/
def str (l : List UInt8) : ByteArray := ⟨l.toArray⟩
theorem str_append (a b : List UInt8) : str a ++ str b = str (a ++ b) := by
  apply ByteArray.ext; simp [str]
theorem str_size (a : List UInt8) : (str a).size = a.length := by simp [str, ByteArray.size]
theorem str_toList (a : List UInt8) : (str a).data.toList = a := by simp [str]
theorem toList_str (s : ByteArray) : str s.data.toList = s := by apply ByteArray.ext; simp [str]

/-- n as a 64-bit number without sign -/
def u64of (n : Int) : Nat := (n % 18446744073709551616).toNat
theorem u64of_lt (n : Int) : u64of n < 18446744073709551616 := by unfold u64of; omega
theorem wrap_u64of (n : Int) : IntKind.u64.wrap n = (u64of n : Int) := by rw [IntKind.wrap_u64]; unfold u64of; omega

def bcell (b : UInt8) : Value := .int .u8 (b.toNat : Int)
def row10 (p : List UInt8) : Array Value := (p.map bcell ++ List.replicate (10 - p.length) (Value.int .u8 0)).toArray
theorem row10_size {p : List UInt8} (h : p.length ≤ 10) : (row10 p).size = 10 := by simp [row10]; omega
theorem row10_set {p : List UInt8} (h : p.length < 10) (b : UInt8) {v : Value} (hv : v = bcell b) : (row10 p).setIfInBounds p.length v = row10 (p ++ [b]) := by
  subst hv
  unfold row10
  apply Array.ext'
  rw [Array.toList_setIfInBounds]
  have e : 10 - p.length = (10 - (p.length + 1)) + 1 := by omega
  rw [e, List.replicate_succ]
  have e2 : (List.map bcell p ++ Value.int .u8 0 :: List.replicate (10 - (p.length + 1)) (Value.int .u8 0)).set p.length (bcell b) = List.map bcell p ++ bcell b :: List.replicate (10 - (p.length + 1)) (Value.int .u8 0) := by
    have := List.set_append_right (s := List.map bcell p) (t := Value.int .u8 0 :: List.replicate (10 - (p.length + 1)) (Value.int .u8 0)) p.length (bcell b) (by simp)
    rw [this]; simp
  simp only [List.map_append, List.map_cons, List.map_nil, List.length_append, List.length_cons, List.length_nil, List.append_assoc, List.cons_append, List.nil_append]
  exact e2
theorem row10_get {p : List UInt8} (j : Nat) (h : j < p.length) : (row10 p)[j]? = some (bcell p[j]) := by
  simp [row10, List.getElem?_append_left, h]

structure VarMem (W : World) (p : List UInt8) (w : World) : Prop where
  own : w.heap[W.heap.size]? = some (.cells (row10 p) 92 (0, 0))
  below : Below W.heap.size W w

theorem VarMem.set {W w : World} {p : List UInt8} (h : VarMem W p w) (hp : p.length < 10) (b : UInt8) {v : Value} (hv : v = bcell b) : VarMem W (p ++ [b]) (w.setCell ⟨W.heap.size, p.length, none⟩ v) :=
  ⟨by rw [heap_setCell_same _ _ _ _ _ _ h.own, row10_set hp b hv], h.below.setCell (Nat.le_refl _) _⟩

theorem grp_eq (r : Nat) : bits BinOp.or IntKind.u8 (bits BinOp.and IntKind.u8 ((r : Int) % 256) 127) 128 = ((UInt8.ofNat (r % 128 + 128)).toNat : Int) := by
  have e1 := u8_and_nat (r % 256) 127 (by omega) (by omega)
  have e2 : r % 256 &&& 127 = r % 128 := by
    have := Nat.and_two_pow_sub_one_eq_mod (r % 256) 7
    rw [show (2 : Nat) ^ 7 - 1 = 127 from rfl, show (2 : Nat) ^ 7 = 128 from rfl] at this
    rw [this]; omega
  rw [e2] at e1
  have e3 := u8_or_nat (r % 128) 128 (by omega) (by omega)
  have e4 : r % 128 ||| 128 = r % 128 + 128 := by
    have := Nat.two_pow_add_eq_or_of_lt (i := 7) (b := r % 128) (by omega) 1
    rw [show (2 : Nat) ^ 7 * 1 = 128 from rfl] at this
    rw [Nat.or_comm, ← this, Nat.add_comm]
  rw [e4] at e3
  rw [Leb.nat_u8 (by omega), ← e3, ← e1]; rfl
theorem len_le8 {r k : Nat} (h : r * 128 ^ k < 2 ^ 64) (hr : 128 ≤ r) : k ≤ 8 := by
  refine Nat.le_of_not_lt fun hk => ?_
  have h1 : 128 ^ 9 ≤ 128 ^ k := Nat.pow_le_pow_right (by omega) hk
  have h2 : 128 * 128 ^ 9 ≤ r * 128 ^ k := Nat.mul_le_mul hr h1
  have h3 : (2 : Nat) ^ 64 ≤ 128 * 128 ^ 9 := by decide
  omega
theorem len_le9 {r k : Nat} (h : r * 128 ^ k < 2 ^ 64) (hr : 1 ≤ r) : k ≤ 9 := by
  refine Nat.le_of_not_lt fun hk => ?_
  have h1 : 128 ^ 10 ≤ 128 ^ k := Nat.pow_le_pow_right (by omega) hk
  have h2 : 1 * 128 ^ 10 ≤ r * 128 ^ k := Nat.mul_le_mul hr h1
  have h3 : (2 : Nat) ^ 64 ≤ 1 * 128 ^ 10 := by decide
  omega
theorem r_lt {r k : Nat} (h : r * 128 ^ k < 2 ^ 64) : r < 18446744073709551616 := by
  have : r * 1 ≤ r * 128 ^ k := Nat.mul_le_mul_left _ (Nat.pow_pos (by omega))
  rw [show (2 : Nat) ^ 64 = 18446744073709551616 from rfl] at h
  omega
theorem pow_step {r k : Nat} (h : r * 128 ^ k < 2 ^ 64) : r / 128 * 128 ^ (k + 1) < 2 ^ 64 := by
  have e : r / 128 * 128 ^ (k + 1) = (128 * (r / 128)) * 128 ^ k := by rw [Nat.pow_succ]; ac_rfl
  rw [e]
  exact Nat.lt_of_le_of_lt (Nat.mul_le_mul_right _ (by omega)) h

theorem VarMem.cell {W w : World} {p : List UInt8} (h : VarMem W p w) (hp : p.length < 10) (i : Nat) (hi : i < 10) : ∃ v, w.cell? ⟨W.heap.size, i, none⟩ = some v := by
  rw [cell_of_row _ _ _ _ _ _ h.own]; exact ⟨_, Array.getElem?_eq_getElem (by rw [row10_size (by omega)]; exact hi)⟩
theorem VarMem.free {W w : World} {p : List UInt8} (h : VarMem W p w) (i : Nat) : w.frozen? ⟨W.heap.size, i, none⟩ = false := frozen_of_row _ _ _ _ _ h.own
theorem VarMem.conv {W w : World} {p : List UInt8} (h : VarMem W p w) (n : Nat) (hn : n = p.length) : (convert 74 9 (.slice (some ⟨W.heap.size, 0, none⟩) n 10)).run Tryz.prog w = .ok (.string (str p)) w := by
  subst hn
  refine run_convert_bytes_back w _ _ _ ⟨W.heap.size, 0, none⟩ 10 p Tryz.underlying74 Tryz.underlying5 Tryz.underlying9 fun j hj => ?_
  have hadd : (⟨W.heap.size, 0, none⟩ : Addr).add j = ⟨W.heap.size, j, none⟩ := by unfold Addr.add; split <;> simp_all
  rw [hadd, cell_of_row _ _ _ _ _ _ h.own, row10_get j hj]; rfl

theorem slice10 (b n : Nat) (hn : n < 10) (w : World) : (Instr.sliceAt 92 (.pointer (some ⟨b, 0, none⟩)) none (some (.int .i64 ((n : Int) + 1))) none).run Tryz.prog w = .ok (.slice (some ⟨b, 0, none⟩) (n + 1) 10) w := by
  have hlen : Tryz.prog.arrayLen 92 = 10 := by kernel_rfl
  have hel : Tryz.prog.elem 92 = 5 := by kernel_rfl
  have ht : Tryz.prog.underlying 92 = some (.array (Tryz.prog.arrayLen 92) (Tryz.prog.elem 92)) := by rw [hlen, hel]; exact Tryz.underlying92
  have hsz : (sizeOf 5).run Tryz.prog w = .ok 1 w := by kernel_rfl
  rw [run_sliceAt_array_h w _ _ ht .i64 ((n : Int) + 1) (by omega) (by rw [hlen]; omega), hel, hsz, hlen]
  have e : ((n : Int) + 1).toNat = n + 1 := by omega
  simp [slicedAt, e, Addr.add]

set_option maxHeartbeats 400000 in
theorem var_any (n : Int) (w : World) : Calls Tryz.prog 39 #[.int .i64 n] w fun e w' => e = .returned (.string (str (Leb.varN (u64of n)))) ∧ Below w.heap.size w w' := by
  have hu := wrap_u64of n
  have hl := u64of_lt n
  generalize u64of n = u at hu hl ⊢
  have HM0 : Hid (VarMem w [] (w.alloc (Obj.cells #[Value.int IntKind.u8 0, Value.int IntKind.u8 0, Value.int IntKind.u8 0, Value.int IntKind.u8 0, Value.int IntKind.u8 0, Value.int IntKind.u8 0, Value.int IntKind.u8 0, Value.int IntKind.u8 0, Value.int IntKind.u8 0, Value.int IntKind.u8 0] 92))) :=
    ⟨(heap_alloc_new _ _).trans rfl, (Below.refl _ _).alloc (Nat.le_refl _) _⟩
  go_enter Tryz.func39, Tryz.ntmps39
  go_wp2
  clear hu
  go_loopw [4, 5] (fun used rest wr => ∃ (p : List UInt8) (r : Nat), used = .int .i64 p.length ∧ rest = .int .u64 r ∧ Hid (Leb.varN u = p ++ Leb.varN r) ∧ Hid (r * 128 ^ p.length < 2 ^ 64) ∧ Hid (VarMem w p wr) ∧ Hid (0 < p.length → 0 < r)) (fun _ rest _ => (intOf rest).toNat)
  case atStart => exact ⟨[], u, rfl, rfl, rfl, by simpa [Hid] using hl, HM0, fun h => by simp at h⟩
  case round =>
    obtain ⟨p, r, rfl, rfl, H1, H2, HM, H3⟩ := hrel
    clear HM0
    by_cases hr : 127 < r
    · have hk := len_le8 H2.out hr
      obtain ⟨v0, hc⟩ := HM.out.cell (by omega) p.length (by omega)
      have hf := HM.out.free p.length
      go_wp2
      go_roundw
      case rel =>
        refine ⟨p ++ [UInt8.ofNat (r % 128 + 128)], r / 128, val_int (by simp), val_int (by omega), ?_, by simpa [Hid] using pow_step H2.out, HM.out.set (by omega) _ (val_int (grp_eq r)), fun _ => by omega⟩
        have := H1.out
        rw [this, Leb.varN_big (u := r) (by omega)]; simp [Hid]
      case measure => simp [intOf]; omega
    · have hk : p.length ≤ 9 := by
        by_cases h0 : 0 < p.length
        · exact len_le9 H2.out (H3.out h0)
        · omega
      obtain ⟨v0, hc⟩ := HM.out.cell (by omega) p.length (by omega)
      have hf := HM.out.free p.length
      have hsl := slice10 w.heap.size p.length (by omega)
      have e1 : UInt8.toNat (UInt8.ofNat r) = r := Leb.nat_u8 (by omega)
      have HN : Hid (VarMem w (p ++ [UInt8.ofNat r]) (wr.setCell ⟨w.heap.size, p.length, none⟩ (.int .u8 r))) := HM.out.set (by omega) _ (val_int (by rw [e1]))
      have hcv := HN.out.conv (p.length + 1) (by simp)
      clear e1
      go_wp2
      go_ret
      exact ⟨ret_str (by rw [H1.out, Leb.varN_small (u := r) (by omega)]), HN.out.below⟩

/-- the bytes p lie at the head of the slice v, which the call owns -/
def OwnsB (B : Nat) (w : World) (v : Value) (p : List UInt8) : Prop := w.ownsRow B 5 1 v p.length (p.map bcell)
theorem owns_conv {B : Nat} {w : World} {v : Value} {p : List UInt8} (h : OwnsB B w v p) : (convert 74 9 v).run Tryz.prog w = .ok (.string (str p)) w := by
  obtain ⟨hl, h | ⟨g, cap, cur, rfl, hg, hh, hn, hc, hs, ht⟩⟩ := h
  · obtain ⟨rfl, h0⟩ := h
    have : p = [] := List.eq_nil_of_length_eq_zero h0
    subst this
    exact run_convert_bytes_nil w _ _ Tryz.underlying74 Tryz.underlying5 _ _ _ Tryz.underlying9
  · refine run_convert_bytes_back w _ _ _ ⟨g, 0, none⟩ cap p Tryz.underlying74 Tryz.underlying5 Tryz.underlying9 fun j hj => ?_
    have hadd : (⟨g, 0, none⟩ : Addr).add j = ⟨g, j, none⟩ := by unfold Addr.add; split <;> simp_all
    rw [hadd, cell_of_row _ _ _ _ _ _ hh]
    have h2 : (cur.toList.take (p.length * 1))[j]? = (p.map bcell)[j]? := by rw [ht]
    rw [List.getElem?_take_of_lt (by omega)] at h2
    rw [← Array.getElem?_toList, h2]; simp [hj, bcell]
theorem OwnsB.bounds {B : Nat} {w : World} {v : Value} {p : List UInt8} (h : OwnsB B w v p) : p.length ≤ maxLen := by
  obtain ⟨hl, h | ⟨g, cap, cur, rfl, hg, hh, hn, hc, hs, ht⟩⟩ := h
  · omega
  · omega

theorem Tryz.infoB : (Tryz.prog.info? 5).map (fun i => (i.zero, i.size, i.bytes)) = some (some (.int .u8 0), 1, 1) := by kernel_rfl

theorem one_cell (w : World) (v : Value) (T : TypeId) : ∀ j u, [v][j]? = some u → (w.alloc (.cells #[v] T)).cell? ((⟨w.heap.size, 0, none⟩ : Addr).add j) = some u := by
  intro j u hj
  match j, hj with
  | 0, hj => simp at hj; subst hj; simp [Addr.add]

/-- 'append(v, b)': one byte behind what the call owns -/
theorem wp_app1 {ops : Array Oper} {rest : List Oper} {o : Oper} {a : Act} {Q : Exit → Act → World → Prop} (hgd : o.guard = none) (s x : Operand)
    (ho : o.op = .call { callee := .builtin .append, args := #[s, x], argTypes := #[74, 74] }) (B : Nat) (W : World) (v : Value) (p : List UInt8) (b : UInt8) (xv : Int)
    (hs : a.eval s = v) (hown : OwnsB B W v p) (hx : a.eval x = .slice (some ⟨W.heap.size, 0, none⟩) 1 1) (hb : xv = b.toNat) (hp : p.length < 140737488355328) (hB : B ≤ W.heap.size)
    (h : ∀ v' w', OwnsB B w' v' (p ++ [b]) → Below B W w' → wpList Tryz.prog ops Q rest (a.put o.dst v') w') : wpList Tryz.prog ops Q (o :: rest) a (W.alloc (.cells #[.int .u8 xv] 5)) := by
  subst hb
  obtain ⟨i0, hi, hz0, hz1, hz2⟩ := info_parts Tryz.infoB
  refine wpList_append_own _ hgd s x 74 ho B 5 i0 (.int .u8 0) 1 1 Tryz.underlying74 hi hz0 hz1 hz2 rfl (by decide) v _ _ hs (World.ownsRow.alloc hown _) ⟨W.heap.size, 0, none⟩ 1 1 [bcell b] hx rfl (one_cell W _ _)
    (by intro u hu; simp at hu; subst hu; rfl) (by unfold maxLen; omega) (by omega) (by simp; omega) ?_
  intro v' w' h1 h2 _
  refine h v' w' (by simpa [OwnsB] using h1) (((Below.refl B W).alloc hB _).grown h2 (by simp; omega) ?_)
  intro k hk
  obtain ⟨_, ⟨rfl, _⟩ | ⟨g, cap, cur, rfl, hg, _⟩⟩ := hown
  · simp [Value.ownBlock] at hk
  · simp [Value.ownBlock] at hk; omega

theorem refGrp_eq (r : Nat) : ((r : Int) % 128 + 128) % 256 = ((UInt8.ofNat (r % 128 + 128)).toNat : Int) := by
  rw [Leb.nat_u8 (by omega)]; omega

set_option maxHeartbeats 400000 in
set_option maxRecDepth 100000 in
theorem refVar_any (n : Int) (w : World) : Calls Tryz.prog 25 #[.int .i64 n] w fun e w' => e = .returned (.string (str (Leb.varN (u64of n)))) ∧ Below w.heap.size w w' := by
  have hu := wrap_u64of n
  have hl := u64of_lt n
  generalize u64of n = u at hu hl ⊢
  go_enter Tryz.func25, Tryz.ntmps25
  go_wp2
  clear hu
  go_loopw [3, 4] (fun l rest wr => ∃ (p : List UInt8) (r : Nat), Hid (OwnsB w.heap.size wr l p) ∧ rest = .int .u64 r ∧ Hid (Leb.varN u = p ++ Leb.varN r) ∧ Hid (r * 128 ^ p.length < 2 ^ 64) ∧ Hid (Below w.heap.size w wr) ∧ Hid (0 < p.length → 0 < r)) (fun _ rest _ => (intOf rest).toNat)
  case atStart => exact ⟨[], u, World.ownsRow_lit w #[] 0 (Nat.le_refl _) (by decide) rfl, rfl, rfl, by simpa [Hid] using hl, (Below.refl _ _).alloc (Nat.le_refl _) _, fun h => by simp at h⟩
  case round =>
    obtain ⟨p, r, HO, rfl, H1, H2, HB, H3⟩ := hrel
    clear hl
    have hrl := r_lt H2.out
    by_cases hr : 128 ≤ r
    · have hk := len_le8 H2.out hr
      have hbs := HB.out.size
      go_wp2_with (at_builtin; refine wp_app1 rfl (.tmp 10) (.tmp 15) rfl w.heap.size wr _ p (UInt8.ofNat (r % 128 + 128)) _ rfl HO.out rfl ?e1 ?e2 ?e3 ?_; rotate_right; intro v' w' ho' hb')
      case e1 => rw [Leb.nat_u8 (by omega)]; omega
      case e2 => omega
      case e3 => omega
      go_roundw
      case rel =>
        refine ⟨_, r / 128, ho', val_int (by omega), ?_, by simpa [Hid] using pow_step H2.out, HB.out.trans hb', fun _ => by omega⟩
        have := H1.out
        rw [this, Leb.varN_big (u := r) (by omega)]; simp [Hid]
      case measure => simp [intOf]; omega
    · have hk : p.length ≤ 9 := by
        by_cases h0 : 0 < p.length
        · exact len_le9 H2.out (H3.out h0)
        · omega
      have hbs := HB.out.size
      go_wp2_with (at_builtin; refine wp_app1 rfl (.tmp 19) (.tmp 22) rfl w.heap.size wr _ p (UInt8.ofNat r) _ rfl HO.out rfl ?d1 ?d2 ?d3 ?_; rotate_right; intro v' w' ho' hb'; have hcv := owns_conv ho')
      case d1 => rw [Leb.nat_u8 (by omega)]
      case d2 => omega
      case d3 => omega
      go_ret
      exact ⟨ret_str (by rw [H1.out, Leb.varN_small (u := r) (by omega)]), HB.out.trans hb'⟩

theorem u64of_nat {n : Nat} (h : n < 18446744073709551616) : u64of (n : Int) = n := by unfold u64of; omega
theorem var_size (n : Int) : (str (Leb.varN (u64of n))).size ≤ 10 := by rw [str_size]; exact Leb.varN_len64 (u64of_lt n)
theorem zeroB : ∀ n, (madeCells (Value.int .u8 0).cells (n * 1)).toList = List.replicate n (.int .u8 0) := fun n => by rw [Nat.mul_one]; exact toList_madeCells_one _ _

def rowP (j : Nat) (q : List UInt8) : Array Value := (List.replicate j (Value.int .u8 0) ++ q.map bcell).toArray
structure PutMem (W : World) (j : Nat) (q : List UInt8) (w : World) : Prop where
  own : w.heap[W.heap.size]? = some (.cells (rowP j q) 5 (0, 0))
  below : Below W.heap.size W w
theorem putMem_start {W w : World} {k : Nat} (h : w.ownsRow W.heap.size 5 1 (.slice (some ⟨W.heap.size, 0, none⟩) k k) k (madeCells (Value.int .u8 0).cells (k * 1)).toList) (hg : W.grownBy w none) : PutMem W k [] w := by
  refine ⟨?_, (Below.refl _ W).grown hg (Nat.le_refl _) (by intro k hk; cases hk)⟩
  obtain ⟨hl, ⟨hv, _⟩ | ⟨g, cap, cur, hv, hb, hh, hn, hc, hs, ht⟩⟩ := h
  · simp at hv
  · simp only [Value.slice.injEq, Option.some.injEq, Addr.mk.injEq, and_true, true_and] at hv
    obtain ⟨rfl, rfl⟩ := hv
    rw [hh]
    have e : cur = rowP k [] := by
      apply Array.ext'
      rw [zeroB, List.take_of_length_le (by rw [Array.length_toList]; omega)] at ht
      rw [ht]; simp [rowP]
    rw [e]
theorem PutMem.cell {W w : World} {j : Nat} {q : List UInt8} (h : PutMem W (j + 1) q w) : ∃ v, w.cell? ⟨W.heap.size, j, none⟩ = some v := by
  rw [cell_of_row _ _ _ _ _ _ h.own]; exact ⟨_, Array.getElem?_eq_getElem (by simp [rowP]; omega)⟩
theorem PutMem.free {W w : World} {j : Nat} {q : List UInt8} (h : PutMem W j q w) (i : Nat) : w.frozen? ⟨W.heap.size, i, none⟩ = false := frozen_of_row _ _ _ _ _ h.own
theorem rowP_set (j : Nat) (q : List UInt8) (b : UInt8) : (rowP (j + 1) q).setIfInBounds j (bcell b) = rowP j (b :: q) := by
  apply Array.ext'
  rw [Array.toList_setIfInBounds]
  simp only [rowP]
  rw [List.replicate_succ', List.append_assoc, List.set_append_right _ _ (by simp)]
  simp
theorem PutMem.set {W w : World} {j : Nat} {q : List UInt8} (h : PutMem W (j + 1) q w) (b : UInt8) {v : Value} (hv : v = bcell b) : PutMem W j (b :: q) (w.setCell ⟨W.heap.size, j, none⟩ v) := by
  subst hv
  exact ⟨by rw [heap_setCell_same _ _ _ _ _ _ h.own, rowP_set], h.below.setCell (Nat.le_refl _) _⟩
theorem PutMem.conv {W w : World} {q : List UInt8} (h : PutMem W 0 q w) (n : Nat) (hn : n = q.length) : (convert 74 9 (.slice (some ⟨W.heap.size, 0, none⟩) n n)).run Tryz.prog w = .ok (.string (str q)) w := by
  subst hn
  refine run_convert_bytes_back w _ _ _ ⟨W.heap.size, 0, none⟩ q.length q Tryz.underlying74 Tryz.underlying5 Tryz.underlying9 fun j hj => ?_
  have hadd : (⟨W.heap.size, 0, none⟩ : Addr).add j = ⟨W.heap.size, j, none⟩ := by unfold Addr.add; split <;> simp_all
  rw [hadd, cell_of_row _ _ _ _ _ _ h.own]; simp [rowP, hj, bcell]

/-- 'string([]byte{..})': a literal's bytes -/
theorem conv_lit (w : World) (l : List UInt8) (n : Nat) (hn : n = l.length) (C : Array Value) (hC : C = (l.map bcell).toArray) :
    (convert 74 9 (.slice (some ⟨w.heap.size, 0, none⟩) n n)).run Tryz.prog (w.alloc (.cells C 5)) = .ok (.string (str l)) (w.alloc (.cells C 5)) := by
  subst hn hC
  refine run_convert_bytes_back _ _ _ _ ⟨w.heap.size, 0, none⟩ l.length l Tryz.underlying74 Tryz.underlying5 Tryz.underlying9 fun j hj => ?_
  have hadd : (⟨w.heap.size, 0, none⟩ : Addr).add j = ⟨w.heap.size, j, none⟩ := by unfold Addr.add; split <;> simp_all
  rw [hadd, cell_of_row _ _ _ _ _ _ (heap_alloc_new _ _)]; simp [hj, bcell]

end Go.Proofs.YtbodmeiecdomfaaGreat.O
