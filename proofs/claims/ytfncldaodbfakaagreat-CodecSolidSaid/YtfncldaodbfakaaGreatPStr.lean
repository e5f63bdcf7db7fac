/-
  The bytes of planes: join (contract). The cost of residuals, in the program and in the reference (contracts).
-/
import Derived.Test.YtfncldaodbfakaaGreatPMem
import Derived.Test.YtfncldaodbfakaaGreatTByt
import Derived.Laws.CopyOwn
import Derived.Lib.Strings
import Derived.Laws.OwnMore
namespace Go.Proofs.YtfncldaodbfakaaGreat.P
open Go.RowKit T Go.Shelf
set_option maxRecDepth 100000
variable {W w w' : World} {L : List (Nat × Obj)}

def str (l : List UInt8) : ByteArray := ⟨l.toArray⟩
def bcell (b : UInt8) : Value := .int .u8 (b.toNat : Int)
/-- the bytes p lie at the head of the slice v, which the call owns -/
def OwnsB (B : Nat) (w : World) (v : Value) (p : List UInt8) : Prop := w.ownsRow B 5 1 v p.length (p.map bcell)
theorem owns_conv {B : Nat} {w : World} {v : Value} {p : List UInt8} (h : OwnsB B w v p) : (convert 84 9 v).run Tryz.prog w = .ok (.string (str p)) w := by
  obtain ⟨hl, h | ⟨g, cap, cur, rfl, hg, hh, hn, hc, hs, ht⟩⟩ := h
  · obtain ⟨rfl, h0⟩ := h
    have : p = [] := List.eq_nil_of_length_eq_zero h0
    subst this
    exact run_convert_bytes_nil w _ _ Tryz.underlying84 Tryz.underlying5 _ _ _ Tryz.underlying9
  · refine run_convert_bytes_back w _ _ _ ⟨g, 0, none⟩ cap p Tryz.underlying84 Tryz.underlying5 Tryz.underlying9 fun j hj => ?_
    have hadd : (⟨g, 0, none⟩ : Addr).add j = ⟨g, j, none⟩ := by unfold Addr.add; split <;> simp_all
    rw [hadd, cell_of_row _ _ _ _ _ _ hh]
    have h2 : (cur.toList.take (p.length * 1))[j]? = (p.map bcell)[j]? := by rw [ht]
    rw [List.getElem?_take_of_lt (by omega)] at h2
    rw [← Array.getElem?_toList, h2]; simp [hj, bcell]
theorem infoB : (Tryz.prog.info? 5).map (fun i => (i.zero, i.size, i.bytes)) = some (some (.int .u8 0), 1, 1) := by kernel_rfl
/-- the first n values as bytes -/
def bl (f : Nat → Int) (n : Nat) : List UInt8 := (List.range n).map fun i => u8 (f i)
theorem bl_len (f : Nat → Int) (n : Nat) : (bl f n).length = n := by unfold bl; simp
theorem bl_get (f : Nat → Int) (n i : Nat) (hi : i < n) : (bl f n)[i]? = some (u8 (f i)) := by
  unfold bl; rw [List.getElem?_map, List.getElem?_range hi]; rfl
theorem bl_app (f : Nat → Int) (m n : Nat) : bl f (m + n) = bl f m ++ bl (fun i => f (m + i)) n := by
  unfold bl; rw [List.range_add, List.map_append, List.map_map]; rfl
theorem bl_ext {f g : Nat → Int} {n : Nat} (h : ∀ i, i < n → f i = g i) : bl f n = bl g n := by
  unfold bl; exact List.map_congr_left fun i hi => by rw [h i (by simpa using hi)]
theorem bl_cells (f : Nat → Int) (hf : ∀ i, i < 64 → Ch (f i)) : (bl f 64).map bcell = (pc f).toList := by
  unfold bl pc
  rw [List.map_map, List.toList_toArray]
  refine List.map_congr_left fun i hi => ?_
  have h := hf i (by simpa using hi)
  exact congrArg (Value.int .u8) (i8_u8 h)
/-- 'append(v, p[:]...)': a plane's bytes behind what the call owns -/
theorem wpList_app64 {ops : Array Oper} {rest : List Oper} {o : Oper} {a : Act} {Q : Exit → Act → World → Prop} (hg : o.guard = none) (s x : Operand)
    (ho : o.op = .call { callee := .builtin .append, args := #[s, x], argTypes := #[84, 84] }) (B : Nat) (v : Value) (l : List UInt8) (q : Nat) (f : Nat → Int) (hf : ∀ i, i < 64 → Ch (f i))
    (hs : a.eval s = v) (hown : OwnsB B w v l) (hx : a.eval x = .slice (some ⟨q, 0, none⟩) 64 64) (hq : w.heap[q]? = some (pob f)) (hl : l.length < 1000) (hB : B ≤ w.heap.size)
    (h : ∀ v' w', OwnsB B w' v' (l ++ bl f 64) → Below B w w' → wpList Tryz.prog ops Q rest (a.put o.dst v') w') : wpList Tryz.prog ops Q (o :: rest) a w := by
  obtain ⟨i0, hi, hz0, hz1, hz2⟩ := info_parts infoB
  refine wpList_plain hg fun K hK => ?_
  refine wp_append_own _ s x 84 ho B 5 i0 (.int .u8 0) 1 1 Tryz.underlying84 hi hz0 hz1 hz2 rfl (by decide) v _ _ hs hown ⟨q, 0, none⟩ 64 64 ((bl f 64).map bcell) hx (by simp [bl_len]) ?_
    (by intro u hu; simp at hu; obtain ⟨b, _, rfl⟩ := hu; rfl) (by unfold maxLen; omega) (by omega) hB ?_
  · intro j u hj
    rw [bl_cells f hf] at hj
    have hadd : (⟨q, 0, none⟩ : Addr).add j = ⟨q, j, none⟩ := by unfold Addr.add; split <;> simp_all
    rw [hadd, cell_of_row _ _ j _ _ (0, 0) hq]
    rw [← hj]; exact (Array.getElem?_toList ..).symm
  intro v' w' h1 h2 _
  refine hK _ _ (h v' w' (by simpa [OwnsB, bl_len] using h1) ((Below.refl B w).grown h2 hB ?_))
  intro k hk
  obtain ⟨_, ⟨rfl, _⟩ | ⟨g, cap, cur, rfl, hg, _⟩⟩ := hown
  · simp [Value.ownBlock] at hk
  · simp [Value.ownBlock] at hk; omega
/-- four planes in a row, as the cells of a slice -/
def qc (G : Nat → Int) : Array Value := ((List.range 256).map fun i => Value.int .u8 (G i)).toArray
abbrev qob (G : Nat → Int) : Obj := .cells (qc G) 231
theorem qc_size (G : Nat → Int) : (qc G).size = 256 := by unfold qc; simp
theorem qc_get (G : Nat → Int) (i : Nat) (hi : i < 256) : (qc G)[i]? = some (.int .u8 (G i)) := by
  unfold qc; rw [List.getElem?_toArray, List.getElem?_map, List.getElem?_range hi]; rfl
abbrev row4 (G : Nat → Int) (k : Nat) : Nat → Int := fun i => G (64 * k + i)
theorem load_row (s k : Nat) (G : Nat → Int) (w : World) (hk : k < 4) (h : w.heap[s]? = some (qob G)) : (Instr.loadAt 231 (.pointer (some ⟨s, k * 64, none⟩))).run Tryz.prog w = .ok (pv (row4 G k)) w := by
  have := run_loadAt_mid w s (k * 64) 231 (pc (row4 G k)).toList _ (fun j v hv => by
    have hj : j < 64 := by have := (List.getElem?_eq_some_iff.1 hv).1; rwa [Array.length_toList, pc_size] at this
    rw [cell_of_row w s _ _ _ _ h, qc_get G _ (by omega), ← hv, Array.getElem?_toList, pc_get _ j hj, Nat.mul_comm k 64]) Tryz.underlying231 rfl (by rw [info_pl, Array.length_toList, pc_size])
  simpa using this
theorem grown_below (hb : Below w.heap.size w w') : w.grownBy w' none := ⟨hb.os, hb.tape, hb.output, hb.size, fun k hk _ => hb.block k hk⟩
theorem OwnsB.later {B : Nat} {v : Value} {p : List UInt8} (h : OwnsB B w v p) (hb : Below w.heap.size w w') : OwnsB B w' v p :=
  World.ownsRow.kept h (grown_below hb) (by cases v.ownBlock <;> simp)
/-- 'make([]byte, 0, n)' -/
theorem wpList_make0 {ops : Array Oper} {rest : List Oper} {o : Oper} {a : Act} {Q : Exit → Act → World → Prop} (hg : o.guard = none) (x : Operand) (ho : o.op = .makeSlice 84 (.const (.int .i64 0)) x) (n : Nat) (hn : n ≤ 1000) (hx : a.eval x = .int .i64 n) (B : Nat) (hB : B ≤ w.heap.size)
    (h : ∀ v w', OwnsB B w' v [] → Below B w w' → wpList Tryz.prog ops Q rest (a.put o.dst v) w') : wpList Tryz.prog ops Q (o :: rest) a w := by
  obtain ⟨i0, hi, hz0, hz1, hz2⟩ := info_parts infoB
  obtain ⟨w', hr, ho1, hg1⟩ := run_make_own (P := Tryz.prog) w B 84 5 i0 _ 1 Tryz.underlying84 hi hz0 hz1 .i64 .i64 n (by rw [hz2]; omega) (by unfold maxLen; omega) hB
  refine wpList_plain hg fun K hK => ?_
  unfold Oper.wp execOp
  simp only [ho, hx, Sem.run_bind]
  rw [show a.eval (.const (.int .i64 0)) = .int .i64 0 from rfl, hr]
  exact hK _ _ (h _ w' ho1 ((Below.refl B w).grown hg1 hB (by intro k hk; cases hk)))
set_option maxHeartbeats 2000000 in
theorem join_any (G : Nat → Int) (s : Nat) (w : World) (hs : w.heap[s]? = some (qob G)) (hG : ∀ i, i < 256 → Ch (G i)) :
    Calls Tryz.prog 182 #[.slice (some ⟨s, 0, none⟩) 4 4] w fun e w' => e = .returned (.string (str (bl G 256))) ∧ Below w.heap.size w w' := by
  have hlt := (Array.getElem?_eq_some_iff.1 hs).1
  go_enter Tryz.func182, Tryz.ntmps182
  go_upto_region 1 with fail
  go_wp2_with (first | (refine wpList_make0 rfl (.tmp 8) rfl 256 (by omega) rfl w.heap.size (Nat.le_refl _) ?_; intro v3 w3 ho3 hb3))
  have HO3 := Lib.hid ho3
  have HB3 := Lib.hid hb3
  clear ho3 hb3
  go_loopw [3, 12] (fun v i wr => ∃ k : Nat, k ≤ 4 ∧ i = .int .i64 k ∧ Hid (OwnsB w.heap.size wr v (bl G (64 * k))) ∧ Hid (Below w.heap.size w wr)) (fun _ i _ => 4 - (intOf i).toNat)
  case atStart => exact ⟨0, by omega, rfl, HO3.out, HB3.out⟩
  case round =>
    clear HO3 HB3
    obtain ⟨k, hk, rfl, HO, HB⟩ := hrel
    by_cases hlk : k < 4
    · have HL := Lib.hid (load_row s k G wr hlk (old_row hs HB.out))
      have hq := World.alloc_heap_new wr (pob zn)
      have HST := Lib.hid (store_pl wr.heap.size zn (row4 G k) _ hq)
      have hq2 := setRow_heap _ _ _ (pc (row4 G k)) _ (0, 0) hq
      have hb5 : Below wr.heap.size wr ((wr.alloc (pob zn)).setRow wr.heap.size (pc (row4 G k))) := T.Below.setRow below1 (Nat.le_refl _) _
      have HQ2 := Lib.hid hq2
      have HB5 := Lib.hid hb5
      clear hq hq2 hb5
      go_upto_region 5 with (first
        | (refine wpList_load_of rfl 231 _ rfl _ HL.out ?_)
        | (refine wpList_alloc_of rfl 231 rfl _ (zero_pl _) ?_)
        | (refine wpList_store_of rfl 231 _ _ rfl HST.out ?_))
      have HO5 := Lib.hid (HO.out.later HB5.out)
      have hB6 : Below w.heap.size w ((wr.alloc (pob zn)).setRow wr.heap.size (pc (row4 G k))) := HB.out.trans (HB5.out.mono HB.out.size)
      have HB6 := Lib.hid hB6
      clear hB6 HL HST HO HB HB5
      generalize (wr.alloc (pob zn)).setRow wr.heap.size (pc (row4 G k)) = w5 at HQ2 HO5 HB6 ⊢
      generalize wr.heap.size = q at HQ2 ⊢
      go_wp2_with (first
        | (refine wpList_app64 rfl (.tmp 16) (.tmp 17) rfl w.heap.size _ (bl G (64 * k)) q (row4 G k) (fun i hi => hG _ (by omega)) rfl HO5.out rfl HQ2.out (by rw [bl_len]; omega) HB6.out.size ?_; intro v6 w6 ho6 hb6; rw [show bl G (64 * k) ++ bl (row4 G k) 64 = bl G (64 * (k + 1)) from (bl_app G (64 * k) 64).symm] at ho6; have HO6 := Lib.hid ho6; have hb7 := HB6.out.trans hb6; have HB7 := Lib.hid hb7; clear ho6 hb6 hb7))
      go_roundw
      case rel => exact ⟨k + 1, by omega, by go_num, HO6.out, HB7.out⟩
      case measure => simp [intOf]; omega
    · obtain rfl : k = 4 := by omega
      have hcv := owns_conv HO.out
      go_wp2
      go_ret
      exact ⟨rfl, HB.out⟩
end Go.Proofs.YtfncldaodbfakaaGreat.P

namespace Go.Proofs.YtfncldaodbfakaaGreat.P
open Go.RowKit T Go.Shelf
set_option maxRecDepth 100000

/-- the cost of a byte, of a list of bytes -/
def c1 (b : UInt8) : Int := min (b.toNat : Int) (256 - b.toNat)
def cst (l : List UInt8) : Int := (l.map c1).sum
theorem c1_bd (b : UInt8) : 0 ≤ c1 b ∧ c1 b ≤ 128 := by have := b.toNat_lt; unfold c1; constructor <;> omega
theorem cst_app (a b : List UInt8) : cst (a ++ b) = cst a + cst b := by unfold cst; rw [List.map_append, List.sum_append]
theorem cst_nil : cst [] = 0 := rfl
theorem cst_cons (b : UInt8) (l : List UInt8) : cst (b :: l) = c1 b + cst l := by unfold cst; rw [List.map_cons, List.sum_cons]
theorem cst_bd (l : List UInt8) : 0 ≤ cst l ∧ cst l ≤ 128 * l.length := by
  induction l with
  | nil => exact ⟨Int.le_refl _, Int.le_refl _⟩
  | cons b l ih =>
    rw [cst_cons, List.length_cons]
    have := c1_bd b
    omega
theorem cst_rev (l : List UInt8) : cst l.reverse = cst l := by
  induction l with
  | nil => rfl
  | cons b l ih => rw [List.reverse_cons, cst_app, ih, cst_cons, cst_cons, cst_nil]; omega
theorem cst_zero (l : List UInt8) : cst l = 0 ↔ ∀ b ∈ l, b = 0 := by
  induction l with
  | nil => exact Iff.intro (fun _ b hb => nomatch hb) (fun _ => rfl)
  | cons b l ih =>
    rw [cst_cons]
    have h1 := c1_bd b
    have h2 := cst_bd l
    have hz : c1 b = 0 ↔ b = 0 := by
      have := b.toNat_lt
      have e : b = 0 ↔ b.toNat = 0 := ⟨fun h => by rw [h]; rfl, fun h => UInt8.toNat_inj.1 (by rw [h]; rfl)⟩
      rw [e]; unfold c1; omega
    constructor
    · intro h x hx
      rcases List.mem_cons.1 hx with rfl | hx
      · exact hz.1 (by omega)
      · exact ih.1 (by omega) x hx
    · intro h
      have := hz.2 (h b (List.mem_cons_self ..))
      have := ih.2 fun x hx => h x (List.mem_cons_of_mem _ hx)
      omega
/-- the cost of the first k bytes -/
def cto (s : ByteArray) (k : Nat) : Int := cst (s.data.toList.take k)
theorem cto_succ (s : ByteArray) (k : Nat) (h : k < s.size) : cto s (k + 1) = cto s k + c1 s[k] := by
  have hl : s.data.toList.length = s.size := Array.length_toList
  unfold cto
  rw [List.take_add_one, List.getElem?_eq_getElem (by omega), cst_app]
  show _ + cst [s.data.toList[k]] = _
  rw [cst_cons, cst_nil, Int.add_zero, Array.getElem_toList]
  rfl
theorem cto_end (s : ByteArray) : cto s s.size = cst s.data.toList := by
  have hl : s.data.toList.length = s.size := Array.length_toList
  unfold cto; rw [List.take_of_length_le (by omega)]
theorem cto_bd (s : ByteArray) (k : Nat) : 0 ≤ cto s k ∧ cto s k ≤ 128 * k := by
  have h := cst_bd (s.data.toList.take k)
  have := List.length_take_le k s.data.toList
  unfold cto; omega
set_option maxHeartbeats 1000000 in
theorem cost_any (s : ByteArray) (w : World) (hs : s.size ≤ 281474976710656) : Calls Tryz.prog 177 #[.string s] w fun e w' => e = .returned (.int .i64 (cst s.data.toList)) ∧ w = w' := by
  rw [← cto_end]
  go_enter Tryz.func177, Tryz.ntmps177
  go_wp2
  go_loop [3, 8] (fun c i => ∃ k : Nat, k ≤ s.size ∧ i = .int .i64 k ∧ c = .int .i64 (cto s k)) (fun _ i => s.size - (intOf i).toNat)
  case atStart => exact ⟨0, Nat.zero_le _, rfl, rfl⟩
  case round =>
    obtain ⟨k, hk, rfl, rfl⟩ := hrel
    have hb := cto_bd s k
    by_cases hlt : k < s.size
    · have h8 := UInt8.toNat_lt s[k]
      have e1 := cto_succ s k hlt
      have h1 : c1 s[k] = min ((s[k]).toNat : Int) (256 - (s[k]).toNat) := rfl
      rw [h1] at e1
      clear h1
      generalize cto s k = x at *
      have HE := Lib.hid e1
      clear e1
      go_wp2
      go_round
      case rel => exact ⟨k + 1, by omega, by go_num, congrArg (Value.int .i64) (by rw [HE.out]; split <;> omega)⟩
      case measure => simp [intOf]; omega
    · obtain rfl : k = s.size := by omega
      go_wp2
      go_ret
      exact ⟨rfl, rfl⟩
set_option maxHeartbeats 1000000 in
theorem refCost_any (s : ByteArray) (w : World) (hs : s.size ≤ 281474976710656) : Calls Tryz.prog 168 #[.string s] w fun e w' => e = .returned (.int .i64 (cst s.data.toList)) ∧ Below w.heap.size w w' := by
  rw [← cto_end]
  go_enter Tryz.func168, Tryz.ntmps168
  go_wp2
  go_loopw [3, 4] (fun c i wr => ∃ k : Nat, k ≤ s.size ∧ i = .int .i64 k ∧ c = .int .i64 (cto s k) ∧ Hid (Below w.heap.size w wr)) (fun _ i _ => s.size - (intOf i).toNat)
  case atStart => exact ⟨0, Nat.zero_le _, rfl, rfl, Below.refl _ _⟩
  case round =>
    obtain ⟨k, hk, rfl, rfl, HB⟩ := hrel
    have hb := cto_bd s k
    by_cases hlt : k < s.size
    · have h8 := UInt8.toNat_lt s[k]
      have e1 := cto_succ s k hlt
      have h1 : c1 s[k] = min ((s[k]).toNat : Int) (256 - (s[k]).toNat) := rfl
      rw [h1] at e1
      clear h1
      generalize cto s k = x at *
      have HE := Lib.hid e1
      clear e1
      go_upto_region 5 with fail
      go_quiet (fail)
      have hB2 : Below w.heap.size w (wr.drewN nq) := HB.out.trans ⟨rfl, rfl, rfl, Nat.le_refl _, fun _ _ => rfl⟩
      have HB2 := Lib.hid hB2
      clear hB2
      generalize wr.drewN nq = w5 at HB2 ⊢
      go_wp2
      go_roundw
      case rel => exact ⟨k + 1, by omega, by go_num, congrArg (Value.int .i64) (by rw [HE.out]; split <;> omega), HB2.out⟩
      case measure => simp [intOf]; omega
    · obtain rfl : k = s.size := by omega
      go_wp2
      go_ret
      exact ⟨rfl, HB.out⟩
theorem zeroB : ∀ n, (madeCells (Value.int .u8 0).cells (n * 1)).toList = List.replicate n (.int .u8 0) := fun n => by rw [Nat.mul_one]; exact toList_madeCells_one _ _
/-- 'make([]byte, n)' -/
theorem wpList_maken {ops : Array Oper} {rest : List Oper} {o : Oper} {a : Act} {w : World} {Q : Exit → Act → World → Prop} (hg : o.guard = none) (x y : Operand) (ho : o.op = .makeSlice 84 x y) (n : Nat) (hn : n ≤ 1000) (hx : a.eval x = .int .i64 n) (hy : a.eval y = .int .i64 n) (B : Nat) (hB : B ≤ w.heap.size)
    (h : ∀ v w', OwnsB B w' v (List.replicate n 0) → Below B w w' → wpList Tryz.prog ops Q rest (a.put o.dst v) w') : wpList Tryz.prog ops Q (o :: rest) a w := by
  obtain ⟨i0, hi, hz0, hz1, hz2⟩ := info_parts infoB
  obtain ⟨w', hr, ho1, hg1⟩ := run_make_full (P := Tryz.prog) w B 84 5 i0 _ 1 Tryz.underlying84 hi hz0 hz1 .i64 .i64 n (by rw [hz2]; omega) (by unfold maxLen; omega) hB
  refine wpList_plain hg fun K hK => ?_
  unfold Oper.wp execOp
  simp only [ho, hx, hy, Sem.run_bind, hr, Result.andThen_ok]
  refine hK _ _ (h _ w' ?_ ((Below.refl B w).grown hg1 hB (by intro k hk; cases hk)))
  unfold OwnsB
  rw [List.length_replicate, List.map_replicate]
  rw [zeroB] at ho1
  exact ho1
end Go.Proofs.YtfncldaodbfakaaGreat.P
