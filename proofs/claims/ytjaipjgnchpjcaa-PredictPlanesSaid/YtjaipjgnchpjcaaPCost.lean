/-
  The cost of residuals, in the program and in the reference (contracts).
-/
import Derived.Test.YtjaipjgnchpjcaaPStr
namespace Go.Proofs.Ytjaipjgnchpjcaa.P
open Go.RowKit T Go.Shelf
set_option maxRecDepth 100000

/-- the cost of a byte, of a list of bytes -/
def c1 (b : UInt8) : Int := min (b.toNat : Int) (256 - b.toNat)
def cst (l : List UInt8) : Int := (l.map c1).sum
theorem c1_bd (b : UInt8) : 0 ≤ c1 b ∧ c1 b ≤ 128 := by have := b.toNat_lt; unfold c1; constructor <;> omega
theorem cst_app (a b : List UInt8) : cst (a ++ b) = cst a + cst b := by unfold cst; rw [List.map_append, List.sum_append]
theorem cst_nil : cst [] = 0 := rfl
theorem cst_cons (b : UInt8) (l : List UInt8) : cst (b :: l) = c1 b + cst l := by unfold cst; rw [List.map_cons, List.sum_cons]
theorem cst_bd (l : List UInt8) : 0 ≤ cst l ∧ cst l ≤ 128 * l.length := by
  induction l with
  | nil => exact ⟨Int.le_refl _, Int.le_refl _⟩
  | cons b l ih =>
    rw [cst_cons, List.length_cons]
    have := c1_bd b
    omega
theorem cst_rev (l : List UInt8) : cst l.reverse = cst l := by
  induction l with
  | nil => rfl
  | cons b l ih => rw [List.reverse_cons, cst_app, ih, cst_cons, cst_cons, cst_nil]; omega
theorem cst_zero (l : List UInt8) : cst l = 0 ↔ ∀ b ∈ l, b = 0 := by
  induction l with
  | nil => exact Iff.intro (fun _ b hb => nomatch hb) (fun _ => rfl)
  | cons b l ih =>
    rw [cst_cons]
    have h1 := c1_bd b
    have h2 := cst_bd l
    have hz : c1 b = 0 ↔ b = 0 := by
      have := b.toNat_lt
      have e : b = 0 ↔ b.toNat = 0 := ⟨fun h => by rw [h]; rfl, fun h => UInt8.toNat_inj.1 (by rw [h]; rfl)⟩
      rw [e]; unfold c1; omega
    constructor
    · intro h x hx
      rcases List.mem_cons.1 hx with rfl | hx
      · exact hz.1 (by omega)
      · exact ih.1 (by omega) x hx
    · intro h
      have := hz.2 (h b (List.mem_cons_self ..))
      have := ih.2 fun x hx => h x (List.mem_cons_of_mem _ hx)
      omega
/-- the cost of the first k bytes -/
def cto (s : ByteArray) (k : Nat) : Int := cst (s.data.toList.take k)
theorem cto_succ (s : ByteArray) (k : Nat) (h : k < s.size) : cto s (k + 1) = cto s k + c1 s[k] := by
  have hl : s.data.toList.length = s.size := Array.length_toList
  unfold cto
  rw [List.take_add_one, List.getElem?_eq_getElem (by omega), cst_app]
  show _ + cst [s.data.toList[k]] = _
  rw [cst_cons, cst_nil, Int.add_zero, Array.getElem_toList]
  rfl
theorem cto_end (s : ByteArray) : cto s s.size = cst s.data.toList := by
  have hl : s.data.toList.length = s.size := Array.length_toList
  unfold cto; rw [List.take_of_length_le (by omega)]
theorem cto_bd (s : ByteArray) (k : Nat) : 0 ≤ cto s k ∧ cto s k ≤ 128 * k := by
  have h := cst_bd (s.data.toList.take k)
  have := List.length_take_le k s.data.toList
  unfold cto; omega
set_option maxHeartbeats 1000000 in
theorem cost_any (s : ByteArray) (w : World) (hs : s.size ≤ 281474976710656) : Calls Try.prog 17 #[.string s] w fun e w' => e = .returned (.int .i64 (cst s.data.toList)) ∧ w = w' := by
  rw [← cto_end]
  go_enter Try.func17, Try.ntmps17
  go_wp2
  go_loop [3, 8] (fun c i => ∃ k : Nat, k ≤ s.size ∧ i = .int .i64 k ∧ c = .int .i64 (cto s k)) (fun _ i => s.size - (intOf i).toNat)
  case atStart => exact ⟨0, Nat.zero_le _, rfl, rfl⟩
  case round =>
    obtain ⟨k, hk, rfl, rfl⟩ := hrel
    have hb := cto_bd s k
    by_cases hlt : k < s.size
    · have h8 := UInt8.toNat_lt s[k]
      have e1 := cto_succ s k hlt
      have h1 : c1 s[k] = min ((s[k]).toNat : Int) (256 - (s[k]).toNat) := rfl
      rw [h1] at e1
      clear h1
      generalize cto s k = x at *
      have HE := Lib.hid e1
      clear e1
      go_wp2
      go_round
      case rel => exact ⟨k + 1, by omega, by go_num, congrArg (Value.int .i64) (by rw [HE.out]; split <;> omega)⟩
      case measure => simp [intOf]; omega
    · obtain rfl : k = s.size := by omega
      go_wp2
      go_ret
      exact ⟨rfl, rfl⟩
set_option maxHeartbeats 1000000 in
theorem refCost_any (s : ByteArray) (w : World) (hs : s.size ≤ 281474976710656) : Calls Try.prog 18 #[.string s] w fun e w' => e = .returned (.int .i64 (cst s.data.toList)) ∧ Below w.heap.size w w' := by
  rw [← cto_end]
  go_enter Try.func18, Try.ntmps18
  go_wp2
  go_loopw [3, 4] (fun c i wr => ∃ k : Nat, k ≤ s.size ∧ i = .int .i64 k ∧ c = .int .i64 (cto s k) ∧ Hid (Below w.heap.size w wr)) (fun _ i _ => s.size - (intOf i).toNat)
  case atStart => exact ⟨0, Nat.zero_le _, rfl, rfl, Below.refl _ _⟩
  case round =>
    obtain ⟨k, hk, rfl, rfl, HB⟩ := hrel
    have hb := cto_bd s k
    by_cases hlt : k < s.size
    · have h8 := UInt8.toNat_lt s[k]
      have e1 := cto_succ s k hlt
      have h1 : c1 s[k] = min ((s[k]).toNat : Int) (256 - (s[k]).toNat) := rfl
      rw [h1] at e1
      clear h1
      generalize cto s k = x at *
      have HE := Lib.hid e1
      clear e1
      go_upto_region 5 with fail
      go_quiet (fail)
      have hB2 : Below w.heap.size w (wr.drewN nq) := HB.out.trans ⟨rfl, rfl, rfl, Nat.le_refl _, fun _ _ => rfl⟩
      have HB2 := Lib.hid hB2
      clear hB2
      generalize wr.drewN nq = w5 at HB2 ⊢
      go_wp2
      go_roundw
      case rel => exact ⟨k + 1, by omega, by go_num, congrArg (Value.int .i64) (by rw [HE.out]; split <;> omega), HB2.out⟩
      case measure => simp [intOf]; omega
    · obtain rfl : k = s.size := by omega
      go_wp2
      go_ret
      exact ⟨rfl, HB.out⟩
theorem zeroB : ∀ n, (madeCells (Value.int .u8 0).cells (n * 1)).toList = List.replicate n (.int .u8 0) := fun n => by rw [Nat.mul_one]; exact toList_madeCells_one _ _
/-- 'make([]byte, n)' -/
theorem wpList_maken {ops : Array Oper} {rest : List Oper} {o : Oper} {a : Act} {w : World} {Q : Exit → Act → World → Prop} (hg : o.guard = none) (x y : Operand) (ho : o.op = .makeSlice 28 x y) (n : Nat) (hn : n ≤ 1000) (hx : a.eval x = .int .i64 n) (hy : a.eval y = .int .i64 n) (B : Nat) (hB : B ≤ w.heap.size)
    (h : ∀ v w', OwnsB B w' v (List.replicate n 0) → Below B w w' → wpList Try.prog ops Q rest (a.put o.dst v) w') : wpList Try.prog ops Q (o :: rest) a w := by
  obtain ⟨i0, hi, hz0, hz1, hz2⟩ := info_parts infoB
  obtain ⟨w', hr, ho1, hg1⟩ := run_make_full (P := Try.prog) w B 28 5 i0 _ 1 Try.underlying28 hi hz0 hz1 .i64 .i64 n (by rw [hz2]; omega) (by unfold maxLen; omega) hB
  refine wpList_plain hg fun K hK => ?_
  unfold Oper.wp execOp
  simp only [ho, hx, hy, Sem.run_bind, hr, Result.andThen_ok]
  refine hK _ _ (h _ w' ?_ ((Below.refl B w).grown hg1 hB (by intro k hk; cases hk)))
  unfold OwnsB
  rw [List.length_replicate, List.map_replicate]
  rw [zeroB] at ho1
  exact ho1
/-- a string of noughts -/
theorem zeros_any (n : Nat) (w : World) (hn : n ≤ 1000) : Calls Try.prog 19 #[.int .i64 n] w fun e w' => e = .returned (.string (str (List.replicate n 0))) ∧ Below w.heap.size w w' := by
  go_enter Try.func19, Try.ntmps19
  go_upto_region 1 with fail
  go_wp2_with (first | (refine wpList_maken rfl (.tmp 3) (.tmp 3) rfl n hn rfl rfl w.heap.size (Nat.le_refl _) ?_; intro v3 w3 ho3 hb3; have hcv := owns_conv ho3; have HB3 := Lib.hid hb3; clear ho3 hb3))
  go_ret
  exact ⟨rfl, HB3.out⟩
end Go.Proofs.Ytjaipjgnchpjcaa.P
