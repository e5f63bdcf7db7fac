/-
  PredictSolid: from predictor 1 on, the residuals of a solid tile are noughts but for the first byte of each plane, which is the value itself.
-/
import Derived.Test.YtjaipjgnchpjcaaPLaw
import Derived.Test.YtjaipjgnchpjcaaPAny
namespace Go.Proofs.Ytjaipjgnchpjcaa.P.PLSolid
open Go.ChangeShapes Go.WideShapes Go.ChangeAt Go.RowKit Go.Shelf T
open Go.ChangeMaps (open_string)
set_option maxRecDepth 100000

theorem getD_set {l : Array Bool} {i j : Nat} (h : j ≠ i) (hl : (l.setIfInBounds i true).getD j true = true) : l.getD j true = true := by
  rw [Array.getD_eq_getD_getElem?, Array.getElem?_setIfInBounds, if_neg (by omega)] at hl
  rw [Array.getD_eq_getD_getElem?]; exact hl
/-- a slice of one byte -/
def Sl1 (w : World) (v : Value) (y : Int) : Prop := ∃ b, v = .slice (some ⟨b, 0, none⟩) 1 1 ∧ w.heap[b]? = some (.cells #[.int .u8 y] 5)
theorem Sl1.later {w w' : World} {v : Value} {y : Int} (h : Sl1 w v y) (hb : Below w.heap.size w w') : Sl1 w' v y := by
  obtain ⟨b, h1, h2⟩ := h
  exact ⟨b, h1, old_row h2 hb⟩
theorem Sl1.conv {w : World} {v : Value} {y : Int} (h : Sl1 w v y) (hy : Ch y) : (convert 28 9 v).run Try.prog w = .ok (.string (str [u8 y])) w := by
  obtain ⟨b, rfl, h2⟩ := h
  refine run_convert_bytes_back w _ _ _ ⟨b, 0, none⟩ 1 [u8 y] Try.underlying28 Try.underlying5 Try.underlying9 fun j hj => ?_
  have hadd : (⟨b, 0, none⟩ : Addr).add j = ⟨b, j, none⟩ := by unfold Addr.add; split <;> simp_all
  rw [hadd, cell_of_row _ _ _ _ _ _ h2]
  obtain rfl : j = 0 := by simpa using hj
  exact congrArg (fun x => some (Value.int .u8 x)) (i8_u8 hy).symm
section
variable {o : Oper} {a : Act} {w w' : World} {K : Act → World → Prop} {Q : Exit → Act → World → Prop}
theorem wp_move {v : Value} (x : Operand) (ho : o.op = .move x) (hx : a.eval x = v) (h : K (a.put o.dst v) w) : o.wp Try.prog a w K Q := by
  unfold Oper.wp execOp
  simp only [ho, hx, Sem.run_pure]
  exact h
theorem wp_assign {v : Value} (x : Operand) (ho : o.op = .assign x) (hx : a.eval x = v) (h : K (a.put o.dst v) w) : o.wp Try.prog a w K Q := by
  unfold Oper.wp execOp
  simp only [ho, hx, Sem.run_pure]
  exact h
theorem wp_conv {v v' : Value} (t t' : TypeId) (x : Operand) (ho : o.op = .convert t t' x) (hx : a.eval x = v) (hr : (convert t t' v).run Try.prog w = .ok v' w) (h : K (a.put o.dst v') w) : o.wp Try.prog a w K Q := by
  unfold Oper.wp execOp
  simp only [ho, hx, Sem.run_bind, hr, Result.andThen_ok, Sem.run_pure]
  exact h
theorem wp_sl1 {y : Int} (x : Operand) (ho : o.op = .buildSlice 28 1 #[(0, x)]) (hx : a.eval x = .int .u8 y) (h : K (a.put o.dst (.slice (some ⟨w.heap.size, 0, none⟩) 1 1)) (w.alloc (.cells #[.int .u8 y] 5))) : o.wp Try.prog a w K Q := by
  obtain ⟨i0, hi, hz0, hz1, hz2⟩ := info_parts infoB
  refine wp_buildSlice 28 5 1 _ ho #[.int .u8 y] i0 (.int .u8 0) Try.underlying28 hi hz0 (by rw [hz1]; omega) (by rw [hz1]; omega) ?_ h
  simp only [List.map_toArray, List.map_cons, List.map_nil, hx, hz1]
  first | kernel_rfl | (simp [Instr.fill]; done)
theorem wp_addS {s t : ByteArray} (x y : Operand) (ho : o.op = .binOp .add 9 x y 9) (hx : a.eval x = .string s) (hy : a.eval y = .string t) (hs : s.size + t.size ≤ 100000) (h : K (a.put o.dst (.string (s ++ t))) w) : o.wp Try.prog a w K Q := by
  unfold Oper.wp execOp
  have hr : (Go.binOp .add 9 (.string s) (.string t)).run Try.prog w = .ok (.string (s ++ t)) w := by
    have hn : ¬ ((s.size + t.size : Nat) : Int) > IntKind.i64.max := by
      have : IntKind.i64.max = 9223372036854775807 := rfl
      omega
    show (Op.stringOp .add s t).run Try.prog w = _
    unfold Op.stringOp
    simp only [if_neg hn, Sem.run_pure]
  have hg : eqGuard .add 9 x y (.string s) (.string t) = pure () := rfl
  simp only [ho, hx, hy, hg, Sem.run_bind, Sem.run_pure, hr, Result.andThen_ok]
  exact h
theorem wp_callZ {v : Value} (f : FuncId) (x : Value) (ty : TypeId) (ho : o.op = .call { callee := .value (.func f), args := #[.const x], argTypes := #[ty] }) (hen : ∀ args w, (callFunc f args).run Try.prog w = .ok (.enter f args) w)
    (hc : Calls Try.prog f #[x] w fun e w' => e = .returned v ∧ Below w.heap.size w w') (h : ∀ w', Below w.heap.size w w' → K (a.put o.dst v) w') : o.wp Try.prog a w K Q := by
  unfold Oper.wp execOp
  have he : a.eval (.const x) = x := rfl
  have hf : a.eval (.func f) = .func (.func f) #[] #[] := rfl
  have hd : (Deferred.ofValue (.func (.func f) #[] #[]) #[x]).run Try.prog w = .ok { target := .fn (.func f) #[], args := #[x] } w := rfl
  simp only [ho, resolve, invoke, Sem.run_bind, Result.andThen_ok, List.map_toArray, List.map_cons, List.map_nil, he, hf, hd, Array.append_empty, hen]
  refine hc.mono fun e w' ⟨h1, h2⟩ => ?_
  subst h1
  exact h w' h2
end
def dst (j : Nat) : Nat := if j < 24 then 23 + j else 7
/-- the frame, by what stands in the slots that the region fills -/
def fr (p : Px) (b0 : Nat) (y u v : Int) (k : Nat → Value) : Array Value := (p.v :: ptrB b0 :: .bool false :: .bool true :: .int .u8 y :: .int .u8 u :: .int .u8 v :: k 7 :: undef :: undef :: undef :: .bool true :: (.tuple #[.int .u8 y, .int .u8 u, .int .u8 v]) :: ptrB b0 :: .int .u8 p.r :: (.pointer (some ⟨b0, 1, none⟩)) :: .int .u8 p.g :: (.pointer (some ⟨b0, 2, none⟩)) :: .int .u8 p.b :: (.tuple #[.int .u8 y, .int .u8 u, .int .u8 v]) :: .int .u8 y :: .int .u8 u :: .int .u8 v :: k 23 :: k 24 :: k 25 :: k 26 :: k 27 :: k 28 :: k 29 :: k 30 :: k 31 :: k 32 :: k 33 :: k 34 :: k 35 :: k 36 :: k 37 :: k 38 :: k 39 :: k 40 :: k 41 :: k 42 :: k 43 :: k 44 :: k 45 :: k 46 :: undef :: undef :: undef :: undef :: undef :: undef :: undef :: undef :: undef :: undef :: undef :: undef :: undef :: undef :: undef :: undef :: undef :: undef :: undef :: undef :: [] : List Value).toArray
def upk (k : Nat → Value) (d : Nat) (x : Value) : Nat → Value := fun s => if s = d then x else k s
/-- what operation j leaves -/
def post (p : Px) (b0 : Nat) (y u v : Int) (z s1 s2 s3 s4 s5 s6 s7 : ByteArray) (j : Nat) (v9 : Value) (w9 : World) : Prop := match j with
  | 0 => v9 = .int .u8 y
  | 1 => Sl1 w9 v9 y
  | 2 => v9 = .string (str [u8 y])
  | 3 => v9 = .string z
  | 4 => v9 = .string s1
  | 5 => v9 = .int .u8 u
  | 6 => Sl1 w9 v9 u
  | 7 => v9 = .string (str [u8 u])
  | 8 => v9 = .string s2
  | 9 => v9 = .string z
  | 10 => v9 = .string s3
  | 11 => v9 = .int .u8 v
  | 12 => Sl1 w9 v9 v
  | 13 => v9 = .string (str [u8 v])
  | 14 => v9 = .string s4
  | 15 => v9 = .string z
  | 16 => v9 = .string s5
  | 17 => v9 = .pointer (some ⟨b0, 3, none⟩)
  | 18 => v9 = .int .u8 p.a
  | 19 => Sl1 w9 v9 p.a
  | 20 => v9 = .string (str [u8 p.a])
  | 21 => v9 = .string s6
  | 22 => v9 = .string z
  | 23 => v9 = .string s7
  | _ => v9 = .string s7
theorem fr_put (p : Px) (b0 : Nat) (y u v : Int) (k : Nat → Value) (i : Nat) (hi : i < 25) (x : Value) : (fr p b0 y u v k).setIfInBounds (dst i) x = fr p b0 y u v (upk k (dst i) x) := by
  rcases (by omega : i = 0 ∨ i = 1 ∨ i = 2 ∨ i = 3 ∨ i = 4 ∨ i = 5 ∨ i = 6 ∨ i = 7 ∨ i = 8 ∨ i = 9 ∨ i = 10 ∨ i = 11 ∨ i = 12 ∨ i = 13 ∨ i = 14 ∨ i = 15 ∨ i = 16 ∨ i = 17 ∨ i = 18 ∨ i = 19 ∨ i = 20 ∨ i = 21 ∨ i = 22 ∨ i = 23 ∨ i = 24) with rfl | rfl | rfl | rfl | rfl | rfl | rfl | rfl | rfl | rfl | rfl | rfl | rfl | rfl | rfl | rfl | rfl | rfl | rfl | rfl | rfl | rfl | rfl | rfl | rfl <;> rfl
theorem post_later (p : Px) (b0 : Nat) (y u v : Int) (z s1 s2 s3 s4 s5 s6 s7 : ByteArray) {j : Nat} {x : Value} {w w' : World} (h : post p b0 y u v z s1 s2 s3 s4 s5 s6 s7 j x w) (hb : Below w.heap.size w w') : post p b0 y u v z s1 s2 s3 s4 s5 s6 s7 j x w' := by
  match j, h with
  | 0, h => exact h
  | 1, h => exact Sl1.later h hb
  | 2, h => exact h
  | 3, h => exact h
  | 4, h => exact h
  | 5, h => exact h
  | 6, h => exact Sl1.later h hb
  | 7, h => exact h
  | 8, h => exact h
  | 9, h => exact h
  | 10, h => exact h
  | 11, h => exact h
  | 12, h => exact Sl1.later h hb
  | 13, h => exact h
  | 14, h => exact h
  | 15, h => exact h
  | 16, h => exact h
  | 17, h => exact h
  | 18, h => exact h
  | 19, h => exact Sl1.later h hb
  | 20, h => exact h
  | 21, h => exact h
  | 22, h => exact h
  | 23, h => exact h
  | _ + 24, h => exact h
def Inv (W : World) (p : Px) (b0 : Nat) (y u v : Int) (z s1 s2 s3 s4 s5 s6 s7 : ByteArray) (listed : Array Bool) (a : Act) (w : World) : Prop := ∃ k, a = { tmps := fr p b0 y u v k, defers := [] } ∧ St W [(b0, pxo p)] w ∧ ∀ j, j < 25 → listed.getD j true = true → post p b0 y u v z s1 s2 s3 s4 s5 s6 s7 j (k (dst j)) w
theorem inv_next {W : World} {p : Px} {b0 : Nat} {y u v : Int} {z s1 s2 s3 s4 s5 s6 s7 : ByteArray} {listed : Array Bool} {w w' : World} {k : Nat → Value} {i : Nat} {x : Value} (hi : i < 25) (hS : St W [(b0, pxo p)] w) (hP : ∀ j, j < 25 → listed.getD j true = true → post p b0 y u v z s1 s2 s3 s4 s5 s6 s7 j (k (dst j)) w) (hb : Below w.heap.size w w')
    (hx : post p b0 y u v z s1 s2 s3 s4 s5 s6 s7 i x w') : Inv W p b0 y u v z s1 s2 s3 s4 s5 s6 s7 (listed.setIfInBounds i true) (Act.put { tmps := fr p b0 y u v k, defers := [] } (some (dst i)) x) w' := by
  refine ⟨upk k (dst i) x, congrArg (fun t => ({ tmps := t, defers := [] } : Act)) (fr_put p b0 y u v k i hi x), hS.later hb, fun j hj hl => ?_⟩
  by_cases e : j = i
  · subst e
    have h1 : upk k (dst j) x (dst j) = x := if_pos rfl
    rw [h1]; exact hx
  · have h1 : upk k (dst i) x (dst j) = k (dst j) := if_neg (by unfold dst; split <;> split <;> omega)
    rw [h1]; exact post_later p b0 y u v z s1 s2 s3 s4 s5 s6 s7 (hP j hj (getD_set e hl)) hb
theorem wp_field {b0 : Nat} {o : Oper} {a : Act} {w : World} {K : Act → World → Prop} {Q : Exit → Act → World → Prop} (ho : o.op = .fieldAddr 23 (.tmp 1) 3) (hx : a.eval (.tmp 1) = ptrB b0) (h : K (a.put o.dst (.pointer (some ⟨b0, 3, none⟩))) w) : o.wp Try.prog a w K Q := by
  have hr : (Instr.fieldAt 23 (ptrB b0) 3).run Try.prog w = .ok (.pointer (some ⟨b0, 3, none⟩)) w := by kernel_rfl
  unfold Oper.wp execOp
  simp only [ho, hx, Sem.run_bind, hr, Result.andThen_ok, Sem.run_pure]
  exact h
theorem ld_a {W w : World} {p : Px} {b0 : Nat} (h : St W [(b0, pxo p)] w) : (Instr.loadAt 5 (.pointer (some ⟨b0, 3, none⟩))).run Try.prog w = .ok (.int .u8 p.a) w := by
  have ht : (isAgg 5).run Try.prog w = .ok false w := by kernel_rfl
  have hc : w.cell? ⟨b0, 3, none⟩ = some (.int .u8 p.a) := h.cell (b := b0) (cs := (pl p).toArray) (t := 23) (by simp) 3
  simp only [Instr.loadAt, Instr.sureAddr, loadVar, Sem.run_bind, Sem.run_pure, Result.andThen_ok, ht, run_load, hc, Bool.false_eq_true, if_false]

set_option maxHeartbeats 8000000 in
set_option maxRecDepth 100000 in
theorem walk (p : Px) (w : World) (hp : Pc p) : Calls Try.prog 6 #[p.v] w fun e w' => e = .returned (.bool true) ∧ Below w.heap.size w w' := by
  obtain ⟨y, hY⟩ : ∃ y, y = sY p.r p.g p.b := ⟨_, rfl⟩
  obtain ⟨u, hU⟩ : ∃ u, u = sU p.r p.b := ⟨_, rfl⟩
  obtain ⟨v, hV⟩ : ∃ v, v = sV p.r p.g p.b := ⟨_, rfl⟩
  have hy : Ch y := hY ▸ b8_ch _
  have hu : Ch u := hU ▸ b8_ch _
  have hv : Ch v := hV ▸ b8_ch _
  obtain ⟨hp0, hp1, hp2, hp3⟩ := hp
  obtain ⟨z, hz⟩ : ∃ z, z = str (List.replicate 63 0) := ⟨_, rfl⟩
  have hzs : z.size ≤ 63 := by rw [hz, str_size, List.length_replicate]; omega
  obtain ⟨s1, e1⟩ : ∃ s, str [u8 y] ++ z = s := ⟨_, rfl⟩
  obtain ⟨s2, e2⟩ : ∃ s, s1 ++ str [u8 u] = s := ⟨_, rfl⟩
  obtain ⟨s3, e3⟩ : ∃ s, s2 ++ z = s := ⟨_, rfl⟩
  obtain ⟨s4, e4⟩ : ∃ s, s3 ++ str [u8 v] = s := ⟨_, rfl⟩
  obtain ⟨s5, e5⟩ : ∃ s, s4 ++ z = s := ⟨_, rfl⟩
  obtain ⟨s6, e6⟩ : ∃ s, s5 ++ str [u8 p.a] = s := ⟨_, rfl⟩
  obtain ⟨s7, e7⟩ : ∃ s, s6 ++ z = s := ⟨_, rfl⟩
  have c1 : ∀ x : UInt8, (str [x]).size = 1 := fun x => str_size _
  have g1 : s1.size ≤ 1000 := by rw [← e1, ByteArray.size_append, c1]; omega
  have g2 : s2.size ≤ 1001 := by rw [← e2, ByteArray.size_append, c1]; omega
  have g3 : s3.size ≤ 1100 := by rw [← e3, ByteArray.size_append]; omega
  have g4 : s4.size ≤ 1101 := by rw [← e4, ByteArray.size_append, c1]; omega
  have g5 : s5.size ≤ 1200 := by rw [← e5, ByteArray.size_append]; omega
  have g6 : s6.size ≤ 1201 := by rw [← e6, ByteArray.size_append, c1]; omega
  have HZS : Hid (z.size ≤ 63 ∧ s1.size ≤ 1000 ∧ s2.size ≤ 1001 ∧ s3.size ≤ 1100 ∧ s4.size ≤ 1101 ∧ s5.size ≤ 1200 ∧ s6.size ≤ 1201) := ⟨hzs, g1, g2, g3, g4, g5, g6⟩
  have hE : ∀ k, 0 < k → str (fwd k (fun _ => p)) = s7 := fun k hk => by
    rw [fwd_solid k hk p ⟨hp0, hp1, hp2, hp3⟩, ← hY, ← hU, ← hV, ← e7, ← e6, ← e5, ← e4, ← e3, ← e2, ← e1, hz]
    unfold by1
    simp only [str_app]
    congr 1
  have HE := Lib.hid hE
  have HZ : Hid (∀ V, Calls Try.prog 19 #[.int .i64 63] V fun e w' => e = .returned (.string z) ∧ Below V.heap.size V w') := fun V => hz ▸ zeros_any 63 V (by omega)
  have HSW : Hid (∀ V, Calls Try.prog 14 #[.int .u8 p.r, .int .u8 p.g, .int .u8 p.b] V fun e w' => e = .returned (.tuple #[.int .u8 y, .int .u8 u, .int .u8 v]) ∧ V = w') := fun V => by
    rw [hY, hU, hV]; exact swap_any _ _ _ V hp0 hp1 hp2
  have h0 := (St.start w).alloc (pxo p)
  obtain ⟨b0, hb0⟩ : ∃ b0, b0 = w.heap.size := ⟨_, rfl⟩
  obtain ⟨w0, hw0⟩ : ∃ w0, w0 = w.alloc (pxo p) := ⟨_, rfl⟩
  rw [← hb0, ← hw0] at h0
  have HW0 := Lib.hid hw0
  have HB0 := Lib.hid hb0
  have HPC : Hid (Pc p) := ⟨hp0, hp1, hp2, hp3⟩
  have HY := Lib.hid (And.intro hy (And.intro hu (And.intro hv hp3)))
  have HEE := Lib.hid (And.intro e1 (And.intro e2 (And.intro e3 (And.intro e4 (And.intro e5 (And.intro e6 e7))))))
  clear hw0 hb0 hp0 hp1 hp2 hp3 hy hu hv e1 e2 e3 e4 e5 e6 e7 g1 g2 g3 g4 g5 g6 hzs c1 hE hz hY hU hV
  go_enter Try.func6, Try.ntmps6
  go_upto_region 1 with fail
  have e1 : w.alloc (.cells #[.int .u8 p.r, .int .u8 p.g, .int .u8 p.b, .int .u8 p.a] 23) = w0 := HW0.out.symm
  rw [e1, ← HB0.out]
  clear e1
  go_upto_region 2 with (first | (go_at_call 10; (with_reducible refine (St.call h0 (sanity_any _)).mono ?_); rintro e w1 ⟨rfl, h1⟩))
  obtain ⟨k0, k1, k2, k3⟩ := St.pix h1 (b := b0) (x0 := p.r) (x1 := p.g) (x2 := p.b) (x3 := p.a) (by first | exact List.mem_cons_self .. | (simp; done))
  go_upto_region 3 with (first | (go_at_call 14; (with_reducible refine (HSW.out _).mono ?_); rintro e wq ⟨rfl, rfl⟩))
  clear k0 k1 k2 k3 h0
  obtain ⟨hy, hu, hv, hp3⟩ := HY.out
  obtain ⟨e1, e2, e3, e4, e5, e6, e7⟩ := HEE.out
  refine wp_region_inv (Inv w p b0 y u v z s1 s2 s3 s4 s5 s6 s7) (by kernel_rfl) (by kernel_rfl) ?_ ?_ ?_
  · exact ⟨fun _ => undef, rfl, h1.drew, fun j hj hl => by
      rw [Array.getD_eq_getD_getElem?, Array.getElem?_replicate] at hl
      split at hl
      · cases hl
      · next h => exact absurd hj h⟩
  · intro listed a w1 i o hsz ho hun hdep hI
    obtain ⟨k, rfl, hS, hP⟩ := hI
    have hi : i < 25 := (Array.getElem?_eq_some_iff.1 ho).1
    rcases (by omega : i = 0 ∨ i = 1 ∨ i = 2 ∨ i = 3 ∨ i = 4 ∨ i = 5 ∨ i = 6 ∨ i = 7 ∨ i = 8 ∨ i = 9 ∨ i = 10 ∨ i = 11 ∨ i = 12 ∨ i = 13 ∨ i = 14 ∨ i = 15 ∨ i = 16 ∨ i = 17 ∨ i = 18 ∨ i = 19 ∨ i = 20 ∨ i = 21 ∨ i = 22 ∨ i = 23 ∨ i = 24) with rfl | rfl | rfl | rfl | rfl | rfl | rfl | rfl | rfl | rfl | rfl | rfl | rfl | rfl | rfl | rfl | rfl | rfl | rfl | rfl | rfl | rfl | rfl | rfl | rfl
    · obtain rfl : { dst := some 23, op := Op.move (Operand.tmp 4), type := 5, pos := "law.go:128", after := #[], guard := none } = o := Option.some.inj ho
      refine wpOp_of ho rfl ?_
      exact wp_move (.tmp 4) rfl (v := .int .u8 y) rfl (inv_next (i := 0) (by omega) hS hP (Below.refl _ _) rfl)
    · obtain rfl : { dst := some 24, op := Op.buildSlice 28 1 #[(0, Operand.tmp 23)], type := 28, pos := "law.go:128", after := #[{ on := 0, ground := Ground.data }], guard := none } = o := Option.some.inj ho
      have q0 : (k 23) = .int .u8 y := hP 0 (by omega) (hdep { on := 0, ground := Ground.data } (by simp) rfl)
      refine wpOp_of ho rfl ?_
      exact wp_sl1 (.tmp 23) rfl q0 (inv_next (i := 1) (by omega) hS hP below1 ⟨_, rfl, World.alloc_heap_new _ _⟩)
    · obtain rfl : { dst := some 25, op := Op.convert 28 9 (Operand.tmp 24), type := 9, pos := "law.go:128", after := #[{ on := 1, ground := Ground.data }], guard := none } = o := Option.some.inj ho
      have q1 : Sl1 w1 (k 24) y := hP 1 (by omega) (hdep { on := 1, ground := Ground.data } (by simp) rfl)
      refine wpOp_of ho rfl ?_
      exact wp_conv 28 9 (.tmp 24) rfl (v := k 24) rfl (q1.conv hy) (inv_next (i := 2) (by omega) hS hP (Below.refl _ _) rfl)
    · obtain rfl : { dst := some 26, op := Op.call { callee := Callee.value (Operand.func 19), args := #[Operand.const (Value.int IntKind.i64 63)], argTypes := #[3] }, type := 9, pos := "law.go:128", after := #[], guard := none } = o := Option.some.inj ho
      refine wpOp_of ho rfl ?_
      exact wp_callZ 19 (.int .i64 63) 3 rfl (enters_of Try.func19 (by kernel_rfl) rfl) (HZ.out _) (fun w4 hb4 => inv_next (i := 3) (by omega) hS hP hb4 rfl)
    · obtain rfl : { dst := some 27, op := Op.binOp BinOp.add 9 (Operand.tmp 25) (Operand.tmp 26) 9, type := 9, pos := "law.go:128", after := #[{ on := 2, ground := Ground.data }, { on := 3, ground := Ground.data }], guard := none } = o := Option.some.inj ho
      have q2 : (k 25) = .string (str [u8 y]) := hP 2 (by omega) (hdep { on := 2, ground := Ground.data } (by simp) rfl)
      have q3 : (k 26) = .string z := hP 3 (by omega) (hdep { on := 3, ground := Ground.data } (by simp) rfl)
      refine wpOp_of ho rfl ?_
      exact wp_addS (.tmp 25) (.tmp 26) rfl q2 q3 (by have := HZS.out; first | omega | (simp only [str_size, List.length_cons, List.length_nil]; omega)) (inv_next (i := 4) (by omega) hS hP (Below.refl _ _) (by rw [← e1]; rfl))
    · obtain rfl : { dst := some 28, op := Op.move (Operand.tmp 5), type := 5, pos := "law.go:128", after := #[], guard := none } = o := Option.some.inj ho
      refine wpOp_of ho rfl ?_
      exact wp_move (.tmp 5) rfl (v := .int .u8 u) rfl (inv_next (i := 5) (by omega) hS hP (Below.refl _ _) rfl)
    · obtain rfl : { dst := some 29, op := Op.buildSlice 28 1 #[(0, Operand.tmp 28)], type := 28, pos := "law.go:128", after := #[{ on := 5, ground := Ground.data }], guard := none } = o := Option.some.inj ho
      have q5 : (k 28) = .int .u8 u := hP 5 (by omega) (hdep { on := 5, ground := Ground.data } (by simp) rfl)
      refine wpOp_of ho rfl ?_
      exact wp_sl1 (.tmp 28) rfl q5 (inv_next (i := 6) (by omega) hS hP below1 ⟨_, rfl, World.alloc_heap_new _ _⟩)
    · obtain rfl : { dst := some 30, op := Op.convert 28 9 (Operand.tmp 29), type := 9, pos := "law.go:128", after := #[{ on := 6, ground := Ground.data }], guard := none } = o := Option.some.inj ho
      have q6 : Sl1 w1 (k 29) u := hP 6 (by omega) (hdep { on := 6, ground := Ground.data } (by simp) rfl)
      refine wpOp_of ho rfl ?_
      exact wp_conv 28 9 (.tmp 29) rfl (v := k 29) rfl (q6.conv hu) (inv_next (i := 7) (by omega) hS hP (Below.refl _ _) rfl)
    · obtain rfl : { dst := some 31, op := Op.binOp BinOp.add 9 (Operand.tmp 27) (Operand.tmp 30) 9, type := 9, pos := "law.go:128", after := #[{ on := 4, ground := Ground.data }, { on := 7, ground := Ground.data }], guard := none } = o := Option.some.inj ho
      have q4 : (k 27) = .string s1 := hP 4 (by omega) (hdep { on := 4, ground := Ground.data } (by simp) rfl)
      have q7 : (k 30) = .string (str [u8 u]) := hP 7 (by omega) (hdep { on := 7, ground := Ground.data } (by simp) rfl)
      refine wpOp_of ho rfl ?_
      exact wp_addS (.tmp 27) (.tmp 30) rfl q4 q7 (by have := HZS.out; first | omega | (simp only [str_size, List.length_cons, List.length_nil]; omega)) (inv_next (i := 8) (by omega) hS hP (Below.refl _ _) (by rw [← e2]; rfl))
    · obtain rfl : { dst := some 32, op := Op.call { callee := Callee.value (Operand.func 19), args := #[Operand.const (Value.int IntKind.i64 63)], argTypes := #[3] }, type := 9, pos := "law.go:128", after := #[{ on := 3, ground := Ground.chain }], guard := none } = o := Option.some.inj ho
      refine wpOp_of ho rfl ?_
      exact wp_callZ 19 (.int .i64 63) 3 rfl (enters_of Try.func19 (by kernel_rfl) rfl) (HZ.out _) (fun w4 hb4 => inv_next (i := 9) (by omega) hS hP hb4 rfl)
    · obtain rfl : { dst := some 33, op := Op.binOp BinOp.add 9 (Operand.tmp 31) (Operand.tmp 32) 9, type := 9, pos := "law.go:128", after := #[{ on := 8, ground := Ground.data }, { on := 9, ground := Ground.data }], guard := none } = o := Option.some.inj ho
      have q8 : (k 31) = .string s2 := hP 8 (by omega) (hdep { on := 8, ground := Ground.data } (by simp) rfl)
      have q9 : (k 32) = .string z := hP 9 (by omega) (hdep { on := 9, ground := Ground.data } (by simp) rfl)
      refine wpOp_of ho rfl ?_
      exact wp_addS (.tmp 31) (.tmp 32) rfl q8 q9 (by have := HZS.out; first | omega | (simp only [str_size, List.length_cons, List.length_nil]; omega)) (inv_next (i := 10) (by omega) hS hP (Below.refl _ _) (by rw [← e3]; rfl))
    · obtain rfl : { dst := some 34, op := Op.move (Operand.tmp 6), type := 5, pos := "law.go:128", after := #[], guard := none } = o := Option.some.inj ho
      refine wpOp_of ho rfl ?_
      exact wp_move (.tmp 6) rfl (v := .int .u8 v) rfl (inv_next (i := 11) (by omega) hS hP (Below.refl _ _) rfl)
    · obtain rfl : { dst := some 35, op := Op.buildSlice 28 1 #[(0, Operand.tmp 34)], type := 28, pos := "law.go:128", after := #[{ on := 11, ground := Ground.data }], guard := none } = o := Option.some.inj ho
      have q11 : (k 34) = .int .u8 v := hP 11 (by omega) (hdep { on := 11, ground := Ground.data } (by simp) rfl)
      refine wpOp_of ho rfl ?_
      exact wp_sl1 (.tmp 34) rfl q11 (inv_next (i := 12) (by omega) hS hP below1 ⟨_, rfl, World.alloc_heap_new _ _⟩)
    · obtain rfl : { dst := some 36, op := Op.convert 28 9 (Operand.tmp 35), type := 9, pos := "law.go:128", after := #[{ on := 12, ground := Ground.data }], guard := none } = o := Option.some.inj ho
      have q12 : Sl1 w1 (k 35) v := hP 12 (by omega) (hdep { on := 12, ground := Ground.data } (by simp) rfl)
      refine wpOp_of ho rfl ?_
      exact wp_conv 28 9 (.tmp 35) rfl (v := k 35) rfl (q12.conv hv) (inv_next (i := 13) (by omega) hS hP (Below.refl _ _) rfl)
    · obtain rfl : { dst := some 37, op := Op.binOp BinOp.add 9 (Operand.tmp 33) (Operand.tmp 36) 9, type := 9, pos := "law.go:128", after := #[{ on := 10, ground := Ground.data }, { on := 13, ground := Ground.data }], guard := none } = o := Option.some.inj ho
      have q10 : (k 33) = .string s3 := hP 10 (by omega) (hdep { on := 10, ground := Ground.data } (by simp) rfl)
      have q13 : (k 36) = .string (str [u8 v]) := hP 13 (by omega) (hdep { on := 13, ground := Ground.data } (by simp) rfl)
      refine wpOp_of ho rfl ?_
      exact wp_addS (.tmp 33) (.tmp 36) rfl q10 q13 (by have := HZS.out; first | omega | (simp only [str_size, List.length_cons, List.length_nil]; omega)) (inv_next (i := 14) (by omega) hS hP (Below.refl _ _) (by rw [← e4]; rfl))
    · obtain rfl : { dst := some 38, op := Op.call { callee := Callee.value (Operand.func 19), args := #[Operand.const (Value.int IntKind.i64 63)], argTypes := #[3] }, type := 9, pos := "law.go:128", after := #[{ on := 9, ground := Ground.chain }], guard := none } = o := Option.some.inj ho
      refine wpOp_of ho rfl ?_
      exact wp_callZ 19 (.int .i64 63) 3 rfl (enters_of Try.func19 (by kernel_rfl) rfl) (HZ.out _) (fun w4 hb4 => inv_next (i := 15) (by omega) hS hP hb4 rfl)
    · obtain rfl : { dst := some 39, op := Op.binOp BinOp.add 9 (Operand.tmp 37) (Operand.tmp 38) 9, type := 9, pos := "law.go:128", after := #[{ on := 14, ground := Ground.data }, { on := 15, ground := Ground.data }], guard := none } = o := Option.some.inj ho
      have q14 : (k 37) = .string s4 := hP 14 (by omega) (hdep { on := 14, ground := Ground.data } (by simp) rfl)
      have q15 : (k 38) = .string z := hP 15 (by omega) (hdep { on := 15, ground := Ground.data } (by simp) rfl)
      refine wpOp_of ho rfl ?_
      exact wp_addS (.tmp 37) (.tmp 38) rfl q14 q15 (by have := HZS.out; first | omega | (simp only [str_size, List.length_cons, List.length_nil]; omega)) (inv_next (i := 16) (by omega) hS hP (Below.refl _ _) (by rw [← e5]; rfl))
    · obtain rfl : { dst := some 40, op := Op.fieldAddr 23 (Operand.tmp 1) 3, type := 0, pos := "law.go:128", after := #[], guard := none } = o := Option.some.inj ho
      refine wpOp_of ho rfl ?_
      exact wp_field rfl rfl (inv_next (i := 17) (by omega) hS hP (Below.refl _ _) rfl)
    · obtain rfl : { dst := some 41, op := Op.load 5 (Operand.tmp 40), type := 5, pos := "law.go:128", after := #[{ on := 17, ground := Ground.data }], guard := none } = o := Option.some.inj ho
      have q17 : (k 40) = .pointer (some ⟨b0, 3, none⟩) := hP 17 (by omega) (hdep { on := 17, ground := Ground.data } (by simp) rfl)
      refine wpOp_of ho rfl ?_
      exact wp_load_of 5 (.tmp 40) rfl (.int .u8 p.a) (by rw [show Act.eval { tmps := fr p b0 y u v k, defers := [] } (.tmp 40) = k 40 from rfl, q17]; exact ld_a hS) (inv_next (i := 18) (by omega) hS hP (Below.refl _ _) rfl)
    · obtain rfl : { dst := some 42, op := Op.buildSlice 28 1 #[(0, Operand.tmp 41)], type := 28, pos := "law.go:128", after := #[{ on := 18, ground := Ground.data }], guard := none } = o := Option.some.inj ho
      have q18 : (k 41) = .int .u8 p.a := hP 18 (by omega) (hdep { on := 18, ground := Ground.data } (by simp) rfl)
      refine wpOp_of ho rfl ?_
      exact wp_sl1 (.tmp 41) rfl q18 (inv_next (i := 19) (by omega) hS hP below1 ⟨_, rfl, World.alloc_heap_new _ _⟩)
    · obtain rfl : { dst := some 43, op := Op.convert 28 9 (Operand.tmp 42), type := 9, pos := "law.go:128", after := #[{ on := 19, ground := Ground.data }], guard := none } = o := Option.some.inj ho
      have q19 : Sl1 w1 (k 42) p.a := hP 19 (by omega) (hdep { on := 19, ground := Ground.data } (by simp) rfl)
      refine wpOp_of ho rfl ?_
      exact wp_conv 28 9 (.tmp 42) rfl (v := k 42) rfl (q19.conv hp3) (inv_next (i := 20) (by omega) hS hP (Below.refl _ _) rfl)
    · obtain rfl : { dst := some 44, op := Op.binOp BinOp.add 9 (Operand.tmp 39) (Operand.tmp 43) 9, type := 9, pos := "law.go:128", after := #[{ on := 16, ground := Ground.data }, { on := 20, ground := Ground.data }], guard := none } = o := Option.some.inj ho
      have q16 : (k 39) = .string s5 := hP 16 (by omega) (hdep { on := 16, ground := Ground.data } (by simp) rfl)
      have q20 : (k 43) = .string (str [u8 p.a]) := hP 20 (by omega) (hdep { on := 20, ground := Ground.data } (by simp) rfl)
      refine wpOp_of ho rfl ?_
      exact wp_addS (.tmp 39) (.tmp 43) rfl q16 q20 (by have := HZS.out; first | omega | (simp only [str_size, List.length_cons, List.length_nil]; omega)) (inv_next (i := 21) (by omega) hS hP (Below.refl _ _) (by rw [← e6]; rfl))
    · obtain rfl : { dst := some 45, op := Op.call { callee := Callee.value (Operand.func 19), args := #[Operand.const (Value.int IntKind.i64 63)], argTypes := #[3] }, type := 9, pos := "law.go:128", after := #[{ on := 15, ground := Ground.chain }], guard := none } = o := Option.some.inj ho
      refine wpOp_of ho rfl ?_
      exact wp_callZ 19 (.int .i64 63) 3 rfl (enters_of Try.func19 (by kernel_rfl) rfl) (HZ.out _) (fun w4 hb4 => inv_next (i := 22) (by omega) hS hP hb4 rfl)
    · obtain rfl : { dst := some 46, op := Op.binOp BinOp.add 9 (Operand.tmp 44) (Operand.tmp 45) 9, type := 9, pos := "law.go:128", after := #[{ on := 21, ground := Ground.data }, { on := 22, ground := Ground.data }], guard := none } = o := Option.some.inj ho
      have q21 : (k 44) = .string s6 := hP 21 (by omega) (hdep { on := 21, ground := Ground.data } (by simp) rfl)
      have q22 : (k 45) = .string z := hP 22 (by omega) (hdep { on := 22, ground := Ground.data } (by simp) rfl)
      refine wpOp_of ho rfl ?_
      exact wp_addS (.tmp 44) (.tmp 45) rfl q21 q22 (by have := HZS.out; first | omega | (simp only [str_size, List.length_cons, List.length_nil]; omega)) (inv_next (i := 23) (by omega) hS hP (Below.refl _ _) (by rw [← e7]; rfl))
    · obtain rfl : { dst := some 7, op := Op.assign (Operand.tmp 46), type := 9, pos := "law.go:128", after := #[{ on := 23, ground := Ground.data }, { on := 22, ground := Ground.chain }, { on := 0, ground := Ground.phase }, { on := 1, ground := Ground.phase }, { on := 2, ground := Ground.phase }, { on := 3, ground := Ground.phase }, { on := 4, ground := Ground.phase }, { on := 5, ground := Ground.phase }, { on := 6, ground := Ground.phase }, { on := 7, ground := Ground.phase }, { on := 8, ground := Ground.phase }, { on := 9, ground := Ground.phase }, { on := 10, ground := Ground.phase }, { on := 11, ground := Ground.phase }, { on := 12, ground := Ground.phase }, { on := 13, ground := Ground.phase }, { on := 14, ground := Ground.phase }, { on := 15, ground := Ground.phase }, { on := 16, ground := Ground.phase }, { on := 17, ground := Ground.phase }, { on := 18, ground := Ground.phase }, { on := 19, ground := Ground.phase }, { on := 20, ground := Ground.phase }, { on := 21, ground := Ground.phase }, { on := 22, ground := Ground.phase }, { on := 23, ground := Ground.phase }], guard := none } = o := Option.some.inj ho
      have q23 : (k 46) = .string s7 := hP 23 (by omega) (hdep { on := 23, ground := Ground.data } (by simp) rfl)
      refine wpOp_of ho rfl ?_
      exact wp_assign (.tmp 46) rfl q23 (inv_next (i := 24) (by omega) hS hP (Below.refl _ _) rfl)
  · intro listed a w1 hall hI
    obtain ⟨k, rfl, hS, hP⟩ := hI
    have hall' : ∀ i, i < 25 → listed.getD i true = true := hall
    have q0 : (k 23) = .int .u8 y := hP 0 (by omega) (hall' 0 (by omega))
    have q2 : (k 25) = .string (str [u8 y]) := hP 2 (by omega) (hall' 2 (by omega))
    have q3 : (k 26) = .string z := hP 3 (by omega) (hall' 3 (by omega))
    have q4 : (k 27) = .string s1 := hP 4 (by omega) (hall' 4 (by omega))
    have q5 : (k 28) = .int .u8 u := hP 5 (by omega) (hall' 5 (by omega))
    have q7 : (k 30) = .string (str [u8 u]) := hP 7 (by omega) (hall' 7 (by omega))
    have q8 : (k 31) = .string s2 := hP 8 (by omega) (hall' 8 (by omega))
    have q9 : (k 32) = .string z := hP 9 (by omega) (hall' 9 (by omega))
    have q10 : (k 33) = .string s3 := hP 10 (by omega) (hall' 10 (by omega))
    have q11 : (k 34) = .int .u8 v := hP 11 (by omega) (hall' 11 (by omega))
    have q13 : (k 36) = .string (str [u8 v]) := hP 13 (by omega) (hall' 13 (by omega))
    have q14 : (k 37) = .string s4 := hP 14 (by omega) (hall' 14 (by omega))
    have q15 : (k 38) = .string z := hP 15 (by omega) (hall' 15 (by omega))
    have q16 : (k 39) = .string s5 := hP 16 (by omega) (hall' 16 (by omega))
    have q17 : (k 40) = .pointer (some ⟨b0, 3, none⟩) := hP 17 (by omega) (hall' 17 (by omega))
    have q18 : (k 41) = .int .u8 p.a := hP 18 (by omega) (hall' 18 (by omega))
    have q20 : (k 43) = .string (str [u8 p.a]) := hP 20 (by omega) (hall' 20 (by omega))
    have q21 : (k 44) = .string s6 := hP 21 (by omega) (hall' 21 (by omega))
    have q22 : (k 45) = .string z := hP 22 (by omega) (hall' 22 (by omega))
    have q23 : (k 46) = .string s7 := hP 23 (by omega) (hall' 23 (by omega))
    have q24 : (k 7) = .string s7 := hP 24 (by omega) (hall' 24 (by omega))
    unfold fr
    simp only [q0, q2, q3, q4, q5, q7, q8, q9, q10, q11, q13, q14, q15, q16, q17, q18, q20, q21, q22, q23, q24]
    generalize k 24 = x1
    generalize k 29 = x2
    generalize k 35 = x3
    generalize k 42 = x4
    have HS := Lib.hid hS
    have HF : Hid (∀ m : Nat, 0 < m → m < 6 → ∀ V, Calls Try.prog 12 #[tv (fun _ => p), .int .i64 m] V fun e w' => e = .returned (.tuple #[.string s7, .int .i64 0]) ∧ Below V.heap.size V w') := fun m h0 h6 V => by
      have h := fwd_any m (fun _ => p) V h6 (fun _ _ => HPC.out)
      rwa [HE.out m h0] at h
    clear hall hall' hP hS h1 hy hu hv hp3 e1 e2 e3 e4 e5 e6 e7
    clear q0 q2 q3 q4 q5 q7 q8 q9 q10 q11 q13 q14 q15 q16 q17 q18 q20 q21 q22 q23 q24
    go_wp2
    go_loopw [8] (fun i wr => ∃ m : Nat, 1 ≤ m ∧ m ≤ 6 ∧ i = .int .i64 m ∧ Hid (St w [(b0, pxo p)] wr)) (fun i _ => 6 - (intOf i).toNat)
    case atStart => exact ⟨1, by omega, by omega, rfl, HS.out⟩
    case round =>
      clear HS
      obtain ⟨m, hm1, hm, rfl, HS⟩ := hrel
      by_cases hm6 : m < 6
      · have h4 := HS.out
        have HL := Lib.hid (load_px0 b0 p _ (h4.row (b := b0) (o := pxo p) (by simp)))
        have HF1 := Lib.hid (HF.out m (by omega) hm6)
        go_upto_region 8 with (first
          | (go_at_call 11; refine (count_any _).mono ?_; rintro e wx ⟨rfl, rfl⟩)
          | (refine wpList_load_of rfl 23 (.tmp 1) rfl _ HL.out ?_)
          | (go_at_call 20; (with_reducible refine (St.call h4 (fill_any p _)).mono ?_); rintro e w5 ⟨rfl, h5⟩)
          | (go_at_call 12; (with_reducible refine (St.call h5 (HF1.out _)).mono ?_); rintro e w6 ⟨rfl, h6⟩))
        have H6 := Lib.hid h6
        clear h4 h5 h6 HL HF1 HS
        go_wp2
        go_roundw
        case rel => exact ⟨m + 1, by omega, by omega, by go_num, H6.out⟩
        case measure => simp [intOf] <;> omega
      · obtain rfl : m = 6 := by omega
        have HB := Lib.hid HS.out.below
        go_wp2_with (go_at_call 11; refine (count_any _).mono ?_; rintro e wx ⟨rfl, rfl⟩)
        go_ret
        exact ⟨rfl, HB.out⟩

theorem okin (W : World) (base : Nat) : Input.okWide Try.checked.prog W .any base 6 ⟨#[], #[zp.v], []⟩ := by
  refine ⟨by simp, by simp, by kernel_rfl, Try.f6, Try.func6, by kernel_rfl, by kernel_rfl, by kernel_rfl, by rw [Try.params6]; rfl, ?_⟩
  intro j t v ht hv
  rw [Try.params6] at ht
  match j with
  | 0 => cases (Option.some.inj ht); cases (Option.some.inj hv); exact ok_px W base
  | j + 1 => simp at ht
theorem lifted (os : Os) (started : os.Started) (H : Type) (enc : TypeId × Value → H) :
    ReturnsInHanded {} Try.checked os 6 .any (Rows.predictSolidSpec.pre6 enc Try.prog Try.f6 Rows.predictSolidRow.domain false) (Rows.predictSolidSpec.post enc Try.prog Try.f6 false true false false) := by
  refine returnsInHanded_of_change_sized (C := Try.checked) own started (by kernel_rfl) Try.func6
    (witness7 (enc := enc) (C := Try.checked) false ⟨#[], #[zp.v], []⟩ 8 (by kernel_rfl) (by kernel_rfl) (fun W base => okin W base) (by kernel_rfl) (by kernel_rfl)) ?_
  intro W base args ds gs before hval0 hW _ _ _
  have hval : ∀ (j : Nat) t v, Try.f6.params[j]? = some t → args[j]? = some v → Value.okWide Try.prog W .any base t v := hval0
  have hW' := hW
  obtain ⟨p, q, hA0, hV, rfl, hfz, hnd⟩ := hW
  have hA : DataW.TrodAll enc Try.prog W 0 (fun _ => true) true Try.f6.params.toList args.toList ds p := hA0
  rw [Try.params6] at hA hval
  obtain ⟨v0, d0, rfl, rfl, h0⟩ := trodAll_one hA
  obtain ⟨rfl, rfl⟩ := trodVars_none hV
  obtain ⟨p, rfl, hp⟩ := open_px (hval 0 23 v0 rfl rfl)
  refine (walk p W hp).mono fun e W' ⟨he, hb⟩ => ?_
  subst he
  exact ⟨_, rfl, law_post hW' rfl (by kernel_rfl) rfl (by intro t ht; rw [Try.params6] at ht; simp at ht; subst ht; exact ⟨by kernel_rfl, of_decide_eq_true (by kernel_rfl)⟩) hb⟩

theorem holds : Rows.PredictSolidSaid :=
  OpenClaim.holds_of_wide 6 Try.f6 rfl rfl rfl rfl rfl rfl rfl ⟨rfl, rfl, rfl, rfl, rfl⟩ rfl rfl rfl rfl rfl (by kernel_rfl) Try.func6 (by kernel_rfl)
    (of_decide_eq_true (by kernel_rfl)) (by unfold Func.isWrapper; first | (rw [if_pos (by decide +kernel)]; kernel_rfl) | (rw [if_neg (by decide +kernel)]; exact ⟨rfl, rfl⟩))
    (fun os started H enc _ => lifted os started H enc)
end Go.Proofs.Ytjaipjgnchpjcaa.P.PLSolid
