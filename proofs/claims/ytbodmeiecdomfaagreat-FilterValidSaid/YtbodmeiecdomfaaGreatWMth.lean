/-
  Apply calls the method of the filter's kind.
-/
import Derived.Test.YtbodmeiecdomfaaGreatWRow
import Derived.Test.YtbodmeiecdomfaaGreatWEff
namespace Go.Proofs.YtbodmeiecdomfaaGreat.W
open Go.RowKit
set_option maxRecDepth 100000
attribute [local go_sem] run_store_func run_store_nilFunc
section
variable {o : Oper} {a : Act} {w w' : World} {K : Act → World → Prop} {Q : Exit → Act → World → Prop}
theorem wp_call0 {fid : FuncId} {v : Value} (ho : o.op = .call { callee := .value (.func fid), args := #[], argTypes := #[] }) (hen : ∀ args w, (callFunc fid args).run Tryz.prog w = .ok (.enter fid args) w)
    (hc : Calls Tryz.prog fid #[] w fun e w' => e = .returned v ∧ Below w.heap.size w w') (h : ∀ w', Below w.heap.size w w' → K (a.put o.dst v) w') : o.wp Tryz.prog a w K Q := by
  unfold Oper.wp execOp
  have hf : a.eval (.func fid) = .func (.func fid) #[] #[] := rfl
  have hd : (Deferred.ofValue (.func (.func fid) #[] #[]) #[]).run Tryz.prog w = .ok { target := .fn (.func fid) #[], args := #[] } w := rfl
  simp only [ho, resolve, invoke, Sem.run_bind, Sem.run_pure, Result.andThen_ok, List.map_toArray, List.map_nil, hf, hd, Array.append_empty, hen]
  refine hc.mono fun e w' ⟨h1, h2⟩ => ?_
  subst h1
  exact h w' h2
theorem wp_callM {fid : FuncId} {R : Value → World → Prop} (x y z : Operand) (t u : TypeId) (p q : Value) (ho : o.op = .call { callee := .value x, args := #[y, z], argTypes := #[t, u] }) (hx : a.eval x = .func (.func fid) #[] #[]) (hy : a.eval y = p) (hz : a.eval z = q) (hen : ∀ args w, (callFunc fid args).run Tryz.prog w = .ok (.enter fid args) w)
    (hc : Calls Tryz.prog fid #[p, q] w fun e w' => ∃ v, e = .returned v ∧ R v w') (h : ∀ v w', R v w' → K (a.put o.dst v) w') : o.wp Tryz.prog a w K Q := by
  unfold Oper.wp execOp
  have hd : (Deferred.ofValue (.func (.func fid) #[] #[]) #[p, q]).run Tryz.prog w = .ok { target := .fn (.func fid) #[], args := #[p, q] } w := rfl
  simp only [ho, resolve, invoke, Sem.run_bind, Sem.run_pure, Result.andThen_ok, List.map_toArray, List.map_cons, List.map_nil, hx, hy, hz, hd, Array.append_empty, hen]
  refine hc.mono fun e w' ⟨v, h1, h2⟩ => ?_
  subst h1
  exact h v w' h2
theorem wp_alloc_of (t : TypeId) (ho : o.op = .alloc t) (u : Value) (cs : Array Value) (hz : (zeroValue t).run Tryz.prog w = .ok u w) (hcs : u.cells = cs)
    (h : K (a.put o.dst (.pointer (some ⟨w.heap.size, 0, none⟩))) (w.alloc (.cells cs t))) : o.wp Tryz.prog a w K Q := by
  subst hcs
  have hn : (newVar t u).run Tryz.prog w = .ok ⟨w.heap.size, 0, none⟩ (w.alloc (.cells u.cells t)) := rfl
  unfold Oper.wp execOp
  simp only [ho, Instr.alloc, Sem.run_bind, hz, hn, Result.andThen_ok, Sem.run_pure]
  exact h
theorem wp_ix (t : TypeId) (xs xi : Operand) (s i v : Value) (ho : o.op = .index t xs xi) (hs : a.eval xs = s) (hi : a.eval xi = i) (hr : (Instr.index t s i).run Tryz.prog w = .ok v w) (h : K (a.put o.dst v) w) : o.wp Tryz.prog a w K Q := by
  unfold Oper.wp execOp
  simp only [ho, hs, hi, Sem.run_bind, hr, Result.andThen_ok, Sem.run_pure]
  exact h
theorem act_eq {a b : Act} (hd : a.defers = b.defers) (hs : a.tmps.size = b.tmps.size) (h : ∀ t : Nat, a.eval (.tmp t) = b.eval (.tmp t)) : a = b := by
  obtain ⟨A, D⟩ := a
  obtain ⟨B, E⟩ := b
  simp only at hd hs
  subst hd
  have : A = B := by
    refine Array.ext hs fun i h1 h2 => ?_
    have h3 : A.getD i undef = B.getD i undef := h i
    rw [Array.getD_eq_getD_getElem?, Array.getD_eq_getD_getElem?, Array.getElem?_eq_getElem h1, Array.getElem?_eq_getElem h2] at h3
    exact h3
  rw [this]
theorem put_defers {d : Option Nat} {v : Value} : (a.put d v).defers = a.defers := by cases d <;> rfl
end
variable {W w : World}
def mval (s fm : Nat) (k r d v x0 y0 x1 y1 : Int) (K C P : Value) (j : Nat) : Value := match j with
  | 0 => efs
  | 1 => .pointer (some ⟨s, 0, none⟩)
  | 2 => .int .i64 k
  | 3 => fnv fm
  | 4 => fv k r K d v C
  | _ => imv x0 y0 x1 y1 P
structure MInv (a0 : Act) (W : World) (s fm : Nat) (k r d v x0 y0 x1 y1 : Int) (K C P : Value) (E : Value → World → Prop) (listed : Array Bool) (a : Act) (w : World) : Prop where
  size : a.tmps.size = a0.tmps.size
  defs : a.defers = a0.defers
  keep : ∀ t : Nat, t ≠ 9 → (t < 21 ∨ 27 < t) → a.eval (.tmp t) = a0.eval (.tmp t)
  vals : ∀ j, j < 6 → listed.getD j true = true → a.eval (.tmp (21 + j)) = mval s fm k r d v x0 y0 x1 y1 K C P j
  clos : listed.getD 6 true = true → listed.getD 8 true = false → E (a.eval (.tmp 27)) w
  box : listed.getD 7 true = true → listed.getD 8 true = false → ∃ b, a.eval (.tmp 9) = .pointer (some ⟨b, 0, none⟩) ∧ W.heap.size ≤ b ∧ w.heap[b]? = some (.cells #[.nilFunc] 56)
  mem : listed.getD 8 true = false → Below W.heap.size W w
  last : listed.getD 8 true = true → ∃ b f w1, a.eval (.tmp 9) = .pointer (some ⟨b, 0, none⟩) ∧ a.eval (.tmp 27) = f ∧ W.heap.size ≤ b ∧ w1.heap[b]? = some (.cells #[.nilFunc] 56) ∧ E f w1 ∧ Below W.heap.size W w1 ∧ w = w1.setCell ⟨b, 0, none⟩ f
  shut : listed.getD 8 true = true → ∀ i, i < 8 → listed.getD i true = true
variable {a0 a : Act} {s fm : Nat} {k r d v x0 y0 x1 y1 : Int} {K C P : Value} {E : Value → World → Prop} {listed : Array Bool}

theorem MInv.later {w' : World} (h : MInv a0 W s fm k r d v x0 y0 x1 y1 K C P E listed a w) (hE : ∀ f w w', E f w → Below w.heap.size w w' → E f w') (hu : listed.getD 8 true = false) (hb : Below w.heap.size w w') : MInv a0 W s fm k r d v x0 y0 x1 y1 K C P E listed a w' where
  size := h.size
  defs := h.defs
  keep := h.keep
  vals := h.vals
  clos h6 h8 := hE _ _ _ (h.clos h6 h8) hb
  box h7 h8 := by
    obtain ⟨b, e, hw, hr⟩ := h.box h7 h8
    exact ⟨b, e, hw, (hb.block b (Array.getElem?_eq_some_iff.1 hr).1).trans hr⟩
  mem h8 := (h.mem h8).trans (hb.mono (h.mem h8).size)
  last h8 := by rw [hu] at h8; cases h8
  shut h8 := by rw [hu] at h8; cases h8
theorem MInv.next {j : Nat} {x : Value} (h : MInv a0 W s fm k r d v x0 y0 x1 y1 K C P E listed a w) (hs : 44 ≤ a0.tmps.size) (hj : j < 6) (hu : listed.getD 8 true = false) (hv : x = mval s fm k r d v x0 y0 x1 y1 K C P j) : MInv a0 W s fm k r d v x0 y0 x1 y1 K C P E (listed.setIfInBounds j true) (a.put (some (21 + j)) x) w where
  size := put_size.trans h.size
  defs := put_defers.trans h.defs
  keep t h9 ht := by rw [put_eval (by rw [h.size]; omega), if_neg (by omega)]; exact h.keep t h9 ht
  vals i hi hl := by
    rw [put_eval (by rw [h.size]; omega)]
    by_cases e : i = j
    · subst e; rw [if_pos rfl]; exact hv
    · rw [if_neg (by omega)]; exact h.vals i hi (by rwa [getD_set e] at hl)
  clos h6 h8 := by rw [getD_set (by omega)] at h6; rw [put_eval (by rw [h.size]; omega), if_neg (by omega)]; exact h.clos h6 hu
  box h7 h8 := by rw [getD_set (by omega)] at h7; rw [put_eval (by rw [h.size]; omega), if_neg (by omega)]; exact h.box h7 hu
  mem _ := h.mem hu
  last h8 := by rw [getD_set (by omega), hu] at h8; cases h8
  shut h8 := by rw [getD_set (by omega), hu] at h8; cases h8
theorem MInv.call {x : Value} (h : MInv a0 W s fm k r d v x0 y0 x1 y1 K C P E listed a w) (hs : 44 ≤ a0.tmps.size) (hu : listed.getD 8 true = false) (hx : E x w) : MInv a0 W s fm k r d v x0 y0 x1 y1 K C P E (listed.setIfInBounds 6 true) (a.put (some 27) x) w where
  size := put_size.trans h.size
  defs := put_defers.trans h.defs
  keep t h9 ht := by rw [put_eval (by rw [h.size]; omega), if_neg (by omega)]; exact h.keep t h9 ht
  vals i hi hl := by rw [put_eval (by rw [h.size]; omega), if_neg (by omega)]; exact h.vals i hi (by rwa [getD_set (by omega)] at hl)
  clos _ _ := by rw [put_eval (by rw [h.size]; omega), if_pos rfl]; exact hx
  box h7 _ := by rw [getD_set (by omega)] at h7; rw [put_eval (by rw [h.size]; omega), if_neg (by omega)]; exact h.box h7 hu
  mem _ := h.mem hu
  last h8 := by rw [getD_set (by omega), hu] at h8; cases h8
  shut h8 := by rw [getD_set (by omega), hu] at h8; cases h8
theorem MInv.alloc (h : MInv a0 W s fm k r d v x0 y0 x1 y1 K C P E listed a w) (hE : ∀ f w w', E f w → Below w.heap.size w w' → E f w') (hs : 44 ≤ a0.tmps.size) (hu : listed.getD 8 true = false) : MInv a0 W s fm k r d v x0 y0 x1 y1 K C P E (listed.setIfInBounds 7 true) (a.put (some 9) (.pointer (some ⟨w.heap.size, 0, none⟩))) (w.alloc (.cells #[.nilFunc] 56)) where
  size := put_size.trans h.size
  defs := put_defers.trans h.defs
  keep t h9 ht := by rw [put_eval (by rw [h.size]; omega), if_neg h9]; exact h.keep t h9 ht
  vals i hi hl := by rw [put_eval (by rw [h.size]; omega), if_neg (by omega)]; exact h.vals i hi (by rwa [getD_set (by omega)] at hl)
  clos h6 _ := by rw [getD_set (by omega)] at h6; rw [put_eval (by rw [h.size]; omega), if_neg (by omega)]; exact hE _ _ _ (h.clos h6 hu) below1
  box _ _ := ⟨w.heap.size, by rw [put_eval (by rw [h.size]; omega), if_pos rfl], (h.mem hu).size, World.alloc_heap_new _ _⟩
  mem _ := (h.mem hu).alloc (h.mem hu).size _
  last h8 := by rw [getD_set (by omega), hu] at h8; cases h8
  shut h8 := by rw [getD_set (by omega), hu] at h8; cases h8
theorem MInv.store {b : Nat} {f : Value} (h : MInv a0 W s fm k r d v x0 y0 x1 y1 K C P E listed a w) (hu : listed.getD 8 true = false) (hall : ∀ i, i < 8 → listed.getD i true = true) (e9 : a.eval (.tmp 9) = .pointer (some ⟨b, 0, none⟩)) (e27 : a.eval (.tmp 27) = f) (hb : W.heap.size ≤ b) (hr : w.heap[b]? = some (.cells #[.nilFunc] 56)) :
    MInv a0 W s fm k r d v x0 y0 x1 y1 K C P E (listed.setIfInBounds 8 true) (a.put none undef) (w.setCell ⟨b, 0, none⟩ f) where
  size := h.size
  defs := h.defs
  keep := h.keep
  vals i hi hl := h.vals i hi (by rwa [getD_set (by omega)] at hl)
  clos _ h8 := by rw [getD_new] at h8; cases h8
  box _ h8 := by rw [getD_new] at h8; cases h8
  mem h8 := by rw [getD_new] at h8; cases h8
  last _ := ⟨b, f, w, e9, e27, hb, hr, e27 ▸ h.clos (hall 6 (by omega)) hu, h.mem hu, rfl⟩
  shut _ i hi := by rw [getD_set (by omega)]; exact hall i hi

theorem store_f {b : Nat} {g : Fn} {caps : Array Value} (h : w.heap[b]? = some (.cells #[.nilFunc] 56)) : (Instr.storeAt 56 (.pointer (some ⟨b, 0, none⟩)) (.func g #[] caps)).run Tryz.prog w = .ok () (w.setCell ⟨b, 0, none⟩ (.func g #[] caps)) := by
  have hc := nb_of h
  have hf : w.frozen? ⟨b, 0, none⟩ = false := frozen_of_row _ _ 0 _ _ h
  simp [Instr.storeAt, Instr.sureAddr, storeVar, Sem.run_bind, Sem.run_pure, Result.andThen_ok, aggF, go_sem, hc, hf]
set_option maxHeartbeats 4000000 in
theorem meth_region {W0 : World} {id m : Nat} {ro : Option Nat} {Q : Exit → Act → World → Prop} (hW : W0.drew = W) (hs : 44 ≤ a0.tmps.size) (hE : ∀ f w w', E f w → Below w.heap.size w w' → E f w') (hF : ∀ f w, E f w → ∃ g caps, f = .func g #[] caps)
    (e3 : a0.eval (.tmp 3) = .pointer (some ⟨s, 0, none⟩)) (b4 : Nat) (e4 : a0.eval (.tmp 4) = .pointer (some ⟨b4, 0, none⟩)) (hen : ∀ args w, (callFunc fm args).run Tryz.prog w = .ok (.enter fm args) w)
    (hm : ∀ V, Below W.heap.size W V → V.cell? ⟨s, 0, none⟩ = some (.int .i64 k) ∧ (Instr.loadAt 25 (.pointer (some ⟨s, 0, none⟩))).run Tryz.prog V = .ok (fv k r K d v C) V ∧ (Instr.loadAt 37 (.pointer (some ⟨b4, 0, none⟩))).run Tryz.prog V = .ok (imv x0 y0 x1 y1 P) V)
    (hix : ∀ V, (Instr.index 58 efs (.int .i64 k)).run Tryz.prog V = .ok (fnv fm) V)
    (hcall : ∀ V, Below W.heap.size W V → Calls Tryz.prog fm #[fv k r K d v C, imv x0 y0 x1 y1 P] V fun e w' => ∃ f, e = .returned f ∧ Below V.heap.size V w' ∧ E f w')
    (hQ : ∀ b f w1, W.heap.size ≤ b → w1.heap[b]? = some (.cells #[.nilFunc] 56) → E f w1 → Below W.heap.size W w1 → Q .normal ((((((((a0.put (some 9) (.pointer (some ⟨b, 0, none⟩))).put (some 21) efs).put (some 22) (.pointer (some ⟨s, 0, none⟩))).put (some 23) (.int .i64 k)).put (some 24) (fnv fm)).put (some 25) (fv k r K d v C)).put (some 26) (imv x0 y0 x1 y1 P)).put (some 27) f) (w1.setCell ⟨b, 0, none⟩ f)) :
    (Code.region id #[{ dst := some 21, op := Op.call { callee := Callee.value (Operand.func 27), args := #[], argTypes := #[] }, type := 58, pos := "filter.go:62", after := #[], guard := none },
      { dst := some 22, op := Op.fieldAddr 25 (Operand.tmp 3) 0, type := 0, pos := "filter.go:62", after := #[], guard := none },
      { dst := some 23, op := Op.load 3 (Operand.tmp 22), type := 3, pos := "filter.go:62", after := #[{ on := 1, ground := Ground.data }], guard := none },
      { dst := some 24, op := Op.index 58 (Operand.tmp 21) (Operand.tmp 23), type := 57, pos := "filter.go:62", after := #[{ on := 0, ground := Ground.data }, { on := 2, ground := Ground.data }], guard := none },
      { dst := some 25, op := Op.load 25 (Operand.tmp 3), type := 25, pos := "filter.go:62", after := #[], guard := none },
      { dst := some 26, op := Op.load 37 (Operand.tmp 4), type := 37, pos := "filter.go:62", after := #[], guard := none },
      { dst := some 27, op := Op.call { callee := Callee.value (Operand.tmp 24), args := #[Operand.tmp 25, Operand.tmp 26], argTypes := #[60, 61] }, type := 56, pos := "filter.go:62", after := #[{ on := 3, ground := Ground.data }, { on := 4, ground := Ground.data }, { on := 5, ground := Ground.data }, { on := 0, ground := Ground.chain }], guard := none },
      { dst := some 9, op := Op.alloc 56, type := 0, pos := "filter.go:62", after := #[], guard := none },
      { dst := none, op := Op.store 56 (Operand.tmp 9) (Operand.tmp 27), type := 0, pos := "filter.go:62", after := #[{ on := 7, ground := Ground.data }, { on := 6, ground := Ground.data }, { on := 6, ground := Ground.chain }, { on := 0, ground := Ground.phase }, { on := 1, ground := Ground.phase }, { on := 2, ground := Ground.phase }, { on := 3, ground := Ground.phase }, { on := 4, ground := Ground.phase }, { on := 5, ground := Ground.phase }, { on := 6, ground := Ground.phase }, { on := 7, ground := Ground.phase }], guard := none }] true).wpIn (FW ro) m Tryz.prog Q a0 W0 := by
  refine wpIn_region_inv (MInv a0 W s fm k r d v x0 y0 x1 y1 K C P E) (by kernel_rfl) (by kernel_rfl) (by kernel_rfl) ?_ ?_ ?_
  · have hno : ∀ j, j < 9 → (Array.replicate 9 false).getD j true = false := fun j hj => by
      rw [Array.getD_eq_getD_getElem?, Array.getElem?_replicate, if_pos hj]; rfl
    have hn : ∀ {j : Nat} {X : Prop}, j < 9 → (Array.replicate 9 false).getD j true = true → X := fun {j X} hj hl => absurd (hl.symm.trans (hno j hj)) (by decide)
    exact ⟨rfl, rfl, fun _ _ _ => rfl, fun j hj hl => hn (by omega) hl, fun hl _ => hn (j := 6) (by omega) hl, fun hl _ => hn (j := 7) (by omega) hl, fun _ => by rw [hW]; exact Below.refl _ _, fun hl => hn (j := 8) (by omega) hl, fun hl => hn (j := 8) (by omega) hl⟩
  · intro listed a w i o hsz ho hun hdep h
    have hi : i < 9 := (Array.getElem?_eq_some_iff.1 ho).1
    have hnot : i < 8 → listed.getD i true = false → listed.getD 8 true = false := fun h7 hui => by
      cases h8 : listed.getD 8 true with
      | false => rfl
      | true => have := h.shut h8 i h7; rw [hui] at this; cases this
    rcases (by omega : i = 0 ∨ i = 1 ∨ i = 2 ∨ i = 3 ∨ i = 4 ∨ i = 5 ∨ i = 6 ∨ i = 7 ∨ i = 8) with rfl | rfl | rfl | rfl | rfl | rfl | rfl | rfl | rfl
    · obtain rfl : { dst := some 21, op := Op.call { callee := Callee.value (Operand.func 27), args := #[], argTypes := #[] }, type := 58, pos := "filter.go:62", after := #[], guard := none } = o := Option.some.inj ho
      refine wpOp_of ho rfl ?_
      have hu : listed.getD 8 true = false := hnot (by omega) hun
      have hb := h.mem hu
      exact wp_call0 rfl (enters_of Tryz.func27 (by kernel_rfl) rfl) (effects_any w) (fun w4 h4 => (h.later hE hu h4).next (j := 0) hs (by omega) hu rfl)
    · obtain rfl : { dst := some 22, op := Op.fieldAddr 25 (Operand.tmp 3) 0, type := 0, pos := "filter.go:62", after := #[], guard := none } = o := Option.some.inj ho
      refine wpOp_of ho rfl ?_
      have hu : listed.getD 8 true = false := hnot (by omega) hun
      have hb := h.mem hu
      exact wp_field 25 (.tmp 3) 0 rfl ((h.keep 3 (by decide) (.inl (by omega))).trans e3) (by kernel_rfl) (h.next (j := 1) hs (by omega) hu rfl)
    · obtain rfl : { dst := some 23, op := Op.load 3 (Operand.tmp 22), type := 3, pos := "filter.go:62", after := #[{ on := 1, ground := Ground.data }], guard := none } = o := Option.some.inj ho
      refine wpOp_of ho rfl ?_
      have hu : listed.getD 8 true = false := hnot (by omega) hun
      have hb := h.mem hu
      have q1 : a.eval (.tmp 22) = .pointer (some ⟨s, 0, none⟩) := h.vals 1 (by omega) (hdep { on := 1, ground := Ground.data } (by simp) rfl)
      exact wp_load_of 3 (.tmp 22) _ rfl q1 (load_i (hm w hb).1) (h.next (j := 2) hs (by omega) hu rfl)
    · obtain rfl : { dst := some 24, op := Op.index 58 (Operand.tmp 21) (Operand.tmp 23), type := 57, pos := "filter.go:62", after := #[{ on := 0, ground := Ground.data }, { on := 2, ground := Ground.data }], guard := none } = o := Option.some.inj ho
      refine wpOp_of ho rfl ?_
      have hu : listed.getD 8 true = false := hnot (by omega) hun
      have hb := h.mem hu
      have q0 : a.eval (.tmp 21) = efs := h.vals 0 (by omega) (hdep { on := 0, ground := Ground.data } (by simp) rfl)
      have q2 : a.eval (.tmp 23) = .int .i64 k := h.vals 2 (by omega) (hdep { on := 2, ground := Ground.data } (by simp) rfl)
      exact wp_ix _ (.tmp 21) (.tmp 23) efs (.int .i64 k) _ rfl q0 q2 (hix w) (h.next (j := 3) hs (by omega) hu rfl)
    · obtain rfl : { dst := some 25, op := Op.load 25 (Operand.tmp 3), type := 25, pos := "filter.go:62", after := #[], guard := none } = o := Option.some.inj ho
      refine wpOp_of ho rfl ?_
      have hu : listed.getD 8 true = false := hnot (by omega) hun
      have hb := h.mem hu
      exact wp_load_of 25 (.tmp 3) _ rfl ((h.keep 3 (by decide) (.inl (by omega))).trans e3) (hm w hb).2.1 (h.next (j := 4) hs (by omega) hu rfl)
    · obtain rfl : { dst := some 26, op := Op.load 37 (Operand.tmp 4), type := 37, pos := "filter.go:62", after := #[], guard := none } = o := Option.some.inj ho
      refine wpOp_of ho rfl ?_
      have hu : listed.getD 8 true = false := hnot (by omega) hun
      have hb := h.mem hu
      exact wp_load_of 37 (.tmp 4) _ rfl ((h.keep 4 (by decide) (.inl (by omega))).trans e4) (hm w hb).2.2 (h.next (j := 5) hs (by omega) hu rfl)
    · obtain rfl : { dst := some 27, op := Op.call { callee := Callee.value (Operand.tmp 24), args := #[Operand.tmp 25, Operand.tmp 26], argTypes := #[60, 61] }, type := 56, pos := "filter.go:62", after := #[{ on := 3, ground := Ground.data }, { on := 4, ground := Ground.data }, { on := 5, ground := Ground.data }, { on := 0, ground := Ground.chain }], guard := none } = o := Option.some.inj ho
      refine wpOp_of ho rfl ?_
      have hu : listed.getD 8 true = false := hnot (by omega) hun
      have hb := h.mem hu
      have q3 : a.eval (.tmp 24) = fnv fm := h.vals 3 (by omega) (hdep { on := 3, ground := Ground.data } (by simp) rfl)
      have q4 : a.eval (.tmp 25) = fv k r K d v C := h.vals 4 (by omega) (hdep { on := 4, ground := Ground.data } (by simp) rfl)
      have q5 : a.eval (.tmp 26) = imv x0 y0 x1 y1 P := h.vals 5 (by omega) (hdep { on := 5, ground := Ground.data } (by simp) rfl)
      exact wp_callM (.tmp 24) (.tmp 25) (.tmp 26) _ _ _ _ rfl q3 q4 q5 hen (hcall w hb) (fun v4 w4 h4 => (h.later hE hu h4.1).call hs hu h4.2)
    · obtain rfl : { dst := some 9, op := Op.alloc 56, type := 0, pos := "filter.go:62", after := #[], guard := none } = o := Option.some.inj ho
      refine wpOp_of ho rfl ?_
      have hu : listed.getD 8 true = false := hnot (by omega) hun
      have hb := h.mem hu
      exact wp_alloc_of 56 rfl .nilFunc _ (by kernel_rfl) rfl (h.alloc hE hs hu)
    · obtain rfl : { dst := none, op := Op.store 56 (Operand.tmp 9) (Operand.tmp 27), type := 0, pos := "filter.go:62", after := #[{ on := 7, ground := Ground.data }, { on := 6, ground := Ground.data }, { on := 6, ground := Ground.chain }, { on := 0, ground := Ground.phase }, { on := 1, ground := Ground.phase }, { on := 2, ground := Ground.phase }, { on := 3, ground := Ground.phase }, { on := 4, ground := Ground.phase }, { on := 5, ground := Ground.phase }, { on := 6, ground := Ground.phase }, { on := 7, ground := Ground.phase }], guard := none } = o := Option.some.inj ho
      refine wpOp_of ho rfl ?_
      have hu := hun
      have hb := h.mem hu
      have hall : ∀ i, i < 8 → listed.getD i true = true := fun i hi => by
        rcases (by omega : i = 0 ∨ i = 1 ∨ i = 2 ∨ i = 3 ∨ i = 4 ∨ i = 5 ∨ i = 6 ∨ i = 7) with rfl | rfl | rfl | rfl | rfl | rfl | rfl | rfl
        · exact hdep { on := 0, ground := Ground.phase } (by simp) rfl
        · exact hdep { on := 1, ground := Ground.phase } (by simp) rfl
        · exact hdep { on := 2, ground := Ground.phase } (by simp) rfl
        · exact hdep { on := 3, ground := Ground.phase } (by simp) rfl
        · exact hdep { on := 4, ground := Ground.phase } (by simp) rfl
        · exact hdep { on := 5, ground := Ground.phase } (by simp) rfl
        · exact hdep { on := 6, ground := Ground.data } (by simp) rfl
        · exact hdep { on := 7, ground := Ground.data } (by simp) rfl
      obtain ⟨b, q7, hb1, hb2⟩ := h.box (hall 7 (by omega)) hu
      obtain ⟨g, caps, hg⟩ := hF _ _ (h.clos (hall 6 (by omega)) hu)
      refine wp_store_of 56 (.tmp 9) (.tmp 27) rfl q7 hg (store_f hb2) (h.store hu hall q7 hg hb1 hb2)
  · intro listed a w hall h
    obtain ⟨b, f, w1, h9, h27, hb, hr, he, hbw, rfl⟩ := h.last (hall 8 (by show 8 < 9; omega))
    have hv := fun j (hj : j < 6) => h.vals j hj (hall j (by show j < 9; omega))
    have : a = ((((((((a0.put (some 9) (.pointer (some ⟨b, 0, none⟩))).put (some 21) efs).put (some 22) (.pointer (some ⟨s, 0, none⟩))).put (some 23) (.int .i64 k)).put (some 24) (fnv fm)).put (some 25) (fv k r K d v C)).put (some 26) (imv x0 y0 x1 y1 P)).put (some 27) f) := by
      refine act_eq (by simp only [put_defers]; exact h.defs) (by simp only [put_size]; exact h.size) fun t => ?_
      have s9 : 9 < a0.tmps.size := by omega
      have s21 : 21 < a0.tmps.size := by omega
      have s22 : 22 < a0.tmps.size := by omega
      have s23 : 23 < a0.tmps.size := by omega
      have s24 : 24 < a0.tmps.size := by omega
      have s25 : 25 < a0.tmps.size := by omega
      have s26 : 26 < a0.tmps.size := by omega
      have s27 : 27 < a0.tmps.size := by omega
      simp only [put_eval, put_size, s9, s21, s22, s23, s24, s25, s26, s27]
      by_cases c9 : t = 9
      · subst c9; simpa using h9
      by_cases c27 : t = 27
      · subst c27; simpa using h27
      by_cases c : t < 21 ∨ 27 < t
      · rw [h.keep t c9 c]
        simp only [if_neg c9, if_neg c27, if_neg (show ¬ t = 26 by omega), if_neg (show ¬ t = 25 by omega), if_neg (show ¬ t = 24 by omega), if_neg (show ¬ t = 23 by omega), if_neg (show ¬ t = 22 by omega), if_neg (show ¬ t = 21 by omega)]
      · rcases (by omega : t = 21 ∨ t = 22 ∨ t = 23 ∨ t = 24 ∨ t = 25 ∨ t = 26) with rfl | rfl | rfl | rfl | rfl | rfl
        · simpa [mval] using hv 0 (by omega)
        · simpa [mval] using hv 1 (by omega)
        · simpa [mval] using hv 2 (by omega)
        · simpa [mval] using hv 3 (by omega)
        · simpa [mval] using hv 4 (by omega)
        · simpa [mval] using hv 5 (by omega)
    rw [this]
    exact hQ b f w1 hb hr he hbw
end Go.Proofs.YtbodmeiecdomfaaGreat.W
