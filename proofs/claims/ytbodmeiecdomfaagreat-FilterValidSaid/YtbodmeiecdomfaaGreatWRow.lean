/-
  What a round of Apply does: a pixel is stored.
-/
import Derived.Test.YtbodmeiecdomfaaGreatWInv
import Derived.Test.YtbodmeiecdomfaaGreatWThr
namespace Go.Proofs.YtbodmeiecdomfaaGreat.W
open Go.RowKit
set_option maxRecDepth 100000
section
variable {o : Oper} {a : Act} {w w' : World} {K : Act → World → Prop} {Q : Exit → Act → World → Prop}
theorem wp_callF {fid : FuncId} {v : Value} (x y : Operand) (t : TypeId) (caps : Array Value) (arg : Value) (ho : o.op = .call { callee := .value x, args := #[y], argTypes := #[t] }) (hx : a.eval x = .func (.func fid) #[] caps) (hy : a.eval y = arg) (hen : ∀ args w, (callFunc fid args).run Tryz.prog w = .ok (.enter fid args) w)
    (hc : Calls Tryz.prog fid (#[arg] ++ caps) w fun e w' => e = .returned v ∧ Below w.heap.size w w') (h : ∀ w', Below w.heap.size w w' → K (a.put o.dst v) w') : o.wp Tryz.prog a w K Q := by
  unfold Oper.wp execOp
  have hd : (Deferred.ofValue (.func (.func fid) #[] caps) #[arg]).run Tryz.prog w = .ok { target := .fn (.func fid) caps, args := #[arg] } w := rfl
  simp only [ho, resolve, invoke, Sem.run_bind, Sem.run_pure, Result.andThen_ok, List.map_toArray, List.map_cons, List.map_nil, hx, hy, hd, hen]
  refine hc.mono fun e w' ⟨h1, h2⟩ => ?_
  subst h1
  exact h w' h2
end
variable {W w : World}
theorem aggS (w : World) : (isAgg 35).run Tryz.prog w = .ok false w := by kernel_rfl
theorem aggF (w : World) : (isAgg 56).run Tryz.prog w = .ok false w := by kernel_rfl
theorem load_s {b j : Nat} {v : Value} (h : w.cell? ⟨b, j, none⟩ = some v) : (Instr.loadAt 35 (.pointer (some ⟨b, j, none⟩))).run Tryz.prog w = .ok v w := by
  simp only [Instr.loadAt, Instr.sureAddr, loadVar, Sem.run_bind, Sem.run_pure, Result.andThen_ok, aggS, run_load, h, Bool.false_eq_true, if_false]
theorem load_f {b j : Nat} {v : Value} (h : w.cell? ⟨b, j, none⟩ = some v) : (Instr.loadAt 56 (.pointer (some ⟨b, j, none⟩))).run Tryz.prog w = .ok v w := by
  simp only [Instr.loadAt, Instr.sureAddr, loadVar, Sem.run_bind, Sem.run_pure, Result.andThen_ok, aggF, run_load, h, Bool.false_eq_true, if_false]
theorem load_pt {b : Nat} {x y : Int} (h0 : w.cell? ⟨b, 0, none⟩ = some (.int .i64 x)) (h1 : w.cell? ⟨b, 1, none⟩ = some (.int .i64 y)) : (Instr.loadAt 67 (.pointer (some ⟨b, 0, none⟩))).run Tryz.prog w = .ok (ptv x y) w := by
  simp [Instr.loadAt, Instr.sureAddr, loadVar, go_sem, h0, h1]
theorem store_px {b j : Nat} {q z : Px} (h : PB w b j q) (hf : ∀ i, w.frozen? ⟨b, i, none⟩ = false) : (Instr.storeAt 39 (.pointer (some ⟨b, j, none⟩)) z.v).run Tryz.prog w = .ok () ((((w.setCell ⟨b, j, none⟩ (.int .u8 z.r)).setCell ⟨b, j + 1, none⟩ (.int .u8 z.g)).setCell ⟨b, j + 2, none⟩ (.int .u8 z.b)).setCell ⟨b, j + 3, none⟩ (.int .u8 z.a)) := by
  obtain ⟨h0, h1, h2, h3⟩ := h
  simp [Instr.storeAt, Instr.sureAddr, storeVar, go_sem, h0, h1, h2, h3, hf]
def rval (bp n N : Nat) (fn : Value) (x y : Int) (p : Px) (j : Nat) : Value := match j with
  | 0 => (.slice (some ⟨bp, 0, none⟩) N N)
  | 1 => .int .i64 n
  | 2 => fn
  | 3 => ptv x y
  | 4 => p.v
  | 5 => (cln p).v
  | _ => .pointer (some ⟨bp, n * 4, none⟩)
structure RInv (a0 : Act) (W : World) (bp n N : Nat) (fn : Value) (x y : Int) (p : Px) (Z : World → Prop) (listed : Array Bool) (a : Act) (w : World) : Prop where
  size : a.tmps.size = a0.tmps.size
  keep : ∀ t : Nat, t < 35 → a.eval (.tmp t) = a0.eval (.tmp t)
  vals : ∀ j, j < 7 → listed.getD j true = true → a.eval (.tmp (35 + j)) = rval bp n N fn x y p j
  mem : if listed.getD 7 true = true then Z w else Below W.heap.size W w
  shut : listed.getD 7 true = true → ∀ i, i < 7 → listed.getD i true = true
variable {a0 a : Act} {bp n N : Nat} {fn : Value} {x y : Int} {p : Px} {Z : World → Prop} {listed : Array Bool}
theorem RInv.next {j : Nat} {v : Value} {w' : World} (h : RInv a0 W bp n N fn x y p Z listed a w) (hs : 44 ≤ a0.tmps.size) (hj : j < 7) (hu : listed.getD 7 true = false) (hb : Below W.heap.size W w') (hv : v = rval bp n N fn x y p j) : RInv a0 W bp n N fn x y p Z (listed.setIfInBounds j true) (a.put (some (35 + j)) v) w' where
  size := put_size.trans h.size
  keep t ht := by rw [put_eval (by rw [h.size]; omega), if_neg (by omega)]; exact h.keep t ht
  vals i hi hl := by
    rw [put_eval (by rw [h.size]; omega)]
    by_cases e : i = j
    · subst e; rw [if_pos rfl]; exact hv
    · rw [if_neg (by omega)]; exact h.vals i hi (by rwa [getD_set e] at hl)
  mem := by rw [getD_set (by omega), hu, if_neg (by decide)]; exact hb
  shut hl := by rw [getD_set (by omega), hu] at hl; cases hl
theorem RInv.done {w' : World} (h : RInv a0 W bp n N fn x y p Z listed a w) (hall : ∀ i, i < 7 → listed.getD i true = true) (hz : Z w') : RInv a0 W bp n N fn x y p Z (listed.setIfInBounds 7 true) (a.put none undef) w' where
  size := h.size
  keep := h.keep
  vals i hi hl := h.vals i hi (by rwa [getD_set (by omega)] at hl)
  mem := by rw [getD_new, if_pos rfl]; exact hz
  shut _ i hi := by rw [getD_set (by omega)]; exact hall i hi

theorem wp_ixa {o : Oper} {K : Act → World → Prop} {Q : Exit → Act → World → Prop} {s i v : Value} (xs xi : Operand) (ho : o.op = .indexAddr 35 xs xi) (hs : a.eval xs = s) (hi : a.eval xi = i) (hr : (Instr.indexAt 35 s i).run Tryz.prog w = .ok v w) (h : K (a.put o.dst v) w) : o.wp Tryz.prog a w K Q := by
  unfold Oper.wp execOp
  simp only [ho, hs, hi, Sem.run_bind, hr, Result.andThen_ok, Sem.run_pure]
  exact h
theorem ixa_px (hn : n < N) (w : World) : (Instr.indexAt 35 (.slice (some ⟨bp, 0, none⟩) N N) (.int .i64 n)).run Tryz.prog w = .ok (.pointer (some ⟨bp, n * 4, none⟩)) w := by
  have h1 : (n : Int) < N := by omega
  simp [Instr.indexAt, go_sem, h1, Nat.not_le.2 hn]
set_option maxHeartbeats 4000000 in
theorem row_region {W0 : World} {id m fid : Nat} {ro : Option Nat} {caps : Array Value} {b9 b10 b12 : Nat} {Q : Exit → Act → World → Prop} (hW : W0.drew = W) (hs : 44 ≤ a0.tmps.size) (hn : n < N) (hfn : fn = .func (.func fid) #[] caps) (hen : ∀ args w, (callFunc fid args).run Tryz.prog w = .ok (.enter fid args) w)
    (e9 : a0.eval (.tmp 9) = .pointer (some ⟨b9, 0, none⟩)) (e10 : a0.eval (.tmp 10) = .pointer (some ⟨b10, 0, none⟩)) (e11 : a0.eval (.tmp 11) = .int .i64 n) (e12 : a0.eval (.tmp 12) = .pointer (some ⟨b12, 0, none⟩))
    (hm : ∀ V, Below W.heap.size W V → V.cell? ⟨b10, 0, none⟩ = some (.slice (some ⟨bp, 0, none⟩) N N) ∧ V.cell? ⟨b9, 0, none⟩ = some fn ∧ V.cell? ⟨b12, 0, none⟩ = some (.int .i64 x) ∧ V.cell? ⟨b12, 1, none⟩ = some (.int .i64 y))
    (hcall : ∀ V, Below W.heap.size W V → Calls Tryz.prog fid (#[ptv x y] ++ caps) V fun e w' => e = .returned p.v ∧ Below V.heap.size V w')
    (hpx : ∀ V, Below W.heap.size W V → PB V bp (n * 4) zp ∧ ∀ i, V.frozen? ⟨bp, i, none⟩ = false)
    (hZ : ∀ V, Below W.heap.size W V → Z ((((V.setCell ⟨bp, n * 4, none⟩ (.int .u8 (cln p).r)).setCell ⟨bp, n * 4 + 1, none⟩ (.int .u8 (cln p).g)).setCell ⟨bp, n * 4 + 2, none⟩ (.int .u8 (cln p).b)).setCell ⟨bp, n * 4 + 3, none⟩ (.int .u8 (cln p).a)))
    (hQ : ∀ a w, Z w → Q .normal a w) :
    (Code.region id #[{ dst := some 35, op := Op.load 35 (Operand.tmp 10), type := 35, pos := "filter.go:65", after := #[], guard := none },
      { dst := some 36, op := Op.move (Operand.tmp 11), type := 3, pos := "filter.go:65", after := #[], guard := none },
      { dst := some 37, op := Op.load 56 (Operand.tmp 9), type := 56, pos := "filter.go:65", after := #[], guard := none },
      { dst := some 38, op := Op.load 67 (Operand.tmp 12), type := 67, pos := "filter.go:65", after := #[], guard := none },
      { dst := some 39, op := Op.call { callee := Callee.value (Operand.tmp 37), args := #[Operand.tmp 38], argTypes := #[67] }, type := 39, pos := "filter.go:65", after := #[{ on := 2, ground := Ground.data }, { on := 3, ground := Ground.data }], guard := none },
      { dst := some 40, op := Op.call { callee := Callee.value (Operand.func 30), args := #[Operand.tmp 39], argTypes := #[39] }, type := 39, pos := "filter.go:65", after := #[{ on := 4, ground := Ground.data }, { on := 4, ground := Ground.chain }], guard := none },
      { dst := some 41, op := Op.indexAddr 35 (Operand.tmp 35) (Operand.tmp 36), type := 0, pos := "filter.go:65", after := #[{ on := 0, ground := Ground.data }, { on := 1, ground := Ground.data }, { on := 0, ground := Ground.phase }, { on := 1, ground := Ground.phase }, { on := 2, ground := Ground.phase }, { on := 3, ground := Ground.phase }, { on := 4, ground := Ground.phase }, { on := 5, ground := Ground.phase }], guard := none },
      { dst := none, op := Op.store 39 (Operand.tmp 41) (Operand.tmp 40), type := 0, pos := "filter.go:65", after := #[{ on := 6, ground := Ground.data }, { on := 5, ground := Ground.data }, { on := 5, ground := Ground.chain }, { on := 0, ground := Ground.phase }, { on := 1, ground := Ground.phase }, { on := 2, ground := Ground.phase }, { on := 3, ground := Ground.phase }, { on := 4, ground := Ground.phase }, { on := 5, ground := Ground.phase }], guard := none }] true).wpIn (FW ro) m Tryz.prog Q a0 W0 := by
  refine wpIn_region_inv (RInv a0 W bp n N fn x y p Z) (by kernel_rfl) (by kernel_rfl) (by kernel_rfl) ?_ ?_ ?_
  · have hno : ∀ j, j < 8 → (Array.replicate 8 false).getD j true = false := fun j hj => by
      rw [Array.getD_eq_getD_getElem?, Array.getElem?_replicate, if_pos hj]; rfl
    refine ⟨rfl, fun _ _ => rfl, fun j hj hl => absurd (hl.symm.trans (hno j (by omega))) (by decide), ?_, fun hl => absurd (hl.symm.trans (hno 7 (by omega))) (by decide)⟩
    rw [hW]
    have hx : (if (Array.replicate 8 false).getD 7 true = true then Z W else Below W.heap.size W W) := by
      rw [hno 7 (by omega), if_neg (by decide)]; exact Below.refl _ _
    exact hx
  · intro listed a w i o hsz ho hun hdep h
    have hi : i < 8 := (Array.getElem?_eq_some_iff.1 ho).1
    have hnot : i < 7 → listed.getD i true = false → listed.getD 7 true = false := fun h7 hui => by
      cases h8 : listed.getD 7 true with
      | false => rfl
      | true => have := h.shut h8 i h7; rw [hui] at this; cases this
    rcases (by omega : i = 0 ∨ i = 1 ∨ i = 2 ∨ i = 3 ∨ i = 4 ∨ i = 5 ∨ i = 6 ∨ i = 7) with rfl | rfl | rfl | rfl | rfl | rfl | rfl | rfl
    · obtain rfl : { dst := some 35, op := Op.load 35 (Operand.tmp 10), type := 35, pos := "filter.go:65", after := #[], guard := none } = o := Option.some.inj ho
      refine wpOp_of ho rfl ?_
      have hu : listed.getD 7 true = false := hnot (by omega) hun
      have hb : Below W.heap.size W w := by have := h.mem; rw [hu, if_neg (by decide)] at this; exact this
      exact wp_load_of 35 (.tmp 10) _ rfl ((h.keep 10 (by omega)).trans e10) (load_s (hm w hb).1) (h.next (j := 0) hs (by omega) hu hb rfl)
    · obtain rfl : { dst := some 36, op := Op.move (Operand.tmp 11), type := 3, pos := "filter.go:65", after := #[], guard := none } = o := Option.some.inj ho
      refine wpOp_of ho rfl ?_
      have hu : listed.getD 7 true = false := hnot (by omega) hun
      have hb : Below W.heap.size W w := by have := h.mem; rw [hu, if_neg (by decide)] at this; exact this
      exact wp_move (.tmp 11) rfl ((h.keep 11 (by omega)).trans e11) (h.next (j := 1) hs (by omega) hu hb rfl)
    · obtain rfl : { dst := some 37, op := Op.load 56 (Operand.tmp 9), type := 56, pos := "filter.go:65", after := #[], guard := none } = o := Option.some.inj ho
      refine wpOp_of ho rfl ?_
      have hu : listed.getD 7 true = false := hnot (by omega) hun
      have hb : Below W.heap.size W w := by have := h.mem; rw [hu, if_neg (by decide)] at this; exact this
      exact wp_load_of 56 (.tmp 9) _ rfl ((h.keep 9 (by omega)).trans e9) (load_f (hm w hb).2.1) (h.next (j := 2) hs (by omega) hu hb rfl)
    · obtain rfl : { dst := some 38, op := Op.load 67 (Operand.tmp 12), type := 67, pos := "filter.go:65", after := #[], guard := none } = o := Option.some.inj ho
      refine wpOp_of ho rfl ?_
      have hu : listed.getD 7 true = false := hnot (by omega) hun
      have hb : Below W.heap.size W w := by have := h.mem; rw [hu, if_neg (by decide)] at this; exact this
      exact wp_load_of 67 (.tmp 12) _ rfl ((h.keep 12 (by omega)).trans e12) (load_pt (hm w hb).2.2.1 (hm w hb).2.2.2) (h.next (j := 3) hs (by omega) hu hb rfl)
    · obtain rfl : { dst := some 39, op := Op.call { callee := Callee.value (Operand.tmp 37), args := #[Operand.tmp 38], argTypes := #[67] }, type := 39, pos := "filter.go:65", after := #[{ on := 2, ground := Ground.data }, { on := 3, ground := Ground.data }], guard := none } = o := Option.some.inj ho
      refine wpOp_of ho rfl ?_
      have hu : listed.getD 7 true = false := hnot (by omega) hun
      have hb : Below W.heap.size W w := by have := h.mem; rw [hu, if_neg (by decide)] at this; exact this
      have q2 : a.eval (.tmp 37) = fn := h.vals 2 (by omega) (hdep { on := 2, ground := Ground.data } (by simp) rfl)
      have q3 : a.eval (.tmp 38) = ptv x y := h.vals 3 (by omega) (hdep { on := 3, ground := Ground.data } (by simp) rfl)
      exact wp_callF (.tmp 37) (.tmp 38) 67 caps (ptv x y) rfl (q2.trans hfn) q3 hen (hcall w hb) (fun w4 h4 => h.next (j := 4) hs (by omega) hu (hb.trans (h4.mono hb.size)) rfl)
    · obtain rfl : { dst := some 40, op := Op.call { callee := Callee.value (Operand.func 30), args := #[Operand.tmp 39], argTypes := #[39] }, type := 39, pos := "filter.go:65", after := #[{ on := 4, ground := Ground.data }, { on := 4, ground := Ground.chain }], guard := none } = o := Option.some.inj ho
      refine wpOp_of ho rfl ?_
      have hu : listed.getD 7 true = false := hnot (by omega) hun
      have hb : Below W.heap.size W w := by have := h.mem; rw [hu, if_neg (by decide)] at this; exact this
      have q4 : a.eval (.tmp 39) = p.v := h.vals 4 (by omega) (hdep { on := 4, ground := Ground.data } (by simp) rfl)
      exact wp_callF (fid := 30) (.func 30) (.tmp 39) 39 #[] p.v rfl rfl q4 (enters_of Tryz.func30 (by kernel_rfl) rfl) (clean_any p.r p.g p.b p.a w) (fun w4 h4 => h.next (j := 5) hs (by omega) hu (hb.trans (h4.mono hb.size)) rfl)
    · obtain rfl : { dst := some 41, op := Op.indexAddr 35 (Operand.tmp 35) (Operand.tmp 36), type := 0, pos := "filter.go:65", after := #[{ on := 0, ground := Ground.data }, { on := 1, ground := Ground.data }, { on := 0, ground := Ground.phase }, { on := 1, ground := Ground.phase }, { on := 2, ground := Ground.phase }, { on := 3, ground := Ground.phase }, { on := 4, ground := Ground.phase }, { on := 5, ground := Ground.phase }], guard := none } = o := Option.some.inj ho
      refine wpOp_of ho rfl ?_
      have hu : listed.getD 7 true = false := hnot (by omega) hun
      have hb : Below W.heap.size W w := by have := h.mem; rw [hu, if_neg (by decide)] at this; exact this
      have q0 : a.eval (.tmp 35) = (.slice (some ⟨bp, 0, none⟩) N N) := h.vals 0 (by omega) (hdep { on := 0, ground := Ground.data } (by simp) rfl)
      have q1 : a.eval (.tmp 36) = .int .i64 n := h.vals 1 (by omega) (hdep { on := 1, ground := Ground.data } (by simp) rfl)
      exact wp_ixa (.tmp 35) (.tmp 36) rfl q0 q1 (ixa_px hn _) (h.next (j := 6) hs (by omega) hu hb rfl)
    · obtain rfl : { dst := none, op := Op.store 39 (Operand.tmp 41) (Operand.tmp 40), type := 0, pos := "filter.go:65", after := #[{ on := 6, ground := Ground.data }, { on := 5, ground := Ground.data }, { on := 5, ground := Ground.chain }, { on := 0, ground := Ground.phase }, { on := 1, ground := Ground.phase }, { on := 2, ground := Ground.phase }, { on := 3, ground := Ground.phase }, { on := 4, ground := Ground.phase }, { on := 5, ground := Ground.phase }], guard := none } = o := Option.some.inj ho
      refine wpOp_of ho rfl ?_
      have hb : Below W.heap.size W w := by have := h.mem; rw [hun, if_neg (by decide)] at this; exact this
      have q5 : a.eval (.tmp 40) = (cln p).v := h.vals 5 (by omega) (hdep { on := 5, ground := Ground.data } (by simp) rfl)
      have q6 : a.eval (.tmp 41) = .pointer (some ⟨bp, n * 4, none⟩) := h.vals 6 (by omega) (hdep { on := 6, ground := Ground.data } (by simp) rfl)
      have hall : ∀ i, i < 7 → listed.getD i true = true := fun i hi => by
        rcases (by omega : i = 0 ∨ i = 1 ∨ i = 2 ∨ i = 3 ∨ i = 4 ∨ i = 5 ∨ i = 6) with rfl | rfl | rfl | rfl | rfl | rfl | rfl
        · exact hdep { on := 0, ground := Ground.phase } (by simp) rfl
        · exact hdep { on := 1, ground := Ground.phase } (by simp) rfl
        · exact hdep { on := 2, ground := Ground.phase } (by simp) rfl
        · exact hdep { on := 3, ground := Ground.phase } (by simp) rfl
        · exact hdep { on := 4, ground := Ground.phase } (by simp) rfl
        · exact hdep { on := 5, ground := Ground.phase } (by simp) rfl
        · exact hdep { on := 6, ground := Ground.data } (by simp) rfl
      exact wp_store_of 39 (.tmp 41) (.tmp 40) rfl q6 q5 (store_px (hpx w hb).1 (hpx w hb).2) (h.done hall (hZ w hb))
  · intro listed a w hall h
    have := h.mem
    rw [hall 7 (by show 7 < 8; omega), if_pos rfl] at this
    exact hQ a w this
end Go.Proofs.YtbodmeiecdomfaaGreat.W
