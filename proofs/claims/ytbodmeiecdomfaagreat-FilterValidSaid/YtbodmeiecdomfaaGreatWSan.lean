/-
  The laws' sanity: common laws.
-/
import Derived.Test.YtbodmeiecdomfaaGreatWFlow
import Derived.Test.YtbodmeiecdomfaaGreatWAps
namespace Go.Proofs.YtbodmeiecdomfaaGreat.W
open Go.RowKit
set_option maxRecDepth 100000
section
variable {o : Oper} {a : Act} {w w' : World} {K : Act → World → Prop} {Q : Exit → Act → World → Prop}
theorem wp_assign {v : Value} (x : Operand) (ho : o.op = .assign x) (hx : a.eval x = v) (h : K (a.put o.dst v) w) : o.wp Tryz.prog a w K Q := by
  unfold Oper.wp execOp
  simp only [ho, hx, Sem.run_pure]
  exact h
theorem wp_extract {u v : Value} (x : Operand) (i : Nat) (ho : o.op = .extract x i) (hx : a.eval x = .tuple #[u, v]) (hi : i < 2) (h : K (a.put o.dst (if i = 0 then u else v)) w) : o.wp Tryz.prog a w K Q := by
  unfold Oper.wp execOp
  rcases (by omega : i = 0 ∨ i = 1) with rfl | rfl
  · simp only [ho, hx, Sem.run_bind]
    exact h
  · simp only [ho, hx, Sem.run_bind]
    exact h
theorem wp_build {v : Value} (hr : (execOp a.eval o).run Tryz.prog w = .ok (.value v) w) (h : K (a.put o.dst v) w) : o.wp Tryz.prog a w K Q := by
  unfold Oper.wp
  rw [hr]
  exact h
theorem wp_call2 {fid : FuncId} {v : Value} (y z : Operand) (t u : TypeId) (p q : Value) (ho : o.op = .call { callee := .value (.func fid), args := #[y, z], argTypes := #[t, u] }) (hy : a.eval y = p) (hz : a.eval z = q) (hen : ∀ args w, (callFunc fid args).run Tryz.prog w = .ok (.enter fid args) w)
    (hc : Calls Tryz.prog fid #[p, q] w fun e w' => e = .returned v ∧ Below w.heap.size w w') (h : ∀ w', Below w.heap.size w w' → K (a.put o.dst v) w') : o.wp Tryz.prog a w K Q := by
  unfold Oper.wp execOp
  have hf : a.eval (.func fid) = .func (.func fid) #[] #[] := rfl
  have hd : (Deferred.ofValue (.func (.func fid) #[] #[]) #[p, q]).run Tryz.prog w = .ok { target := .fn (.func fid) #[], args := #[p, q] } w := rfl
  simp only [ho, resolve, invoke, Sem.run_bind, Sem.run_pure, Result.andThen_ok, List.map_toArray, List.map_cons, List.map_nil, hf, hy, hz, hd, Array.append_empty, hen]
  refine hc.mono fun e w' ⟨h1, h2⟩ => ?_
  subst h1
  exact h w' h2
theorem wp_call3 {fid : FuncId} {R : Value → World → Prop} (x y z : Operand) (t u s : TypeId) (p q r : Value) (ho : o.op = .call { callee := .value (.func fid), args := #[x, y, z], argTypes := #[t, u, s] }) (hx : a.eval x = p) (hy : a.eval y = q) (hz : a.eval z = r) (hen : ∀ args w, (callFunc fid args).run Tryz.prog w = .ok (.enter fid args) w)
    (hc : Calls Tryz.prog fid #[p, q, r] w fun e w' => ∃ v, e = .returned v ∧ R v w') (h : ∀ v w', R v w' → K (a.put o.dst v) w') : o.wp Tryz.prog a w K Q := by
  unfold Oper.wp execOp
  have hf : a.eval (.func fid) = .func (.func fid) #[] #[] := rfl
  have hd : (Deferred.ofValue (.func (.func fid) #[] #[]) #[p, q, r]).run Tryz.prog w = .ok { target := .fn (.func fid) #[], args := #[p, q, r] } w := rfl
  simp only [ho, resolve, invoke, Sem.run_bind, Sem.run_pure, Result.andThen_ok, List.map_toArray, List.map_cons, List.map_nil, hf, hx, hy, hz, hd, Array.append_empty, hen]
  refine hc.mono fun e w' ⟨v, h1, h2⟩ => ?_
  subst h1
  exact h v w' h2
end
variable {W w w' : World}
theorem PB.later {b i : Nat} {p : Px} (h : PB w b i p) (hb : Below w.heap.size w w') : PB w' b i p := by
  obtain ⟨h0, h1, h2, h3⟩ := h
  have hlt : b < w.heap.size := by
    rcases Nat.lt_or_ge b w.heap.size with h | h
    · exact h
    · unfold World.cell? at h0; simp [Array.getElem?_eq_none h] at h0
  exact ⟨(hb.cell (p := ⟨b, i, none⟩) hlt).trans h0, (hb.cell (p := ⟨b, i + 1, none⟩) hlt).trans h1, (hb.cell (p := ⟨b, i + 2, none⟩) hlt).trans h2, (hb.cell (p := ⟨b, i + 3, none⟩) hlt).trans h3⟩
theorem PB.mv {b c i : Nat} {p : Px} (h : PB w b i p) (hm : Mv [c] w w') (hbc : b ≠ c) : PB w' b i p := by
  obtain ⟨h0, h1, h2, h3⟩ := h
  have hlt : b < w.heap.size := by
    rcases Nat.lt_or_ge b w.heap.size with h | h
    · exact h
    · unfold World.cell? at h0; simp [Array.getElem?_eq_none h] at h0
  have hr := hm.block b hlt (by simpa using hbc)
  have hc : ∀ j, w'.cell? ⟨b, j, none⟩ = w.cell? ⟨b, j, none⟩ := fun j => by unfold World.cell?; simp only [hr]
  exact ⟨(hc _).trans h0, (hc _).trans h1, (hc _).trans h2, (hc _).trans h3⟩
/-- an image of one pixel, as a value -/
def One1 (x y : Int) (p : Px) (v : Value) (w : World) : Prop := ∃ b, v = imv x y (x + 1) (y + 1) (.slice (some ⟨b, 0, none⟩) 1 1) ∧ PB w b 0 p
def Two1 (x y : Int) (p : Px) (v : Value) (w : World) : Prop := ∃ b, v = .tuple #[imv x y (x + 1) (y + 1) (.slice (some ⟨b, 0, none⟩) 1 1), .int .i64 0] ∧ PB w b 0 p
/-- a block of one's own for an image -/
def Box1 (W : World) (v : Value) (w : World) : Prop := ∃ b c0 c1 c2 c3 P, v = .pointer (some ⟨b, 0, none⟩) ∧ W.heap.size ≤ b ∧ w.heap[b]? = some (.cells #[.int .i64 c0, .int .i64 c1, .int .i64 c2, .int .i64 c3, P] 37)
/-- such a block that holds an image of one pixel -/
def Fin1 (W : World) (x y : Int) (p : Px) (v : Value) (w : World) : Prop := ∃ b b', v = .pointer (some ⟨b, 0, none⟩) ∧ W.heap.size ≤ b ∧ w.heap[b]? = some (im0 x y (x + 1) (y + 1) (.slice (some ⟨b', 0, none⟩) 1 1)) ∧ PB w b' 0 p
theorem row_later {b : Nat} {o : Obj} (h : w.heap[b]? = some o) (hb : Below w.heap.size w w') : w'.heap[b]? = some o := (hb.block b (Array.getElem?_eq_some_iff.1 h).1).trans h
theorem One1.later {x y : Int} {p : Px} {v : Value} (h : One1 x y p v w) (hb : Below w.heap.size w w') : One1 x y p v w' := by
  obtain ⟨b, h1, h2⟩ := h; exact ⟨b, h1, h2.later hb⟩
theorem Two1.later {x y : Int} {p : Px} {v : Value} (h : Two1 x y p v w) (hb : Below w.heap.size w w') : Two1 x y p v w' := by
  obtain ⟨b, h1, h2⟩ := h; exact ⟨b, h1, h2.later hb⟩
theorem Box1.later {v : Value} (h : Box1 W v w) (hb : Below w.heap.size w w') : Box1 W v w' := by
  obtain ⟨b, c0, c1, c2, c3, P, h1, h2, h3⟩ := h; exact ⟨b, c0, c1, c2, c3, P, h1, h2, row_later h3 hb⟩
theorem Fin1.later {x y : Int} {p : Px} {v : Value} (h : Fin1 W x y p v w) (hb : Below w.heap.size w w') : Fin1 W x y p v w' := by
  obtain ⟨b, b', h1, h2, h3, h4⟩ := h; exact ⟨b, b', h1, h2, row_later h3 hb, h4.later hb⟩
/-- a pixel's block is no image's -/
theorem PB.ne {b c : Nat} {p : Px} {c0 : Int} {cs : List Value} {t : TypeId} (h : PB w b 0 p) (hr : w.heap[c]? = some (.cells (.int .i64 c0 :: cs).toArray t)) : b ≠ c := by
  intro e
  subst e
  have h0 := h.1
  rw [cell_of_row _ _ 0 _ _ _ hr] at h0
  simp at h0
theorem store5 {b : Nat} {c0 c1 c2 c3 x0 x1 x2 x3 : Int} {P R : Value} (h : w.heap[b]? = some (.cells #[.int .i64 c0, .int .i64 c1, .int .i64 c2, .int .i64 c3, P] 37)) (hR : ∃ q n c, R = .slice q n c) :
    ∃ w', (Instr.storeAt 37 (.pointer (some ⟨b, 0, none⟩)) (imv x0 x1 x2 x3 R)).run Tryz.prog w = .ok () w' ∧ Mv [b] w w' ∧ w'.heap[b]? = some (im0 x0 x1 x2 x3 R) := by
  obtain ⟨q, n, c, rfl⟩ := hR
  obtain ⟨k0, k1, k2, k3, k4⟩ := im_of h
  have hf := fun j => frozen_of_row _ _ j _ _ h
  refine ⟨_, by simp [Instr.storeAt, Instr.sureAddr, storeVar, go_sem, k0, k1, k2, k3, k4, hf]; rfl, ?_, ?_⟩
  · exact (((((Mv.set (by simp)).trans (Mv.set (by simp))).trans (Mv.set (by simp))).trans (Mv.set (by simp))).trans (Mv.set (by simp)))
  · rw [set_row (set_row (set_row (set_row (set_row h))))]
    simp
end Go.Proofs.YtbodmeiecdomfaaGreat.W
