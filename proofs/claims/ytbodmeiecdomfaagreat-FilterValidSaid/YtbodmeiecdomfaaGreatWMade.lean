/-
  The reference's Made: what it returns is a valid filter.
-/
import Derived.Test.YtbodmeiecdomfaaGreatWValid
import Derived.Test.YtbodmeiecdomfaaGreatWInv
import Derived.Great.BuildSlice
import Derived.Test.YtbodmeiecdomfaaGreatMade
namespace Go.Proofs.YtbodmeiecdomfaaGreat.W
open Go.RowKit
set_option maxRecDepth 100000
variable {W w w' : World} {L : List (Nat × Obj)}

theorem wl_alloc {P : Program} {ops : Array Oper} {rest : List Oper} {o : Oper} {a : Act} {Q : Exit → Act → World → Prop} {w : World} (hg : o.guard = none) (t : TypeId) (ho : o.op = .alloc t) (cs : Array Value) (hz : (zeroValue t).run P w = .ok (.agg cs) w)
    (h : wpList P ops Q rest (a.put o.dst (.pointer (some ⟨w.heap.size, 0, none⟩))) (w.alloc (.cells cs t))) : wpList P ops Q (o :: rest) a w :=
  wpList_plain hg fun K hK => by
    have hn : (newVar t (.agg cs)).run P w = .ok ⟨w.heap.size, 0, none⟩ (w.alloc (.cells cs t)) := rfl
    unfold Oper.wp execOp
    simp only [ho, Instr.alloc, Sem.run_bind, hz, hn, Result.andThen_ok, Sem.run_pure]
    exact hK _ _ h
theorem wl_store {P : Program} {ops : Array Oper} {rest : List Oper} {o : Oper} {a : Act} {Q : Exit → Act → World → Prop} {w w' : World} (hg : o.guard = none) (ty : TypeId) (x y : Operand) (ho : o.op = .store ty x y)
    (hl : (Instr.storeAt ty (a.eval x) (a.eval y)).run P w = .ok () w') (h : wpList P ops Q rest (a.put o.dst undef) w') : wpList P ops Q (o :: rest) a w :=
  wpList_plain hg fun K hK => by
    unfold Oper.wp execOp
    simp only [ho, Sem.run_bind, hl, Result.andThen_ok, Sem.run_pure]
    exact hK _ _ h
theorem wl_build0 {P : Program} {ops : Array Oper} {rest : List Oper} {o : Oper} {a : Act} {Q : Exit → Act → World → Prop} {w : World} (hg : o.guard = none) (t : TypeId) (ho : o.op = .build t #[]) (v : Value)
    (hl : (Instr.build t #[]).run P w = .ok v w) (h : wpList P ops Q rest (a.put o.dst v) w) : wpList P ops Q (o :: rest) a w :=
  wpList_plain hg fun K hK => by
    unfold Oper.wp execOp
    have hl' : (Instr.build t ((#[] : Array (Nat × Operand)).map fun (i, x) => (i, a.eval x))).run P w = .ok v w := by simpa using hl
    simp only [ho, Sem.run_bind, hl', Result.andThen_ok, Sem.run_pure]
    exact hK _ _ h
/-- a filter in memory -/
abbrev fq (k r : Int) (K : Value) (d v : Int) (C : Value) : Obj := .cells #[.int .i64 k, .int .i64 r, K, .int .i64 d, .int .i64 v, C] 25
theorem wl_load {P : Program} {ops : Array Oper} {rest : List Oper} {o : Oper} {a : Act} {Q : Exit → Act → World → Prop} {w : World} {v : Value} (hg : o.guard = none) (ty : TypeId) (x : Operand) (ho : o.op = .load ty x)
    (hl : (Instr.loadAt ty (a.eval x)).run P w = .ok v w) (h : wpList P ops Q rest (a.put o.dst v) w) : wpList P ops Q (o :: rest) a w :=
  wpList_plain hg fun K hK => by
    unfold Oper.wp execOp
    simp only [ho, Sem.run_bind, hl, Result.andThen_ok, Sem.run_pure]
    exact hK _ _ h
theorem ld_fq {b : Nat} {k r d v : Int} {K C : Value} (h : w.heap[b]? = some (fq k r K d v C)) : (Instr.loadAt 25 (.pointer (some ⟨b, 0, none⟩))).run Tryz.prog w = .ok (fv k r K d v C) w := by
  have c := fun j => cell_of_row _ _ j _ _ _ h
  have c0 := c 0; have c1 := c 1; have c2 := c 2; have c3 := c 3; have c4 := c 4; have c5 := c 5
  simp at c0 c1 c2 c3 c4 c5
  simp [Instr.loadAt, Instr.sureAddr, loadVar, go_sem, c0, c1, c2, c3, c4, c5]
theorem infoF : (Tryz.prog.info? 25).map (fun i => i.size) = some 6 := by kernel_rfl
theorem st_fq {b : Nat} {k r d v k' r' d' v' : Int} {K C : Value} {po qo : Option Addr} {n c m e : Nat} (h : w.heap[b]? = some (fq k r K d v C)) : (Instr.storeAt 25 (.pointer (some ⟨b, 0, none⟩)) (fv k' r' (.slice po n c) d' v' (.slice qo m e))).run Tryz.prog w = .ok () (w.setRow b #[.int .i64 k', .int .i64 r', .slice po n c, .int .i64 d', .int .i64 v', .slice qo m e]) := by
  simp only [Instr.storeAt, Instr.sureAddr, Sem.run_bind, Sem.run_pure, Result.andThen_ok, run_storeVar_row w b _ 25 _ #[.int .i64 k', .int .i64 r', .slice po n c, .int .i64 d', .int .i64 v', .slice qo m e] h (by rw [infoF]; rfl) rfl (by simp [Value.oneCell'])]
theorem res_fq {tmps : Array Value} {b : Nat} {k r d v : Int} {K C : Value} (hp : tmps.getD 2 undef = .pointer (some ⟨b, 0, none⟩)) (h : w.heap[b]? = some (fq k r K d v C)) : (results Tryz.f5 tmps).run Tryz.prog w = .ok (fv k r K d v C) w := by
  have c := fun j => cell_of_row _ _ j _ _ _ h
  have c0 := c 0; have c1 := c 1; have c2 := c 2; have c3 := c 3; have c4 := c 4; have c5 := c 5
  simp at c0 c1 c2 c3 c4 c5
  have hp' : tmps[2]?.getD undef = .pointer (some ⟨b, 0, none⟩) := by simpa using hp
  simp [results, Tryz.results5, go_sem, hp', c0, c1, c2, c3, c4, c5]
/-- sixty numbers -/
def z60 : Array Value := Array.replicate 60 (.int .i64 0)
abbrev o60 (zs : List Int) : Obj := .cells (zs.map (Value.int .i64)).toArray 45
def l60 : List Int := List.replicate 60 0
theorem l60_eq : (l60.map (Value.int .i64)).toArray = z60 := by kernel_rfl
theorem zero60 (w : World) : (zeroValue 45).run Tryz.prog w = .ok (.agg z60) w := by kernel_rfl
theorem build60 (w : World) : (Instr.build 45 #[]).run Tryz.prog w = .ok (.agg z60) w := by kernel_rfl
theorem info60 : (Tryz.prog.info? 45).map (fun i => i.size) = some 60 := by kernel_rfl
theorem store60 (b : Nat) (w : World) (h : w.heap[b]? = some (.cells z60 45)) : (Instr.storeAt 45 (.pointer (some ⟨b, 0, none⟩)) (.agg z60)).run Tryz.prog w = .ok () (w.setRow b z60) := by
  simp only [Instr.storeAt, Instr.sureAddr, Sem.run_bind, Sem.run_pure, Result.andThen_ok, run_storeVar_row w b _ 45 z60 z60 h (by rw [info60]; simp [z60]) rfl (by kernel_rfl)]

theorem rowset {b : Nat} {cs ds : Array Value} {t : TypeId} (h : St W ((b, .cells cs t) :: L) w) (hb : W.heap.size ≤ b) (hL : ∀ x ∈ L, x.1 ≠ b) : St W ((b, .cells ds t) :: L) (w.setRow b ds) := by
  refine ⟨h.below.trans ⟨rfl, rfl, rfl, by simp [World.setRow], fun k hk => setRow_other w b k ds (by omega)⟩, fun x hx => ?_⟩
  rcases List.mem_cons.1 hx with rfl | hx
  · exact setRow_heap w b cs ds t (0, 0) (h.row (b := b) (o := .cells cs t) (by simp))
  · rw [setRow_other w b x.1 ds (hL x hx)]
    exact h.rows x (List.mem_cons_of_mem _ hx)
theorem below6 {p : Nat} {x0 x1 x2 x3 x4 x5 : Value} {W0 : World} (h : Below W0.heap.size W0 w) (hp : W0.heap.size ≤ p) : Below W0.heap.size W0 ((((((w.setCell ⟨p, 0, none⟩ x0).setCell ⟨p, 1, none⟩ x1).setCell ⟨p, 2, none⟩ x2).setCell ⟨p, 3, none⟩ x3).setCell ⟨p, 4, none⟩ x4).setCell ⟨p, 5, none⟩ x5) :=
  (((((h.setCell (p := ⟨p, 0, none⟩) hp _).setCell (p := ⟨p, 1, none⟩) hp _).setCell (p := ⟨p, 2, none⟩) hp _).setCell (p := ⟨p, 3, none⟩) hp _).setCell (p := ⟨p, 4, none⟩) hp _).setCell (p := ⟨p, 5, none⟩) hp _
theorem own_low {B b j : Nat} {v x : Value} {l : List Int} (h : OwnsI B w v l) (hb : b < B) : OwnsI B (w.setCell ⟨b, j, none⟩ x) v l := by
  obtain ⟨hl, h | ⟨g, cap, cur, hv, hg, hh, h⟩⟩ := h
  · exact ⟨hl, Or.inl h⟩
  · exact ⟨hl, Or.inr ⟨g, cap, cur, hv, hg, by rw [Below.heap_setCell _ _ _ _ (by simp; omega)]; exact hh, h⟩⟩
theorem own_nil (B : Nat) (w : World) : OwnsI B w (.slice none 0 0) [] := ⟨by simp, Or.inl ⟨rfl, rfl⟩⟩
theorem own6 {B p : Nat} {v x0 x1 x2 x3 x4 x5 : Value} {l : List Int} (h : OwnsI B w v l) (hp : p < B) : OwnsI B ((((((w.setCell ⟨p, 0, none⟩ x0).setCell ⟨p, 1, none⟩ x1).setCell ⟨p, 2, none⟩ x2).setCell ⟨p, 3, none⟩ x3).setCell ⟨p, 4, none⟩ x4).setCell ⟨p, 5, none⟩ x5) v l :=
  own_low (own_low (own_low (own_low (own_low (own_low h hp) hp) hp) hp) hp) hp
theorem put1 {b : Nat} {v0 v1 v2 v3 v4 v5 : Value} {t : TypeId} (h : St W ((b, .cells #[v0, v1, v2, v3, v4, v5] t) :: L) w) (hb : W.heap.size ≤ b) (hL : ∀ x ∈ L, x.1 ≠ b) (x : Value) : St W ((b, .cells #[v0, x, v2, v3, v4, v5] t) :: L) (w.setCell ⟨b, 1, none⟩ x) := by
  have := h.put (j := 1) (v := x) hb hL
  simpa only [List.setIfInBounds_toArray, List.set_cons_zero, List.set_cons_succ] using this
theorem put2 {b : Nat} {v0 v1 v2 v3 v4 v5 : Value} {t : TypeId} (h : St W ((b, .cells #[v0, v1, v2, v3, v4, v5] t) :: L) w) (hb : W.heap.size ≤ b) (hL : ∀ x ∈ L, x.1 ≠ b) (x : Value) : St W ((b, .cells #[v0, v1, x, v3, v4, v5] t) :: L) (w.setCell ⟨b, 2, none⟩ x) := by
  have := h.put (j := 2) (v := x) hb hL
  simpa only [List.setIfInBounds_toArray, List.set_cons_zero, List.set_cons_succ] using this
theorem put3 {b : Nat} {v0 v1 v2 v3 v4 v5 : Value} {t : TypeId} (h : St W ((b, .cells #[v0, v1, v2, v3, v4, v5] t) :: L) w) (hb : W.heap.size ≤ b) (hL : ∀ x ∈ L, x.1 ≠ b) (x : Value) : St W ((b, .cells #[v0, v1, v2, x, v4, v5] t) :: L) (w.setCell ⟨b, 3, none⟩ x) := by
  have := h.put (j := 3) (v := x) hb hL
  simpa only [List.setIfInBounds_toArray, List.set_cons_zero, List.set_cons_succ] using this
theorem put4 {b : Nat} {v0 v1 v2 v3 v4 v5 : Value} {t : TypeId} (h : St W ((b, .cells #[v0, v1, v2, v3, v4, v5] t) :: L) w) (hb : W.heap.size ≤ b) (hL : ∀ x ∈ L, x.1 ≠ b) (x : Value) : St W ((b, .cells #[v0, v1, v2, v3, x, v5] t) :: L) (w.setCell ⟨b, 4, none⟩ x) := by
  have := h.put (j := 4) (v := x) hb hL
  simpa only [List.setIfInBounds_toArray, List.set_cons_zero, List.set_cons_succ] using this
theorem put5 {b : Nat} {v0 v1 v2 v3 v4 v5 : Value} {t : TypeId} (h : St W ((b, .cells #[v0, v1, v2, v3, v4, v5] t) :: L) w) (hb : W.heap.size ≤ b) (hL : ∀ x ∈ L, x.1 ≠ b) (x : Value) : St W ((b, .cells #[v0, v1, v2, v3, v4, x] t) :: L) (w.setCell ⟨b, 5, none⟩ x) := by
  have := h.put (j := 5) (v := x) hb hL
  simpa only [List.setIfInBounds_toArray, List.set_cons_zero, List.set_cons_succ] using this
theorem own_row {B p : Nat} {v : Value} {l : List Int} {cs : Array Value} (h : OwnsI B w v l) (hb : p < B) : OwnsI B (w.setRow p cs) v l := by
  obtain ⟨hl, h | ⟨g, cap, cur, hv, hg, hh, h⟩⟩ := h
  · exact ⟨hl, Or.inl h⟩
  · exact ⟨hl, Or.inr ⟨g, cap, cur, hv, hg, by rw [setRow_other w p g cs (by omega)]; exact hh, h⟩⟩
theorem St.swap2 {x y : Nat × Obj} (h : St W (x :: y :: L) w) : St W (y :: x :: L) w := h.sub (by simp; grind)
theorem own_mono {B B' : Nat} {v : Value} {l : List Int} (h : OwnsI B w v l) (hb : B' ≤ B) : OwnsI B' w v l := by
  obtain ⟨hl, h | ⟨g, cap, cur, hv, hg, hh, h⟩⟩ := h
  · exact ⟨hl, Or.inl h⟩
  · exact ⟨hl, Or.inr ⟨g, cap, cur, hv, by omega, hh, h⟩⟩
theorem cm_drop1 {po : Option Addr} {n cap : Nat} {l : List Int} (h : Cm w (.slice po n cap) l) (hn : 1 ≤ n) : Cm w (.slice (po.map fun x => { block := x.block, off := x.off + 1 }) (n - 1) (cap - 1)) (l.drop 1) := by
  obtain ⟨qo, cap', e, h1, h2, h3⟩ := h
  injection e with e1 e2 e3
  subst e1 e3
  refine ⟨_, cap - 1, by rw [List.length_drop, e2], by rw [List.length_drop]; omega, by omega, fun hp => ?_⟩
  obtain ⟨b, off, rfl, hr⟩ := h3 (by omega)
  refine ⟨b, off + 1, rfl, hr.lt, fun i hi => ?_⟩
  have := hr.at' (i + 1) (by rw [List.length_drop] at hi; omega)
  rw [show off + 1 + i = off + (i + 1) by omega, this]
  simp [cg, List.getD, Nat.add_comm]
theorem cm_drop0 {po : Option Addr} {n : Nat} {l : List Int} (h : Cm w (.slice po n 1) l) (hn : 1 ≤ n) : Cm w (.slice po (n - 1) 0) [] := by
  obtain ⟨qo, cap', e, h1, h2, h3⟩ := h
  injection e with e1 e2 e3
  subst e1 e3
  exact ⟨po, 0, by rw [show n - 1 = 0 by omega]; rfl, Nat.le_refl _, by omega, fun hp => absurd hp (Nat.lt_irrefl _)⟩
theorem St_past {B : Nat} (h : St W L w) (hb : Below B w w') (hW : W.heap.size ≤ B) (hL : ∀ x ∈ L, x.1 < B) : St W L w' :=
  ⟨h.below.trans (hb.mono hW), fun x hx => by rw [hb.block x.1 (hL x hx)]; exact h.rows x hx⟩
theorem any_snoc {ks : List Int} {b : Int} (h : ks.any bad = false) (h0 : -4096 ≤ b) (h1 : b ≤ 4096) : (ks ++ [b]).any bad = false := by
  simp only [List.any_append, h, List.any_cons, List.any_nil, Bool.or_false, Bool.false_or]
  simp [bad, wi]; omega
theorem ld_fqK {b : Nat} {k r d v : Int} {K C : Value} (h : w.heap[b]? = some (fq k r K d v C)) : (Instr.loadAt 22 (.pointer (some ⟨b, 2, none⟩))).run Tryz.prog w = .ok K w := by
  have c2 := cell_of_row _ _ 2 _ _ _ h
  simp at c2
  simp [Instr.loadAt, Instr.sureAddr, loadVar, go_sem, c2]
theorem st_fqK {b n c : Nat} {k r d v : Int} {K C : Value} {po : Option Addr} (h : w.heap[b]? = some (fq k r K d v C)) : (Instr.storeAt 22 (.pointer (some ⟨b, 2, none⟩)) (.slice po n c)).run Tryz.prog w = .ok () (w.setCell ⟨b, 2, none⟩ (.slice po n c)) := by
  have c2 := cell_of_row _ _ 2 _ _ _ h
  have f2 := frozen_of_row _ _ 2 _ _ h
  simp at c2
  simp [Instr.storeAt, Instr.sureAddr, storeVar, go_sem, c2, f2]
section
variable {o : Oper} {a : Act} {w : World} {K : Act → World → Prop} {Q : Exit → Act → World → Prop}
theorem wp_int1 {y : Int} (x : Operand) (ho : o.op = .buildSlice 22 1 #[(0, x)]) (hx : a.eval x = .int .i64 y) (h : K (a.put o.dst (.slice (some ⟨w.heap.size, 0, none⟩) 1 1)) (w.alloc (.cells #[.int .i64 y] 3))) : o.wp Tryz.prog a w K Q := by
  obtain ⟨i0, hi, hz0, hz1, hz2⟩ := info_parts Tryz.infoInt
  refine wp_buildSlice 22 3 1 _ ho #[.int .i64 y] i0 (.int .i64 0) Tryz.underlying22 hi hz0 (by rw [hz1]; omega) (by rw [hz1]; omega) ?_ h
  simp only [List.map_toArray, List.map_cons, List.map_nil, hx, hz1]
  first | kernel_rfl | (simp [Instr.fill]; done)
theorem wp_app1 (s x : Operand) (ho : o.op = .call { callee := .builtin .append, args := #[s, x], argTypes := #[22, 22] }) (B k : Nat) (v : Value) (p : List Int) (b : Int)
    (hs : a.eval s = v) (hown : OwnsI B w v p) (hx : a.eval x = .slice (some ⟨k, 0, none⟩) 1 1) (hk : w.cell? ⟨k, 0, none⟩ = some (.int .i64 b)) (hp : p.length < 137438953) (hB : B ≤ w.heap.size)
    (h : ∀ v' w', OwnsI B w' v' (p ++ [b]) → Below B w w' → K (a.put o.dst v') w') : o.wp Tryz.prog a w K Q := by
  obtain ⟨i0, hi, hz0, hz1, hz2⟩ := info_parts Tryz.infoInt
  obtain ⟨v', w', hr, h2, h3, _⟩ := run_append_own (P := Tryz.prog) w B 22 o.type 3 i0 (.int .i64 0) 1 8 Tryz.underlying22 hi hz0 hz1 hz2 rfl (by decide) v _ _ hown ⟨k, 0, none⟩ 1 1 [.int .i64 b] rfl
    (by intro j u hj; match j, hj with
        | 0, hj => simp at hj; subst hj; exact hk
        | j + 1, hj => simp at hj) (by intro u hu; simp at hu; subst hu; rfl) (by unfold maxLen; omega) (by omega) hB
  unfold Oper.wp execOp
  simp only [ho, resolve, invoke, builtin, Sem.run_bind, Sem.run_pure, Result.andThen_ok, List.map_toArray, List.map_cons, List.map_nil, hs, hx, hr]
  refine h v' w' (by simpa [OwnsI] using h2) ((Below.refl B w).grown h3 hB ?_)
  intro k hk
  obtain ⟨_, ⟨rfl, _⟩ | ⟨g, cap, cur, rfl, hg, _⟩⟩ := hown
  · simp [Value.ownBlock] at hk
  · simp [Value.ownBlock] at hk; omega
end
theorem w3j {j : Nat} (h : j < 57) : (0 : Int) ≤ 3 + (j : Int) ∧ 3 + (j : Int) < 60 ∧ (3 + (j : Int)).toNat = 3 + j ∧ wrap64 (3 + (j : Int)) = 3 + (j : Int) ∧ IntKind.i64.wrap (3 + (j : Int)) = 3 + (j : Int) := ⟨by omega, by omega, by omega, wrap_in (by omega), IntWalk.i64_in _ (by omega)⟩
theorem wy2 {y : Int} (h0 : 0 ≤ y) (h1 : y < 9) : wrap64 (y - 2) = y - 2 ∧ IntKind.i64.wrap (y - 2) = y - 2 := ⟨wrap_in (by omega), IntWalk.i64_in _ (by omega)⟩
/-- numbers of 16 bits -/
def N16 (zs : List Int) : Prop := zs.length = 60 ∧ ∀ j, 0 ≤ cg zs j ∧ cg zs j ≤ 65535
theorem cg_rep (m j : Nat) : cg (List.replicate m 0) j = 0 := by
  unfold cg List.getD
  rw [List.getElem?_replicate]
  by_cases h : j < m
  · rw [if_pos h]; rfl
  · rw [if_neg h]; rfl
theorem n16_zero : N16 l60 := ⟨List.length_replicate .., fun j => by unfold l60; rw [cg_rep]; omega⟩
theorem n16_set {zs : List Int} {i : Nat} {x : Int} (h : N16 zs) (h0 : 0 ≤ x) (h1 : x ≤ 65535) : N16 (zs.set i x) := ⟨by simp [h.1], fun j => by
  by_cases hj : i = j
  · subst hj
    by_cases hi : i < zs.length
    · simp [cg, List.getD, hi]; omega
    · rw [List.set_eq_of_length_le (by omega)]; exact h.2 _
  · have : cg (zs.set i x) j = cg zs j := by simp [cg, List.getD, List.getElem?_set_ne hj]
    rw [this]; exact h.2 j⟩
theorem o60_set {b i : Nat} {zs : List Int} {x : Int} {L : List (Nat × Obj)} (h : St W ((b, o60 zs) :: L) w) (hb : W.heap.size ≤ b) (hL : ∀ x ∈ L, x.1 ≠ b) : St W ((b, o60 (zs.set i x)) :: L) (w.setCell ⟨b, i, none⟩ (.int .i64 x)) := by
  have := h.put (j := i) (v := .int .i64 x) hb hL
  rw [List.setIfInBounds_toArray, ← List.map_set] at this
  exact this
theorem o60_cell {b : Nat} {zs : List Int} {L : List (Nat × Obj)} (h : St W L w) (hm : (b, o60 zs) ∈ L) (hz : N16 zs) (i : Nat) (hi : i < 60) : w.cell? ⟨b, i, none⟩ = some (.int .i64 (cg zs i)) ∧ w.frozen? ⟨b, i, none⟩ = false := by
  refine ⟨?_, h.frozen hm i⟩
  rw [h.cell hm i]
  have := hz.1
  simp [cg, List.getD, show i < zs.length by omega]
def GotF (w : World) (e : Ending) (w' : World) : Prop := ∃ (k r d v : Int) (K C : Value) (ks cs : List Int), e = .returned (fv k r K d v C) ∧ Below w.heap.size w w' ∧ Cm w' K ks ∧ Cm w' C cs ∧ vf k r ks d v cs = true
/-- where a slice begins -/
def Hd (v : Value) (l : List Int) : Prop := (v = .slice none 0 0 ∧ l = []) ∨ ∃ g cap, v = .slice (some ⟨g, 0, none⟩) l.length cap
theorem own_head {B : Nat} {v : Value} {l : List Int} (h : OwnsI B w v l) : Hd v l := by
  obtain ⟨_, ⟨h, h0⟩ | ⟨g, cap, cur, rfl, _⟩⟩ := h
  · exact .inl ⟨h, List.length_eq_zero_iff.1 h0⟩
  · exact .inr ⟨g, cap, rfl⟩
def GotF2 (w : World) (e : Ending) (w' : World) : Prop := ∃ (k r d v : Int) (K C : Value) (ks cs : List Int), e = .returned (fv k r K d v C) ∧ Below w.heap.size w w' ∧ Cm w' K ks ∧ Cm w' C cs ∧ vf k r ks d v cs = true ∧ Hd K ks ∧ Hd C cs
set_option maxHeartbeats 8000000 in
theorem made_any2 (l : List Int) (S : Value) (w : World) (hc : Cm w S l) : Calls Tryz.prog 5 #[S] w (GotF2 w) := by
  obtain ⟨po, cap, rfl, ⟨hlc, hcap⟩, hel⟩ := cm_elem hc
  have HL := Lib.hid hel; clear hel
  have HC := Lib.hid hc; clear hc
  obtain ⟨n, hn⟩ : ∃ n, n = l.length := ⟨_, rfl⟩
  rw [← hn] at HL HC hlc ⊢
  have hmax : n ≤ 9223372036854775807 := by omega
  clear hn
  go_enter Tryz.func5, Tryz.ntmps5
  go_upto_region 1 with fail
  have hs := (St.start w).alloc (fq 0 0 (.slice none 0 0) 0 0 (.slice none 0 0))
  have hSz : (w.alloc (fq 0 0 (.slice none 0 0) 0 0 (.slice none 0 0))).heap.size = w.heap.size + 1 := by simp
  generalize w.alloc (fq 0 0 (.slice none 0 0) 0 0 (.slice none 0 0)) = w1 at hs hSz ⊢
  go_upto_region 2 with (first
    | (refine wl_build0 rfl 45 rfl _ (build60 _) ?_)
    | (refine wl_alloc rfl 45 rfl _ (zero60 _) ?_)
    | (refine wl_store rfl 45 _ _ rfl (store60 _ _ (heap_alloc_new _ _)) ?_))
  have hA : w1.heap.size = w.heap.size + 1 := hSz
  have h2 : St w [(w1.heap.size, o60 l60), (w.heap.size, fq 0 0 (.slice none 0 0) 0 0 (.slice none 0 0))] ((w1.alloc (.cells z60 45)).setRow w1.heap.size z60) := by
    have e : o60 l60 = .cells z60 45 := congrArg (fun c => Obj.cells c 45) l60_eq
    have := hs.alloc (.cells z60 45)
    have h3 := rowset this (ds := z60) (by rw [hA]; omega) (by simp; omega)
    rw [e]
    exact h3
  generalize (w1.alloc (.cells z60 45)).setRow w1.heap.size z60 = w2 at h2 ⊢
  clear hs
  generalize w1.heap.size = A at h2 hA ⊢
  generalize hp : w.heap.size = p at h2 hA ⊢
  have HP := Lib.hid hp; clear hp
  have HA := Lib.hid hA; clear hA
  have HS := Lib.hid h2; clear h2
  go_upto_region 3 with fail
  go_loopw [4] (fun v4 wr => ∃ i : Nat, i ≤ 60 ∧ i ≤ n ∧ v4 = .int .i64 i ∧ ∃ zs, Hid (N16 zs) ∧ Hid (St w [(A, o60 zs), (p, fq 0 0 (.slice none 0 0) 0 0 (.slice none 0 0))] wr)) (fun i _ => 60 - (intOf i).toNat)
  case atStart => exact ⟨0, by omega, by omega, rfl, l60, n16_zero, HS⟩
  case round =>
    clear HS
    obtain ⟨i, hi60, hin, rfl, zs, HZ, HS⟩ := hrel
    go_upto_region 3 with fail
    go_cut [15] (fun r wx => r = .bool (decide (i < 60 ∧ i < n)) ∧ wx = wr)
    case first =>
      by_cases h1 : i < 60
      · by_cases h2 : i < n
        · go_wp2_with fail
          go_meet
          exact ⟨by simp [h1, h2], rfl⟩
        · go_wp2_with fail
          go_meet
          exact ⟨by simp [h2], rfl⟩
      · go_wp2_with fail
        go_meet
        exact ⟨by simp [h1], rfl⟩
    case rest =>
    obtain ⟨rfl, rfl⟩ := hcut
    have HW := Lib.hid HS.out.below
    by_cases hlt : i < 60 ∧ i < n
    · rw [decide_eq_true hlt]
      obtain ⟨h1, h2⟩ := hlt
      obtain ⟨b, off, rfl, hcell⟩ := HL.out _ HW.out i h2
      obtain ⟨c1, c2⟩ := o60_cell HS.out (b := A) (by simp) HZ.out i h1
      have hmask : bits .and .i64 (cg l i) 65535 = cg l i % 65536 := i64_mask 16 (by omega) _
      have HY : Hid (0 ≤ cg l i % 65536 ∧ cg l i % 65536 ≤ 65535) := by unfold Hid; omega
      generalize cg l i = x at hcell hmask HY
      generalize x % 65536 = y at hmask HY
      have HT := Lib.hid (o60_set (i := i) (x := y) HS.out (by have := HA.out; have := HP.out; omega) (by have := HA.out; simp; omega))
      have HZ2 := Lib.hid (n16_set (i := i) HZ.out HY.out.1 HY.out.2)
      generalize cg zs i = z at c1
      have q1 : (0 : Int) ≤ i := by omega
      have q2 : (i : Int) < 60 := by omega
      have q3 : (i : Int) < n := by omega
      clear HS HZ
      go_wp2_with fail
      go_roundw
      case rel => exact ⟨i + 1, by omega, by omega, by go_num, _, HZ2, HT⟩
      case measure => simp [intOf]; omega
    · rw [decide_eq_false hlt]
      clear hlt hi60 hin
      go_upto_region 6 with fail
      obtain ⟨c0, _⟩ := o60_cell HS.out (b := A) (by simp) HZ.out 0 (by omega)
      obtain ⟨k', hk'⟩ : ∃ k' : Int, cg zs 0 % 8 = k' := ⟨_, rfl⟩
      have hk8 : (cg zs 0).tmod 8 = k' := by rw [Int.tmod_eq_emod_of_nonneg (HZ.out.2 0).1]; exact hk'
      have hkb : 0 ≤ k' ∧ k' < 8 := by omega
      generalize cg zs 0 = x0 at c0 hk' hk8
      go_upto_region 7 with fail
      obtain ⟨k, hk⟩ : ∃ k : Int, 1 + k' = k := ⟨_, rfl⟩
      rw [hk]
      have hkk : k = 1 ∨ k = 2 ∨ k = 3 ∨ k = 4 ∨ k = 5 ∨ k = 6 ∨ k = 7 ∨ k = 8 := by omega
      clear hk hkb hk' hk8 c0
      have hT := HS.out.alloc (fq k 0 (.slice none 0 0) 0 0 (.slice none 0 0))
      have hFA : A < wc.heap.size := HS.out.lt (b := A) (o := o60 zs) (by simp)
      generalize wc.alloc (fq k 0 (.slice none 0 0) 0 0 (.slice none 0 0)) = w5 at hT ⊢
      generalize wc.heap.size = F at hT hFA ⊢
      clear HS HW
      have hFb : w.heap.size ≤ F := by have := HA.out; have := HP.out; omega
      have hFL : ∀ x ∈ [(A, o60 zs), (p, fq 0 0 (.slice none 0 0) 0 0 (.slice none 0 0))], x.1 ≠ F := by have := HA.out; simp; omega
      obtain ⟨c1, _⟩ := o60_cell hT (b := A) (by simp) HZ.out 1 (by omega)
      obtain ⟨c2, _⟩ := o60_cell hT (b := A) (by simp) HZ.out 2 (by omega)
      have b1 := HZ.out.2 1
      have b2 := HZ.out.2 2
      generalize cg zs 1 = x1 at c1 b1
      generalize cg zs 2 = x2 at c2 b2
      rcases hkk with rfl | rfl | rfl | rfl | rfl | rfl | rfl | rfl
      · as_aux_lemma =>
        have a0 : w5.cell? ⟨F, 0, none⟩ = some (.int .i64 1) := hT.cell (b := F) (cs := #[.int .i64 1, .int .i64 0, .slice none 0 0, .int .i64 0, .int .i64 0, .slice none 0 0]) (t := 25) (by simp) 0
        have f0 := hT.frozen (b := F) (cs := #[.int .i64 1, .int .i64 0, .slice none 0 0, .int .i64 0, .int .i64 0, .slice none 0 0]) (t := 25) (by simp) 0
        have a1 : w5.cell? ⟨F, 1, none⟩ = some (.int .i64 0) := hT.cell (b := F) (cs := #[.int .i64 1, .int .i64 0, .slice none 0 0, .int .i64 0, .int .i64 0, .slice none 0 0]) (t := 25) (by simp) 1
        have f1 := hT.frozen (b := F) (cs := #[.int .i64 1, .int .i64 0, .slice none 0 0, .int .i64 0, .int .i64 0, .slice none 0 0]) (t := 25) (by simp) 1
        have a2 : w5.cell? ⟨F, 2, none⟩ = some (.slice none 0 0) := hT.cell (b := F) (cs := #[.int .i64 1, .int .i64 0, .slice none 0 0, .int .i64 0, .int .i64 0, .slice none 0 0]) (t := 25) (by simp) 2
        have f2 := hT.frozen (b := F) (cs := #[.int .i64 1, .int .i64 0, .slice none 0 0, .int .i64 0, .int .i64 0, .slice none 0 0]) (t := 25) (by simp) 2
        have a3 : w5.cell? ⟨F, 3, none⟩ = some (.int .i64 0) := hT.cell (b := F) (cs := #[.int .i64 1, .int .i64 0, .slice none 0 0, .int .i64 0, .int .i64 0, .slice none 0 0]) (t := 25) (by simp) 3
        have f3 := hT.frozen (b := F) (cs := #[.int .i64 1, .int .i64 0, .slice none 0 0, .int .i64 0, .int .i64 0, .slice none 0 0]) (t := 25) (by simp) 3
        have a4 : w5.cell? ⟨F, 4, none⟩ = some (.int .i64 0) := hT.cell (b := F) (cs := #[.int .i64 1, .int .i64 0, .slice none 0 0, .int .i64 0, .int .i64 0, .slice none 0 0]) (t := 25) (by simp) 4
        have f4 := hT.frozen (b := F) (cs := #[.int .i64 1, .int .i64 0, .slice none 0 0, .int .i64 0, .int .i64 0, .slice none 0 0]) (t := 25) (by simp) 4
        have a5 : w5.cell? ⟨F, 5, none⟩ = some (.slice none 0 0) := hT.cell (b := F) (cs := #[.int .i64 1, .int .i64 0, .slice none 0 0, .int .i64 0, .int .i64 0, .slice none 0 0]) (t := 25) (by simp) 5
        have f5 := hT.frozen (b := F) (cs := #[.int .i64 1, .int .i64 0, .slice none 0 0, .int .i64 0, .int .i64 0, .slice none 0 0]) (t := 25) (by simp) 5
        obtain ⟨r, hr⟩ : ∃ r : Int, x1 % 3 = r := ⟨_, rfl⟩
        have hr2 : x1.tmod 3 = r := by rw [Int.tmod_eq_emod_of_nonneg b1.1]; exact hr
        have hrb : 0 ≤ r ∧ r < 3 := by omega
        obtain ⟨hr0, hr1⟩ := hrb
        obtain ⟨q, hq⟩ : ∃ q : Int, x2 % 20 = q := ⟨_, rfl⟩
        have hq2 : x2.tmod 20 = q := by rw [Int.tmod_eq_emod_of_nonneg b2.1]; exact hq
        have hqb : 0 ≤ q ∧ q < 20 := by omega
        obtain ⟨hq0, hq1⟩ := hqb
        rcases (by omega : r = 0 ∨ r = 1 ∨ r = 2) with rfl | rfl | rfl
        · as_aux_lemma =>
          have hT2 := put3 (put1 hT hFb hFL (.int .i64 0)) hFb hFL (.int .i64 (1 + q))
          clear a2 a4 a5 f0 f2 f4 f5
          go_upto_region 11 with fail
          clear a0 a1 a3 f1 f3 hT hr2 hq2
          generalize (w5.setCell ⟨F, 1, none⟩ (.int .i64 0)).setCell ⟨F, 3, none⟩ (.int .i64 (1 + q)) = w6 at hT2 ⊢
          have HS := Lib.hid hT2; clear hT2 c1 c2
          have HFS : Hid (F + 1 ≤ w6.heap.size) := HS.out.lt (b := F) (o := fq 1 0 (.slice none 0 0) (1 + q) 0 (.slice none 0 0)) (by simp)
          have HFB := Lib.hid (And.intro hFb (And.intro hFL hFA)); clear hFb hFL hFA
          have HQ := Lib.hid (And.intro hq0 hq1); clear hq0 hq1
          go_upto_region 12 with fail
          go_loopw [6] (fun v6 wr => ∃ i : Nat, ∃ ks : List Int, ∃ v : Value, i ≤ 1 ∧ v6 = .int .i64 i ∧ Hid (ks.length = i ∧ ks.any bad = false) ∧ Hid (St w [(F, fq 1 0 v (1 + q) 0 (.slice none 0 0)), (A, o60 zs), (p, fq 0 0 (.slice none 0 0) 0 0 (.slice none 0 0))] wr) ∧ Hid (OwnsI (F + 1) wr v ks) ∧ Hid (F + 1 ≤ wr.heap.size)) (fun i _ => 1 - (intOf i).toNat)
          case atStart => exact ⟨0, [], .slice none 0 0, by omega, rfl, ⟨rfl, rfl⟩, HS, own_nil _ _, HFS⟩
          case round =>
            clear HS HFS
            obtain ⟨j, ks, v, hj, rfl, HL2, HS, HO, HFS⟩ := hrel
            have b1 := HS.out.cell (b := F) (cs := #[.int .i64 1, .int .i64 0, v, .int .i64 (1 + q), .int .i64 0, .slice none 0 0]) (t := 25) (by simp) 1
            have b2 := HS.out.cell (b := F) (cs := #[.int .i64 1, .int .i64 0, v, .int .i64 (1 + q), .int .i64 0, .slice none 0 0]) (t := 25) (by simp) 2
            simp only [List.getElem?_toArray, List.getElem?_cons_succ, List.getElem?_cons_zero] at b1 b2
            rcases Nat.lt_or_ge j 1 with hlt | hge
            · as_aux_lemma =>
              have q1 : (j : Int) < 1 := by omega
              have q2 : (0 : Int) ≤ j := by omega
              obtain ⟨c3, _⟩ := o60_cell HS.out (b := A) (by simp) HZ.out (3 + j) (by omega)
              have hz := HZ.out.2 (3 + j)
              obtain ⟨x, hxc⟩ : ∃ x : Int, cg zs (3 + j) = x := ⟨_, rfl⟩
              rw [hxc] at c3 hz
              obtain ⟨y, hy⟩ : ∃ y : Int, x % 9 = y := ⟨_, rfl⟩
              have hy2 : x.tmod 9 = y := by rw [Int.tmod_eq_emod_of_nonneg hz.1]; exact hy
              have hyb : 0 ≤ y ∧ y < 9 := by omega
              obtain ⟨hy0, hy1⟩ := hyb
              clear hy hz
              obtain ⟨hlen, hany⟩ := HL2.out
              have HLen := Lib.hid hlen
              have HAny := Lib.hid (any_snoc (b := y - 2) hany (by omega) (by omega))
              have hO := HO.out
              obtain ⟨pv, cv, rfl⟩ := hO.slice hlen
              clear hO hany hlen HL2
              have HP2 : Hid (∀ V, Below (F + 1) wr V → St w [(F, fq 1 0 (.slice pv j cv) (1 + q) 0 (.slice none 0 0)), (A, o60 zs), (p, fq 0 0 (.slice none 0 0) 0 0 (.slice none 0 0))] V) := fun V hV => St_past HS.out hV (by have := HFB.out.1; omega) (by have := HFB.out.2.2; have := HA.out; simp; omega)
              have HQS := Lib.hid (w3j (j := j) (Nat.lt_of_lt_of_le hlt (by decide)))
              have HLt := Lib.hid hlt; clear hlt
              have HYS := Lib.hid (wy2 hy0 hy1)
              have HXC := Lib.hid hxc; clear hxc
              go_upto_region 14 with fail
              have s0t := HS.out.drew
              have s0o := HO.out.later (Below.refl _ _).drew
              have H60 : Hid (3 + j < 60) := (by have := HLt.out; unfold Hid; omega)
              have s0 := (o60_cell s0t (b := A) (by simp) HZ.out (3 + j) H60.out).1
              rw [HXC.out] at s0
              refine wp_region_held_drew (S := fun V9 => V9.cell? ⟨A, 3 + j, none⟩ = some (.int .i64 x)) (by kernel_rfl) ?_ (fun hHeld => ?_)
              · exact s0
              refine wpAnyH_take (i := 0) (oi := { dst := some 56, op := Op.fieldAddr 25 (Operand.tmp 5) 2, type := 0, pos := "ref.go:268", after := #[], guard := none }) (v := ?_) rfl (by kernel_rfl) (by kernel_rfl) (by kernel_rfl) (fun _ _ _ h => h) (Or.inl ⟨by kernel_rfl, ?_⟩) (by assumption) ?_
              rotate_left 1
              focus (intro w hSw; (try dsimp only at hSw); go_simp; (try with_reducible rfl))
              try simp only [Act.put, List.setIfInBounds_toArray, List.set_cons_zero, List.set_cons_succ]
              refine wpAnyH_take (i := 2) (oi := { dst := some 58, op := Op.move (Operand.tmp 6), type := 3, pos := "ref.go:268", after := #[], guard := none }) (v := ?_) rfl (by kernel_rfl) (by kernel_rfl) (by kernel_rfl) (fun _ _ _ h => h) (Or.inl ⟨by kernel_rfl, ?_⟩) (by assumption) ?_
              rotate_left 1
              focus (intro w hSw; (try dsimp only at hSw); go_simp; (try with_reducible rfl))
              try simp only [Act.put, List.setIfInBounds_toArray, List.set_cons_zero, List.set_cons_succ]
              refine wpAnyH_take (i := 3) (oi := { dst := some 59, op := Op.binOp BinOp.add 3 (Operand.const (Value.int IntKind.i64 3)) (Operand.tmp 58) 3, type := 3, pos := "ref.go:268", after := #[{ on := 2, ground := Ground.data }], guard := none }) (v := .int .i64 (3 + (j : Int))) rfl (by kernel_rfl) (by kernel_rfl) (by kernel_rfl) (fun _ _ _ h => h) (Or.inl ⟨by kernel_rfl, ?_⟩) (by assumption) ?_
              focus (intro w hSw; (try dsimp only at hSw); go_simp; (first | done | rfl | (obtain ⟨q3, q4, q5, q6, q7⟩ := HQS.out; simp [q6, q7])))
              try simp only [Act.put, List.setIfInBounds_toArray, List.set_cons_zero, List.set_cons_succ]
              refine wpAnyH_take (i := 4) (oi := { dst := some 60, op := Op.indexAddr 45 (Operand.tmp 3) (Operand.tmp 59), type := 0, pos := "ref.go:268", after := #[{ on := 3, ground := Ground.data }], guard := none }) (v := .pointer (some ⟨A, 3 + j, none⟩)) rfl (by kernel_rfl) (by kernel_rfl) (by kernel_rfl) (fun _ _ _ h => h) (Or.inl ⟨by kernel_rfl, ?_⟩) (by assumption) ?_
              focus (intro w hSw; (try dsimp only at hSw); go_simp; (first | done | rfl | (obtain ⟨q3, q4, q5, q6, q7⟩ := HQS.out; simp [q3, q4, q5])))
              try simp only [Act.put, List.setIfInBounds_toArray, List.set_cons_zero, List.set_cons_succ]
              refine wpAnyH_take (i := 5) (oi := { dst := some 61, op := Op.load 3 (Operand.tmp 60), type := 3, pos := "ref.go:268", after := #[{ on := 4, ground := Ground.data }], guard := none }) (v := ?_) rfl (by kernel_rfl) (by kernel_rfl) (by kernel_rfl) (fun _ _ _ h => h) (Or.inl ⟨by kernel_rfl, ?_⟩) (by assumption) ?_
              rotate_left 1
              focus (intro w hSw; (try dsimp only at hSw); go_simp; (try with_reducible rfl))
              try simp only [Act.put, List.setIfInBounds_toArray, List.set_cons_zero, List.set_cons_succ]
              refine wpAnyH_take (i := 6) (oi := { dst := some 62, op := Op.binOp BinOp.rem 3 (Operand.tmp 61) (Operand.const (Value.int IntKind.i64 9)) 3, type := 3, pos := "ref.go:268", after := #[{ on := 5, ground := Ground.data }], guard := none }) (v := ?_) rfl (by kernel_rfl) (by kernel_rfl) (by kernel_rfl) (fun _ _ _ h => h) (Or.inl ⟨by kernel_rfl, ?_⟩) (by assumption) ?_
              rotate_left 1
              focus (intro w hSw; (try dsimp only at hSw); go_simp; (try with_reducible rfl))
              try simp only [Act.put, List.setIfInBounds_toArray, List.set_cons_zero, List.set_cons_succ]
              refine wpAnyH_take (i := 7) (oi := { dst := some 63, op := Op.binOp BinOp.sub 3 (Operand.tmp 62) (Operand.const (Value.int IntKind.i64 2)) 3, type := 3, pos := "ref.go:268", after := #[{ on := 6, ground := Ground.data }], guard := none }) (v := .int .i64 (y - 2)) rfl (by kernel_rfl) (by kernel_rfl) (by kernel_rfl) (fun _ _ _ h => h) (Or.inl ⟨by kernel_rfl, ?_⟩) (by assumption) ?_
              focus (intro w hSw; (try dsimp only at hSw); go_simp; (first | done | rfl | (obtain ⟨q8, q9⟩ := HYS.out; simp [q8, q9])))
              try simp only [Act.put, List.setIfInBounds_toArray, List.set_cons_zero, List.set_cons_succ]
              refine wpAnyH_ready (rs := [1, 8]) (by kernel_rfl) (by simp) (AllReadyH.cons (o := { dst := some 57, op := Op.load 22 (Operand.tmp 56), type := 22, pos := "ref.go:268", after := #[{ on := 0, ground := Ground.data }], guard := none }) rfl (fun K hK => ?_) (AllReadyH.cons (o := { dst := some 64, op := Op.buildSlice 22 1 #[(0, Operand.tmp 63)], type := 22, pos := "ref.go:268", after := #[{ on := 7, ground := Ground.data }], guard := none }) rfl (fun K hK => ?_) AllReadyH.nil))
              · refine wp_load_of 22 (.tmp 56) _ rfl rfl (ld_fqK (s0t.row (b := F) (o := fq 1 0 (.slice pv j cv) (1 + q) 0 (.slice none 0 0)) (by simp))) ?_
                refine hK.out _ _ ?_ (fun hHeld => ?_)
                · (first | exact s0 | exact s0.tl)
                clear hK K
                try simp only [Act.put, List.setIfInBounds_toArray, List.set_cons_zero, List.set_cons_succ]
                refine wpAnyH_ready (rs := [8]) (by kernel_rfl) (by simp) (AllReadyH.cons (o := { dst := some 64, op := Op.buildSlice 22 1 #[(0, Operand.tmp 63)], type := 22, pos := "ref.go:268", after := #[{ on := 7, ground := Ground.data }], guard := none }) rfl (fun K hK => ?_) AllReadyH.nil)
                have s2r14t := s0t.later (below1 (o := .cells #[.int .i64 (y - 2)] 3))
                have s2r14o := s0o.later (below1 (o := .cells #[.int .i64 (y - 2)] 3))
                have s2r14 := (o60_cell s2r14t (b := A) (by simp) HZ.out (3 + j) H60.out).1
                rw [HXC.out] at s2r14
                have s2r14n := cell_alloc wr.drew (.int .i64 (y - 2)) 3
                refine wp_int1 (.tmp 63) rfl rfl ?_
                refine hK.out _ _ ?_ (fun hHeld => ?_)
                · (first | exact s2r14 | exact s2r14.tl)
                clear hK K
                try simp only [Act.put, List.setIfInBounds_toArray, List.set_cons_zero, List.set_cons_succ]
                refine wpAnyH_ready (rs := [9]) (by kernel_rfl) (by simp) (AllReadyH.cons (o := { dst := some 65, op := Op.call { callee := Callee.builtin Builtin.append, args := #[Operand.tmp 57, Operand.tmp 64], argTypes := #[22, 22] }, type := 22, pos := "ref.go:268", after := #[{ on := 1, ground := Ground.data }, { on := 8, ground := Ground.data }], guard := none }) rfl (fun K hK => ?_) AllReadyH.nil)
                refine wp_app1 (.tmp 57) (.tmp 64) rfl (F + 1) _ _ ks (y - 2) rfl s2r14o rfl s2r14n (by rw [HLen.out]; have := HLt.out; omega) (Nat.succ_le_of_lt (s2r14t.lt (b := F) (o := fq 1 0 (.slice pv j cv) (1 + q) 0 (.slice none 0 0)) (by simp))) ?_
                intro v' w7 ho7 hb7
                obtain ⟨pv7, cv7, rfl⟩ := ho7.slice (n := j + 1) (by rw [List.length_append, HLen.out]; rfl)
                have s3r14t := St_past s2r14t hb7 (by have := HFB.out.1; omega) (by have := HFB.out.2.2; have := HA.out; simp; omega)
                have s3r14 := (o60_cell s3r14t (b := A) (by simp) HZ.out (3 + j) H60.out).1
                rw [HXC.out] at s3r14
                have hsz7 : F + 1 ≤ w7.heap.size := Nat.succ_le_of_lt (s3r14t.lt (b := F) (o := fq 1 0 (.slice pv j cv) (1 + q) 0 (.slice none 0 0)) (by simp))
                refine hK.out _ _ ?_ (fun hHeld => ?_)
                · (first | exact s3r14 | exact s3r14.tl)
                clear hK K
                try simp only [Act.put, List.setIfInBounds_toArray, List.set_cons_zero, List.set_cons_succ]
                refine wpAnyH_take (i := 10) (oi := { dst := some 66, op := Op.fieldAddr 25 (Operand.tmp 5) 2, type := 0, pos := "ref.go:268", after := #[{ on := 0, ground := Ground.phase }, { on := 1, ground := Ground.phase }, { on := 2, ground := Ground.phase }, { on := 3, ground := Ground.phase }, { on := 4, ground := Ground.phase }, { on := 5, ground := Ground.phase }, { on := 6, ground := Ground.phase }, { on := 7, ground := Ground.phase }, { on := 8, ground := Ground.phase }, { on := 9, ground := Ground.phase }], guard := none }) (v := ?_) rfl (by kernel_rfl) (by kernel_rfl) (by kernel_rfl) (fun _ _ _ h => h) (Or.inl ⟨by kernel_rfl, ?_⟩) (by assumption) ?_
                rotate_left 1
                focus (intro w hSw; (try dsimp only at hSw); go_simp; (try with_reducible rfl))
                try simp only [Act.put, List.setIfInBounds_toArray, List.set_cons_zero, List.set_cons_succ]
                refine wpAnyH_ready (rs := [11]) (by kernel_rfl) (by simp) (AllReadyH.cons (o := { dst := none, op := Op.store 22 (Operand.tmp 66) (Operand.tmp 65), type := 0, pos := "ref.go:268", after := #[{ on := 10, ground := Ground.data }, { on := 9, ground := Ground.data }, { on := 9, ground := Ground.chain }, { on := 0, ground := Ground.phase }, { on := 1, ground := Ground.phase }, { on := 2, ground := Ground.phase }, { on := 3, ground := Ground.phase }, { on := 4, ground := Ground.phase }, { on := 5, ground := Ground.phase }, { on := 6, ground := Ground.phase }, { on := 7, ground := Ground.phase }, { on := 8, ground := Ground.phase }, { on := 9, ground := Ground.phase }], guard := none }) rfl (fun K hK => ?_) AllReadyH.nil)
                have s4r14t := put2 s3r14t HFB.out.1 HFB.out.2.1 (.slice pv7 (j + 1) cv7)
                have s4r14 := (o60_cell s4r14t (b := A) (by simp) HZ.out (3 + j) H60.out).1
                rw [HXC.out] at s4r14
                refine wp_store_of 22 (.tmp 66) (.tmp 65) rfl rfl rfl (st_fqK (s3r14t.row (b := F) (o := fq 1 0 (.slice pv j cv) (1 + q) 0 (.slice none 0 0)) (by simp))) ?_
                refine hK.out _ _ ?_ (fun hHeld => ?_)
                · (first | exact s4r14 | exact s4r14.tl)
                clear hK K
                try simp only [Act.put, List.setIfInBounds_toArray, List.set_cons_zero, List.set_cons_succ]
                refine wpAnyH_done (by kernel_rfl) ?_ _
                have HTN := Lib.hid s4r14t
                go_wp2_with fail
                go_roundw
                case rel => exact ⟨j + 1, ks ++ [y - 2], .slice pv7 (j + 1) cv7, by have := HLt.out; omega, by go_num, ⟨by rw [List.length_append, HLen.out]; rfl, HAny.out⟩, HTN, own_low ho7 (Nat.lt_succ_self F), by unfold Hid; simp [World.setCell]; exact hsz7⟩
                case measure => have := HLt.out; simp [intOf]; omega
              · have s5r14t := s0t.later (below1 (o := .cells #[.int .i64 (y - 2)] 3))
                have s5r14o := s0o.later (below1 (o := .cells #[.int .i64 (y - 2)] 3))
                have s5r14 := (o60_cell s5r14t (b := A) (by simp) HZ.out (3 + j) H60.out).1
                rw [HXC.out] at s5r14
                have s5r14n := cell_alloc wr.drew (.int .i64 (y - 2)) 3
                refine wp_int1 (.tmp 63) rfl rfl ?_
                refine hK.out _ _ ?_ (fun hHeld => ?_)
                · (first | exact s5r14 | exact s5r14.tl)
                clear hK K
                try simp only [Act.put, List.setIfInBounds_toArray, List.set_cons_zero, List.set_cons_succ]
                refine wpAnyH_ready (rs := [1]) (by kernel_rfl) (by simp) (AllReadyH.cons (o := { dst := some 57, op := Op.load 22 (Operand.tmp 56), type := 22, pos := "ref.go:268", after := #[{ on := 0, ground := Ground.data }], guard := none }) rfl (fun K hK => ?_) AllReadyH.nil)
                refine wp_load_of 22 (.tmp 56) _ rfl rfl (ld_fqK (s5r14t.row (b := F) (o := fq 1 0 (.slice pv j cv) (1 + q) 0 (.slice none 0 0)) (by simp))) ?_
                refine hK.out _ _ ?_ (fun hHeld => ?_)
                · (first | exact s5r14 | exact s5r14.tl)
                clear hK K
                try simp only [Act.put, List.setIfInBounds_toArray, List.set_cons_zero, List.set_cons_succ]
                refine wpAnyH_ready (rs := [9]) (by kernel_rfl) (by simp) (AllReadyH.cons (o := { dst := some 65, op := Op.call { callee := Callee.builtin Builtin.append, args := #[Operand.tmp 57, Operand.tmp 64], argTypes := #[22, 22] }, type := 22, pos := "ref.go:268", after := #[{ on := 1, ground := Ground.data }, { on := 8, ground := Ground.data }], guard := none }) rfl (fun K hK => ?_) AllReadyH.nil)
                refine wp_app1 (.tmp 57) (.tmp 64) rfl (F + 1) _ _ ks (y - 2) rfl s5r14o rfl s5r14n (by rw [HLen.out]; have := HLt.out; omega) (Nat.succ_le_of_lt (s5r14t.lt (b := F) (o := fq 1 0 (.slice pv j cv) (1 + q) 0 (.slice none 0 0)) (by simp))) ?_
                intro v' w7 ho7 hb7
                obtain ⟨pv7, cv7, rfl⟩ := ho7.slice (n := j + 1) (by rw [List.length_append, HLen.out]; rfl)
                have s7r14t := St_past s5r14t hb7 (by have := HFB.out.1; omega) (by have := HFB.out.2.2; have := HA.out; simp; omega)
                have s7r14 := (o60_cell s7r14t (b := A) (by simp) HZ.out (3 + j) H60.out).1
                rw [HXC.out] at s7r14
                have hsz7 : F + 1 ≤ w7.heap.size := Nat.succ_le_of_lt (s7r14t.lt (b := F) (o := fq 1 0 (.slice pv j cv) (1 + q) 0 (.slice none 0 0)) (by simp))
                refine hK.out _ _ ?_ (fun hHeld => ?_)
                · (first | exact s7r14 | exact s7r14.tl)
                clear hK K
                try simp only [Act.put, List.setIfInBounds_toArray, List.set_cons_zero, List.set_cons_succ]
                refine wpAnyH_take (i := 10) (oi := { dst := some 66, op := Op.fieldAddr 25 (Operand.tmp 5) 2, type := 0, pos := "ref.go:268", after := #[{ on := 0, ground := Ground.phase }, { on := 1, ground := Ground.phase }, { on := 2, ground := Ground.phase }, { on := 3, ground := Ground.phase }, { on := 4, ground := Ground.phase }, { on := 5, ground := Ground.phase }, { on := 6, ground := Ground.phase }, { on := 7, ground := Ground.phase }, { on := 8, ground := Ground.phase }, { on := 9, ground := Ground.phase }], guard := none }) (v := ?_) rfl (by kernel_rfl) (by kernel_rfl) (by kernel_rfl) (fun _ _ _ h => h) (Or.inl ⟨by kernel_rfl, ?_⟩) (by assumption) ?_
                rotate_left 1
                focus (intro w hSw; (try dsimp only at hSw); go_simp; (try with_reducible rfl))
                try simp only [Act.put, List.setIfInBounds_toArray, List.set_cons_zero, List.set_cons_succ]
                refine wpAnyH_ready (rs := [11]) (by kernel_rfl) (by simp) (AllReadyH.cons (o := { dst := none, op := Op.store 22 (Operand.tmp 66) (Operand.tmp 65), type := 0, pos := "ref.go:268", after := #[{ on := 10, ground := Ground.data }, { on := 9, ground := Ground.data }, { on := 9, ground := Ground.chain }, { on := 0, ground := Ground.phase }, { on := 1, ground := Ground.phase }, { on := 2, ground := Ground.phase }, { on := 3, ground := Ground.phase }, { on := 4, ground := Ground.phase }, { on := 5, ground := Ground.phase }, { on := 6, ground := Ground.phase }, { on := 7, ground := Ground.phase }, { on := 8, ground := Ground.phase }, { on := 9, ground := Ground.phase }], guard := none }) rfl (fun K hK => ?_) AllReadyH.nil)
                have s8r14t := put2 s7r14t HFB.out.1 HFB.out.2.1 (.slice pv7 (j + 1) cv7)
                have s8r14 := (o60_cell s8r14t (b := A) (by simp) HZ.out (3 + j) H60.out).1
                rw [HXC.out] at s8r14
                refine wp_store_of 22 (.tmp 66) (.tmp 65) rfl rfl rfl (st_fqK (s7r14t.row (b := F) (o := fq 1 0 (.slice pv j cv) (1 + q) 0 (.slice none 0 0)) (by simp))) ?_
                refine hK.out _ _ ?_ (fun hHeld => ?_)
                · (first | exact s8r14 | exact s8r14.tl)
                clear hK K
                try simp only [Act.put, List.setIfInBounds_toArray, List.set_cons_zero, List.set_cons_succ]
                refine wpAnyH_done (by kernel_rfl) ?_ _
                have HTN := Lib.hid s8r14t
                go_wp2_with fail
                go_roundw
                case rel => exact ⟨j + 1, ks ++ [y - 2], .slice pv7 (j + 1) cv7, by have := HLt.out; omega, by go_num, ⟨by rw [List.length_append, HLen.out]; rfl, HAny.out⟩, HTN, own_low ho7 (Nat.lt_succ_self F), by unfold Hid; simp [World.setCell]; exact hsz7⟩
                case measure => have := HLt.out; simp [intOf]; omega
            · as_aux_lemma =>
              obtain rfl : j = 1 := by omega
              obtain ⟨hlen, hany⟩ := HL2.out
              have hO := HO.out
              obtain ⟨pv, cv, rfl⟩ := hO.slice hlen
              obtain ⟨hq0, hq1⟩ := HQ.out
              obtain ⟨cs, hcs⟩ : ∃ cs : List Int, cs = [] := ⟨_, rfl⟩
              have HK := Lib.hid (own_mono (B' := p + 1) hO (by have := HFB.out.2.2; have := HA.out; omega))
              have HCC : Hid (OwnsI (p + 1) wr (.slice none 0 0) cs) := by subst hcs; exact own_nil _ _
              have HV : Hid (vf 1 0 ks (1 + q) 0 cs = true) := by subst hcs; unfold Hid; simp [vf, wi, nof, ik, wsz, hlen, hany]; omega
              clear hcs hq0 hq1 hO hlen hany HL2 HO hge hj
              go_upto_region 26 with fail
              clear b1 b2
              have HT := HS
              have hRF := HT.out.row (b := F) (o := fq (1) (0) (.slice pv 1 cv) (1 + q) (0) (.slice none 0 0)) (by simp)
              have hRP := HT.out.row (b := p) (o := fq 0 0 (.slice none 0 0) 0 0 (.slice none 0 0)) (by simp)
              have HB := Lib.hid HT.out.below
              clear HT HS
              go_wp2_with (first
                | (refine wl_load rfl 25 _ rfl (ld_fq hRF) ?_)
                | (refine wl_store rfl 25 _ _ rfl (st_fq hRP) ?_))
              exact bodyPost_ret (res_fq rfl (setRow_heap _ _ _ _ _ (0, 0) hRP)) rfl ⟨_, _, _, _, _, _, ks, cs, rfl, HB.out.trans ⟨rfl, rfl, rfl, by simp [World.setRow], fun k hk => setRow_other _ _ _ _ (by have := HP.out; omega)⟩, (own_row HK.out (Nat.lt_succ_self p)).cm, (own_row HCC.out (Nat.lt_succ_self p)).cm, HV.out, own_head HK.out, own_head HCC.out⟩
        · as_aux_lemma =>
          have hT2 := put3 (put1 hT hFb hFL (.int .i64 1)) hFb hFL (.int .i64 (1 + q))
          clear a2 a4 a5 f0 f2 f4 f5
          go_upto_region 11 with fail
          clear a0 a1 a3 f1 f3 hT hr2 hq2
          generalize (w5.setCell ⟨F, 1, none⟩ (.int .i64 1)).setCell ⟨F, 3, none⟩ (.int .i64 (1 + q)) = w6 at hT2 ⊢
          have HS := Lib.hid hT2; clear hT2 c1 c2
          have HFS : Hid (F + 1 ≤ w6.heap.size) := HS.out.lt (b := F) (o := fq 1 1 (.slice none 0 0) (1 + q) 0 (.slice none 0 0)) (by simp)
          have HFB := Lib.hid (And.intro hFb (And.intro hFL hFA)); clear hFb hFL hFA
          have HQ := Lib.hid (And.intro hq0 hq1); clear hq0 hq1
          go_upto_region 12 with fail
          go_loopw [6] (fun v6 wr => ∃ i : Nat, ∃ ks : List Int, ∃ v : Value, i ≤ 9 ∧ v6 = .int .i64 i ∧ Hid (ks.length = i ∧ ks.any bad = false) ∧ Hid (St w [(F, fq 1 1 v (1 + q) 0 (.slice none 0 0)), (A, o60 zs), (p, fq 0 0 (.slice none 0 0) 0 0 (.slice none 0 0))] wr) ∧ Hid (OwnsI (F + 1) wr v ks) ∧ Hid (F + 1 ≤ wr.heap.size)) (fun i _ => 9 - (intOf i).toNat)
          case atStart => exact ⟨0, [], .slice none 0 0, by omega, rfl, ⟨rfl, rfl⟩, HS, own_nil _ _, HFS⟩
          case round =>
            clear HS HFS
            obtain ⟨j, ks, v, hj, rfl, HL2, HS, HO, HFS⟩ := hrel
            have b1 := HS.out.cell (b := F) (cs := #[.int .i64 1, .int .i64 1, v, .int .i64 (1 + q), .int .i64 0, .slice none 0 0]) (t := 25) (by simp) 1
            have b2 := HS.out.cell (b := F) (cs := #[.int .i64 1, .int .i64 1, v, .int .i64 (1 + q), .int .i64 0, .slice none 0 0]) (t := 25) (by simp) 2
            simp only [List.getElem?_toArray, List.getElem?_cons_succ, List.getElem?_cons_zero] at b1 b2
            rcases Nat.lt_or_ge j 9 with hlt | hge
            · as_aux_lemma =>
              have q1 : (j : Int) < 9 := by omega
              have q2 : (0 : Int) ≤ j := by omega
              obtain ⟨c3, _⟩ := o60_cell HS.out (b := A) (by simp) HZ.out (3 + j) (by omega)
              have hz := HZ.out.2 (3 + j)
              obtain ⟨x, hxc⟩ : ∃ x : Int, cg zs (3 + j) = x := ⟨_, rfl⟩
              rw [hxc] at c3 hz
              obtain ⟨y, hy⟩ : ∃ y : Int, x % 9 = y := ⟨_, rfl⟩
              have hy2 : x.tmod 9 = y := by rw [Int.tmod_eq_emod_of_nonneg hz.1]; exact hy
              have hyb : 0 ≤ y ∧ y < 9 := by omega
              obtain ⟨hy0, hy1⟩ := hyb
              clear hy hz
              obtain ⟨hlen, hany⟩ := HL2.out
              have HLen := Lib.hid hlen
              have HAny := Lib.hid (any_snoc (b := y - 2) hany (by omega) (by omega))
              have hO := HO.out
              obtain ⟨pv, cv, rfl⟩ := hO.slice hlen
              clear hO hany hlen HL2
              have HP2 : Hid (∀ V, Below (F + 1) wr V → St w [(F, fq 1 1 (.slice pv j cv) (1 + q) 0 (.slice none 0 0)), (A, o60 zs), (p, fq 0 0 (.slice none 0 0) 0 0 (.slice none 0 0))] V) := fun V hV => St_past HS.out hV (by have := HFB.out.1; omega) (by have := HFB.out.2.2; have := HA.out; simp; omega)
              have HQS := Lib.hid (w3j (j := j) (Nat.lt_of_lt_of_le hlt (by decide)))
              have HLt := Lib.hid hlt; clear hlt
              have HYS := Lib.hid (wy2 hy0 hy1)
              have HXC := Lib.hid hxc; clear hxc
              go_upto_region 14 with fail
              have s0t := HS.out.drew
              have s0o := HO.out.later (Below.refl _ _).drew
              have H60 : Hid (3 + j < 60) := (by have := HLt.out; unfold Hid; omega)
              have s0 := (o60_cell s0t (b := A) (by simp) HZ.out (3 + j) H60.out).1
              rw [HXC.out] at s0
              refine wp_region_held_drew (S := fun V9 => V9.cell? ⟨A, 3 + j, none⟩ = some (.int .i64 x)) (by kernel_rfl) ?_ (fun hHeld => ?_)
              · exact s0
              refine wpAnyH_take (i := 0) (oi := { dst := some 56, op := Op.fieldAddr 25 (Operand.tmp 5) 2, type := 0, pos := "ref.go:268", after := #[], guard := none }) (v := ?_) rfl (by kernel_rfl) (by kernel_rfl) (by kernel_rfl) (fun _ _ _ h => h) (Or.inl ⟨by kernel_rfl, ?_⟩) (by assumption) ?_
              rotate_left 1
              focus (intro w hSw; (try dsimp only at hSw); go_simp; (try with_reducible rfl))
              try simp only [Act.put, List.setIfInBounds_toArray, List.set_cons_zero, List.set_cons_succ]
              refine wpAnyH_take (i := 2) (oi := { dst := some 58, op := Op.move (Operand.tmp 6), type := 3, pos := "ref.go:268", after := #[], guard := none }) (v := ?_) rfl (by kernel_rfl) (by kernel_rfl) (by kernel_rfl) (fun _ _ _ h => h) (Or.inl ⟨by kernel_rfl, ?_⟩) (by assumption) ?_
              rotate_left 1
              focus (intro w hSw; (try dsimp only at hSw); go_simp; (try with_reducible rfl))
              try simp only [Act.put, List.setIfInBounds_toArray, List.set_cons_zero, List.set_cons_succ]
              refine wpAnyH_take (i := 3) (oi := { dst := some 59, op := Op.binOp BinOp.add 3 (Operand.const (Value.int IntKind.i64 3)) (Operand.tmp 58) 3, type := 3, pos := "ref.go:268", after := #[{ on := 2, ground := Ground.data }], guard := none }) (v := .int .i64 (3 + (j : Int))) rfl (by kernel_rfl) (by kernel_rfl) (by kernel_rfl) (fun _ _ _ h => h) (Or.inl ⟨by kernel_rfl, ?_⟩) (by assumption) ?_
              focus (intro w hSw; (try dsimp only at hSw); go_simp; (first | done | rfl | (obtain ⟨q3, q4, q5, q6, q7⟩ := HQS.out; simp [q6, q7])))
              try simp only [Act.put, List.setIfInBounds_toArray, List.set_cons_zero, List.set_cons_succ]
              refine wpAnyH_take (i := 4) (oi := { dst := some 60, op := Op.indexAddr 45 (Operand.tmp 3) (Operand.tmp 59), type := 0, pos := "ref.go:268", after := #[{ on := 3, ground := Ground.data }], guard := none }) (v := .pointer (some ⟨A, 3 + j, none⟩)) rfl (by kernel_rfl) (by kernel_rfl) (by kernel_rfl) (fun _ _ _ h => h) (Or.inl ⟨by kernel_rfl, ?_⟩) (by assumption) ?_
              focus (intro w hSw; (try dsimp only at hSw); go_simp; (first | done | rfl | (obtain ⟨q3, q4, q5, q6, q7⟩ := HQS.out; simp [q3, q4, q5])))
              try simp only [Act.put, List.setIfInBounds_toArray, List.set_cons_zero, List.set_cons_succ]
              refine wpAnyH_take (i := 5) (oi := { dst := some 61, op := Op.load 3 (Operand.tmp 60), type := 3, pos := "ref.go:268", after := #[{ on := 4, ground := Ground.data }], guard := none }) (v := ?_) rfl (by kernel_rfl) (by kernel_rfl) (by kernel_rfl) (fun _ _ _ h => h) (Or.inl ⟨by kernel_rfl, ?_⟩) (by assumption) ?_
              rotate_left 1
              focus (intro w hSw; (try dsimp only at hSw); go_simp; (try with_reducible rfl))
              try simp only [Act.put, List.setIfInBounds_toArray, List.set_cons_zero, List.set_cons_succ]
              refine wpAnyH_take (i := 6) (oi := { dst := some 62, op := Op.binOp BinOp.rem 3 (Operand.tmp 61) (Operand.const (Value.int IntKind.i64 9)) 3, type := 3, pos := "ref.go:268", after := #[{ on := 5, ground := Ground.data }], guard := none }) (v := ?_) rfl (by kernel_rfl) (by kernel_rfl) (by kernel_rfl) (fun _ _ _ h => h) (Or.inl ⟨by kernel_rfl, ?_⟩) (by assumption) ?_
              rotate_left 1
              focus (intro w hSw; (try dsimp only at hSw); go_simp; (try with_reducible rfl))
              try simp only [Act.put, List.setIfInBounds_toArray, List.set_cons_zero, List.set_cons_succ]
              refine wpAnyH_take (i := 7) (oi := { dst := some 63, op := Op.binOp BinOp.sub 3 (Operand.tmp 62) (Operand.const (Value.int IntKind.i64 2)) 3, type := 3, pos := "ref.go:268", after := #[{ on := 6, ground := Ground.data }], guard := none }) (v := .int .i64 (y - 2)) rfl (by kernel_rfl) (by kernel_rfl) (by kernel_rfl) (fun _ _ _ h => h) (Or.inl ⟨by kernel_rfl, ?_⟩) (by assumption) ?_
              focus (intro w hSw; (try dsimp only at hSw); go_simp; (first | done | rfl | (obtain ⟨q8, q9⟩ := HYS.out; simp [q8, q9])))
              try simp only [Act.put, List.setIfInBounds_toArray, List.set_cons_zero, List.set_cons_succ]
              refine wpAnyH_ready (rs := [1, 8]) (by kernel_rfl) (by simp) (AllReadyH.cons (o := { dst := some 57, op := Op.load 22 (Operand.tmp 56), type := 22, pos := "ref.go:268", after := #[{ on := 0, ground := Ground.data }], guard := none }) rfl (fun K hK => ?_) (AllReadyH.cons (o := { dst := some 64, op := Op.buildSlice 22 1 #[(0, Operand.tmp 63)], type := 22, pos := "ref.go:268", after := #[{ on := 7, ground := Ground.data }], guard := none }) rfl (fun K hK => ?_) AllReadyH.nil))
              · refine wp_load_of 22 (.tmp 56) _ rfl rfl (ld_fqK (s0t.row (b := F) (o := fq 1 1 (.slice pv j cv) (1 + q) 0 (.slice none 0 0)) (by simp))) ?_
                refine hK.out _ _ ?_ (fun hHeld => ?_)
                · (first | exact s0 | exact s0.tl)
                clear hK K
                try simp only [Act.put, List.setIfInBounds_toArray, List.set_cons_zero, List.set_cons_succ]
                refine wpAnyH_ready (rs := [8]) (by kernel_rfl) (by simp) (AllReadyH.cons (o := { dst := some 64, op := Op.buildSlice 22 1 #[(0, Operand.tmp 63)], type := 22, pos := "ref.go:268", after := #[{ on := 7, ground := Ground.data }], guard := none }) rfl (fun K hK => ?_) AllReadyH.nil)
                have s2r14t := s0t.later (below1 (o := .cells #[.int .i64 (y - 2)] 3))
                have s2r14o := s0o.later (below1 (o := .cells #[.int .i64 (y - 2)] 3))
                have s2r14 := (o60_cell s2r14t (b := A) (by simp) HZ.out (3 + j) H60.out).1
                rw [HXC.out] at s2r14
                have s2r14n := cell_alloc wr.drew (.int .i64 (y - 2)) 3
                refine wp_int1 (.tmp 63) rfl rfl ?_
                refine hK.out _ _ ?_ (fun hHeld => ?_)
                · (first | exact s2r14 | exact s2r14.tl)
                clear hK K
                try simp only [Act.put, List.setIfInBounds_toArray, List.set_cons_zero, List.set_cons_succ]
                refine wpAnyH_ready (rs := [9]) (by kernel_rfl) (by simp) (AllReadyH.cons (o := { dst := some 65, op := Op.call { callee := Callee.builtin Builtin.append, args := #[Operand.tmp 57, Operand.tmp 64], argTypes := #[22, 22] }, type := 22, pos := "ref.go:268", after := #[{ on := 1, ground := Ground.data }, { on := 8, ground := Ground.data }], guard := none }) rfl (fun K hK => ?_) AllReadyH.nil)
                refine wp_app1 (.tmp 57) (.tmp 64) rfl (F + 1) _ _ ks (y - 2) rfl s2r14o rfl s2r14n (by rw [HLen.out]; have := HLt.out; omega) (Nat.succ_le_of_lt (s2r14t.lt (b := F) (o := fq 1 1 (.slice pv j cv) (1 + q) 0 (.slice none 0 0)) (by simp))) ?_
                intro v' w7 ho7 hb7
                obtain ⟨pv7, cv7, rfl⟩ := ho7.slice (n := j + 1) (by rw [List.length_append, HLen.out]; rfl)
                have s3r14t := St_past s2r14t hb7 (by have := HFB.out.1; omega) (by have := HFB.out.2.2; have := HA.out; simp; omega)
                have s3r14 := (o60_cell s3r14t (b := A) (by simp) HZ.out (3 + j) H60.out).1
                rw [HXC.out] at s3r14
                have hsz7 : F + 1 ≤ w7.heap.size := Nat.succ_le_of_lt (s3r14t.lt (b := F) (o := fq 1 1 (.slice pv j cv) (1 + q) 0 (.slice none 0 0)) (by simp))
                refine hK.out _ _ ?_ (fun hHeld => ?_)
                · (first | exact s3r14 | exact s3r14.tl)
                clear hK K
                try simp only [Act.put, List.setIfInBounds_toArray, List.set_cons_zero, List.set_cons_succ]
                refine wpAnyH_take (i := 10) (oi := { dst := some 66, op := Op.fieldAddr 25 (Operand.tmp 5) 2, type := 0, pos := "ref.go:268", after := #[{ on := 0, ground := Ground.phase }, { on := 1, ground := Ground.phase }, { on := 2, ground := Ground.phase }, { on := 3, ground := Ground.phase }, { on := 4, ground := Ground.phase }, { on := 5, ground := Ground.phase }, { on := 6, ground := Ground.phase }, { on := 7, ground := Ground.phase }, { on := 8, ground := Ground.phase }, { on := 9, ground := Ground.phase }], guard := none }) (v := ?_) rfl (by kernel_rfl) (by kernel_rfl) (by kernel_rfl) (fun _ _ _ h => h) (Or.inl ⟨by kernel_rfl, ?_⟩) (by assumption) ?_
                rotate_left 1
                focus (intro w hSw; (try dsimp only at hSw); go_simp; (try with_reducible rfl))
                try simp only [Act.put, List.setIfInBounds_toArray, List.set_cons_zero, List.set_cons_succ]
                refine wpAnyH_ready (rs := [11]) (by kernel_rfl) (by simp) (AllReadyH.cons (o := { dst := none, op := Op.store 22 (Operand.tmp 66) (Operand.tmp 65), type := 0, pos := "ref.go:268", after := #[{ on := 10, ground := Ground.data }, { on := 9, ground := Ground.data }, { on := 9, ground := Ground.chain }, { on := 0, ground := Ground.phase }, { on := 1, ground := Ground.phase }, { on := 2, ground := Ground.phase }, { on := 3, ground := Ground.phase }, { on := 4, ground := Ground.phase }, { on := 5, ground := Ground.phase }, { on := 6, ground := Ground.phase }, { on := 7, ground := Ground.phase }, { on := 8, ground := Ground.phase }, { on := 9, ground := Ground.phase }], guard := none }) rfl (fun K hK => ?_) AllReadyH.nil)
                have s4r14t := put2 s3r14t HFB.out.1 HFB.out.2.1 (.slice pv7 (j + 1) cv7)
                have s4r14 := (o60_cell s4r14t (b := A) (by simp) HZ.out (3 + j) H60.out).1
                rw [HXC.out] at s4r14
                refine wp_store_of 22 (.tmp 66) (.tmp 65) rfl rfl rfl (st_fqK (s3r14t.row (b := F) (o := fq 1 1 (.slice pv j cv) (1 + q) 0 (.slice none 0 0)) (by simp))) ?_
                refine hK.out _ _ ?_ (fun hHeld => ?_)
                · (first | exact s4r14 | exact s4r14.tl)
                clear hK K
                try simp only [Act.put, List.setIfInBounds_toArray, List.set_cons_zero, List.set_cons_succ]
                refine wpAnyH_done (by kernel_rfl) ?_ _
                have HTN := Lib.hid s4r14t
                go_wp2_with fail
                go_roundw
                case rel => exact ⟨j + 1, ks ++ [y - 2], .slice pv7 (j + 1) cv7, by have := HLt.out; omega, by go_num, ⟨by rw [List.length_append, HLen.out]; rfl, HAny.out⟩, HTN, own_low ho7 (Nat.lt_succ_self F), by unfold Hid; simp [World.setCell]; exact hsz7⟩
                case measure => have := HLt.out; simp [intOf]; omega
              · have s5r14t := s0t.later (below1 (o := .cells #[.int .i64 (y - 2)] 3))
                have s5r14o := s0o.later (below1 (o := .cells #[.int .i64 (y - 2)] 3))
                have s5r14 := (o60_cell s5r14t (b := A) (by simp) HZ.out (3 + j) H60.out).1
                rw [HXC.out] at s5r14
                have s5r14n := cell_alloc wr.drew (.int .i64 (y - 2)) 3
                refine wp_int1 (.tmp 63) rfl rfl ?_
                refine hK.out _ _ ?_ (fun hHeld => ?_)
                · (first | exact s5r14 | exact s5r14.tl)
                clear hK K
                try simp only [Act.put, List.setIfInBounds_toArray, List.set_cons_zero, List.set_cons_succ]
                refine wpAnyH_ready (rs := [1]) (by kernel_rfl) (by simp) (AllReadyH.cons (o := { dst := some 57, op := Op.load 22 (Operand.tmp 56), type := 22, pos := "ref.go:268", after := #[{ on := 0, ground := Ground.data }], guard := none }) rfl (fun K hK => ?_) AllReadyH.nil)
                refine wp_load_of 22 (.tmp 56) _ rfl rfl (ld_fqK (s5r14t.row (b := F) (o := fq 1 1 (.slice pv j cv) (1 + q) 0 (.slice none 0 0)) (by simp))) ?_
                refine hK.out _ _ ?_ (fun hHeld => ?_)
                · (first | exact s5r14 | exact s5r14.tl)
                clear hK K
                try simp only [Act.put, List.setIfInBounds_toArray, List.set_cons_zero, List.set_cons_succ]
                refine wpAnyH_ready (rs := [9]) (by kernel_rfl) (by simp) (AllReadyH.cons (o := { dst := some 65, op := Op.call { callee := Callee.builtin Builtin.append, args := #[Operand.tmp 57, Operand.tmp 64], argTypes := #[22, 22] }, type := 22, pos := "ref.go:268", after := #[{ on := 1, ground := Ground.data }, { on := 8, ground := Ground.data }], guard := none }) rfl (fun K hK => ?_) AllReadyH.nil)
                refine wp_app1 (.tmp 57) (.tmp 64) rfl (F + 1) _ _ ks (y - 2) rfl s5r14o rfl s5r14n (by rw [HLen.out]; have := HLt.out; omega) (Nat.succ_le_of_lt (s5r14t.lt (b := F) (o := fq 1 1 (.slice pv j cv) (1 + q) 0 (.slice none 0 0)) (by simp))) ?_
                intro v' w7 ho7 hb7
                obtain ⟨pv7, cv7, rfl⟩ := ho7.slice (n := j + 1) (by rw [List.length_append, HLen.out]; rfl)
                have s7r14t := St_past s5r14t hb7 (by have := HFB.out.1; omega) (by have := HFB.out.2.2; have := HA.out; simp; omega)
                have s7r14 := (o60_cell s7r14t (b := A) (by simp) HZ.out (3 + j) H60.out).1
                rw [HXC.out] at s7r14
                have hsz7 : F + 1 ≤ w7.heap.size := Nat.succ_le_of_lt (s7r14t.lt (b := F) (o := fq 1 1 (.slice pv j cv) (1 + q) 0 (.slice none 0 0)) (by simp))
                refine hK.out _ _ ?_ (fun hHeld => ?_)
                · (first | exact s7r14 | exact s7r14.tl)
                clear hK K
                try simp only [Act.put, List.setIfInBounds_toArray, List.set_cons_zero, List.set_cons_succ]
                refine wpAnyH_take (i := 10) (oi := { dst := some 66, op := Op.fieldAddr 25 (Operand.tmp 5) 2, type := 0, pos := "ref.go:268", after := #[{ on := 0, ground := Ground.phase }, { on := 1, ground := Ground.phase }, { on := 2, ground := Ground.phase }, { on := 3, ground := Ground.phase }, { on := 4, ground := Ground.phase }, { on := 5, ground := Ground.phase }, { on := 6, ground := Ground.phase }, { on := 7, ground := Ground.phase }, { on := 8, ground := Ground.phase }, { on := 9, ground := Ground.phase }], guard := none }) (v := ?_) rfl (by kernel_rfl) (by kernel_rfl) (by kernel_rfl) (fun _ _ _ h => h) (Or.inl ⟨by kernel_rfl, ?_⟩) (by assumption) ?_
                rotate_left 1
                focus (intro w hSw; (try dsimp only at hSw); go_simp; (try with_reducible rfl))
                try simp only [Act.put, List.setIfInBounds_toArray, List.set_cons_zero, List.set_cons_succ]
                refine wpAnyH_ready (rs := [11]) (by kernel_rfl) (by simp) (AllReadyH.cons (o := { dst := none, op := Op.store 22 (Operand.tmp 66) (Operand.tmp 65), type := 0, pos := "ref.go:268", after := #[{ on := 10, ground := Ground.data }, { on := 9, ground := Ground.data }, { on := 9, ground := Ground.chain }, { on := 0, ground := Ground.phase }, { on := 1, ground := Ground.phase }, { on := 2, ground := Ground.phase }, { on := 3, ground := Ground.phase }, { on := 4, ground := Ground.phase }, { on := 5, ground := Ground.phase }, { on := 6, ground := Ground.phase }, { on := 7, ground := Ground.phase }, { on := 8, ground := Ground.phase }, { on := 9, ground := Ground.phase }], guard := none }) rfl (fun K hK => ?_) AllReadyH.nil)
                have s8r14t := put2 s7r14t HFB.out.1 HFB.out.2.1 (.slice pv7 (j + 1) cv7)
                have s8r14 := (o60_cell s8r14t (b := A) (by simp) HZ.out (3 + j) H60.out).1
                rw [HXC.out] at s8r14
                refine wp_store_of 22 (.tmp 66) (.tmp 65) rfl rfl rfl (st_fqK (s7r14t.row (b := F) (o := fq 1 1 (.slice pv j cv) (1 + q) 0 (.slice none 0 0)) (by simp))) ?_
                refine hK.out _ _ ?_ (fun hHeld => ?_)
                · (first | exact s8r14 | exact s8r14.tl)
                clear hK K
                try simp only [Act.put, List.setIfInBounds_toArray, List.set_cons_zero, List.set_cons_succ]
                refine wpAnyH_done (by kernel_rfl) ?_ _
                have HTN := Lib.hid s8r14t
                go_wp2_with fail
                go_roundw
                case rel => exact ⟨j + 1, ks ++ [y - 2], .slice pv7 (j + 1) cv7, by have := HLt.out; omega, by go_num, ⟨by rw [List.length_append, HLen.out]; rfl, HAny.out⟩, HTN, own_low ho7 (Nat.lt_succ_self F), by unfold Hid; simp [World.setCell]; exact hsz7⟩
                case measure => have := HLt.out; simp [intOf]; omega
            · as_aux_lemma =>
              obtain rfl : j = 9 := by omega
              obtain ⟨hlen, hany⟩ := HL2.out
              have hO := HO.out
              obtain ⟨pv, cv, rfl⟩ := hO.slice hlen
              obtain ⟨hq0, hq1⟩ := HQ.out
              obtain ⟨cs, hcs⟩ : ∃ cs : List Int, cs = [] := ⟨_, rfl⟩
              have HK := Lib.hid (own_mono (B' := p + 1) hO (by have := HFB.out.2.2; have := HA.out; omega))
              have HCC : Hid (OwnsI (p + 1) wr (.slice none 0 0) cs) := by subst hcs; exact own_nil _ _
              have HV : Hid (vf 1 1 ks (1 + q) 0 cs = true) := by subst hcs; unfold Hid; simp [vf, wi, nof, ik, wsz, hlen, hany]; omega
              clear hcs hq0 hq1 hO hlen hany HL2 HO hge hj
              go_upto_region 26 with fail
              clear b1 b2
              have HT := HS
              have hRF := HT.out.row (b := F) (o := fq (1) (1) (.slice pv 9 cv) (1 + q) (0) (.slice none 0 0)) (by simp)
              have hRP := HT.out.row (b := p) (o := fq 0 0 (.slice none 0 0) 0 0 (.slice none 0 0)) (by simp)
              have HB := Lib.hid HT.out.below
              clear HT HS
              go_wp2_with (first
                | (refine wl_load rfl 25 _ rfl (ld_fq hRF) ?_)
                | (refine wl_store rfl 25 _ _ rfl (st_fq hRP) ?_))
              exact bodyPost_ret (res_fq rfl (setRow_heap _ _ _ _ _ (0, 0) hRP)) rfl ⟨_, _, _, _, _, _, ks, cs, rfl, HB.out.trans ⟨rfl, rfl, rfl, by simp [World.setRow], fun k hk => setRow_other _ _ _ _ (by have := HP.out; omega)⟩, (own_row HK.out (Nat.lt_succ_self p)).cm, (own_row HCC.out (Nat.lt_succ_self p)).cm, HV.out, own_head HK.out, own_head HCC.out⟩
        · as_aux_lemma =>
          have hT2 := put3 (put1 hT hFb hFL (.int .i64 2)) hFb hFL (.int .i64 (1 + q))
          clear a2 a4 a5 f0 f2 f4 f5
          go_upto_region 11 with fail
          clear a0 a1 a3 f1 f3 hT hr2 hq2
          generalize (w5.setCell ⟨F, 1, none⟩ (.int .i64 2)).setCell ⟨F, 3, none⟩ (.int .i64 (1 + q)) = w6 at hT2 ⊢
          have HS := Lib.hid hT2; clear hT2 c1 c2
          have HFS : Hid (F + 1 ≤ w6.heap.size) := HS.out.lt (b := F) (o := fq 1 2 (.slice none 0 0) (1 + q) 0 (.slice none 0 0)) (by simp)
          have HFB := Lib.hid (And.intro hFb (And.intro hFL hFA)); clear hFb hFL hFA
          have HQ := Lib.hid (And.intro hq0 hq1); clear hq0 hq1
          go_upto_region 12 with fail
          go_loopw [6] (fun v6 wr => ∃ i : Nat, ∃ ks : List Int, ∃ v : Value, i ≤ 25 ∧ v6 = .int .i64 i ∧ Hid (ks.length = i ∧ ks.any bad = false) ∧ Hid (St w [(F, fq 1 2 v (1 + q) 0 (.slice none 0 0)), (A, o60 zs), (p, fq 0 0 (.slice none 0 0) 0 0 (.slice none 0 0))] wr) ∧ Hid (OwnsI (F + 1) wr v ks) ∧ Hid (F + 1 ≤ wr.heap.size)) (fun i _ => 25 - (intOf i).toNat)
          case atStart => exact ⟨0, [], .slice none 0 0, by omega, rfl, ⟨rfl, rfl⟩, HS, own_nil _ _, HFS⟩
          case round =>
            clear HS HFS
            obtain ⟨j, ks, v, hj, rfl, HL2, HS, HO, HFS⟩ := hrel
            have b1 := HS.out.cell (b := F) (cs := #[.int .i64 1, .int .i64 2, v, .int .i64 (1 + q), .int .i64 0, .slice none 0 0]) (t := 25) (by simp) 1
            have b2 := HS.out.cell (b := F) (cs := #[.int .i64 1, .int .i64 2, v, .int .i64 (1 + q), .int .i64 0, .slice none 0 0]) (t := 25) (by simp) 2
            simp only [List.getElem?_toArray, List.getElem?_cons_succ, List.getElem?_cons_zero] at b1 b2
            rcases Nat.lt_or_ge j 25 with hlt | hge
            · as_aux_lemma =>
              have q1 : (j : Int) < 25 := by omega
              have q2 : (0 : Int) ≤ j := by omega
              obtain ⟨c3, _⟩ := o60_cell HS.out (b := A) (by simp) HZ.out (3 + j) (by omega)
              have hz := HZ.out.2 (3 + j)
              obtain ⟨x, hxc⟩ : ∃ x : Int, cg zs (3 + j) = x := ⟨_, rfl⟩
              rw [hxc] at c3 hz
              obtain ⟨y, hy⟩ : ∃ y : Int, x % 9 = y := ⟨_, rfl⟩
              have hy2 : x.tmod 9 = y := by rw [Int.tmod_eq_emod_of_nonneg hz.1]; exact hy
              have hyb : 0 ≤ y ∧ y < 9 := by omega
              obtain ⟨hy0, hy1⟩ := hyb
              clear hy hz
              obtain ⟨hlen, hany⟩ := HL2.out
              have HLen := Lib.hid hlen
              have HAny := Lib.hid (any_snoc (b := y - 2) hany (by omega) (by omega))
              have hO := HO.out
              obtain ⟨pv, cv, rfl⟩ := hO.slice hlen
              clear hO hany hlen HL2
              have HP2 : Hid (∀ V, Below (F + 1) wr V → St w [(F, fq 1 2 (.slice pv j cv) (1 + q) 0 (.slice none 0 0)), (A, o60 zs), (p, fq 0 0 (.slice none 0 0) 0 0 (.slice none 0 0))] V) := fun V hV => St_past HS.out hV (by have := HFB.out.1; omega) (by have := HFB.out.2.2; have := HA.out; simp; omega)
              have HQS := Lib.hid (w3j (j := j) (Nat.lt_of_lt_of_le hlt (by decide)))
              have HLt := Lib.hid hlt; clear hlt
              have HYS := Lib.hid (wy2 hy0 hy1)
              have HXC := Lib.hid hxc; clear hxc
              go_upto_region 14 with fail
              have s0t := HS.out.drew
              have s0o := HO.out.later (Below.refl _ _).drew
              have H60 : Hid (3 + j < 60) := (by have := HLt.out; unfold Hid; omega)
              have s0 := (o60_cell s0t (b := A) (by simp) HZ.out (3 + j) H60.out).1
              rw [HXC.out] at s0
              refine wp_region_held_drew (S := fun V9 => V9.cell? ⟨A, 3 + j, none⟩ = some (.int .i64 x)) (by kernel_rfl) ?_ (fun hHeld => ?_)
              · exact s0
              refine wpAnyH_take (i := 0) (oi := { dst := some 56, op := Op.fieldAddr 25 (Operand.tmp 5) 2, type := 0, pos := "ref.go:268", after := #[], guard := none }) (v := ?_) rfl (by kernel_rfl) (by kernel_rfl) (by kernel_rfl) (fun _ _ _ h => h) (Or.inl ⟨by kernel_rfl, ?_⟩) (by assumption) ?_
              rotate_left 1
              focus (intro w hSw; (try dsimp only at hSw); go_simp; (try with_reducible rfl))
              try simp only [Act.put, List.setIfInBounds_toArray, List.set_cons_zero, List.set_cons_succ]
              refine wpAnyH_take (i := 2) (oi := { dst := some 58, op := Op.move (Operand.tmp 6), type := 3, pos := "ref.go:268", after := #[], guard := none }) (v := ?_) rfl (by kernel_rfl) (by kernel_rfl) (by kernel_rfl) (fun _ _ _ h => h) (Or.inl ⟨by kernel_rfl, ?_⟩) (by assumption) ?_
              rotate_left 1
              focus (intro w hSw; (try dsimp only at hSw); go_simp; (try with_reducible rfl))
              try simp only [Act.put, List.setIfInBounds_toArray, List.set_cons_zero, List.set_cons_succ]
              refine wpAnyH_take (i := 3) (oi := { dst := some 59, op := Op.binOp BinOp.add 3 (Operand.const (Value.int IntKind.i64 3)) (Operand.tmp 58) 3, type := 3, pos := "ref.go:268", after := #[{ on := 2, ground := Ground.data }], guard := none }) (v := .int .i64 (3 + (j : Int))) rfl (by kernel_rfl) (by kernel_rfl) (by kernel_rfl) (fun _ _ _ h => h) (Or.inl ⟨by kernel_rfl, ?_⟩) (by assumption) ?_
              focus (intro w hSw; (try dsimp only at hSw); go_simp; (first | done | rfl | (obtain ⟨q3, q4, q5, q6, q7⟩ := HQS.out; simp [q6, q7])))
              try simp only [Act.put, List.setIfInBounds_toArray, List.set_cons_zero, List.set_cons_succ]
              refine wpAnyH_take (i := 4) (oi := { dst := some 60, op := Op.indexAddr 45 (Operand.tmp 3) (Operand.tmp 59), type := 0, pos := "ref.go:268", after := #[{ on := 3, ground := Ground.data }], guard := none }) (v := .pointer (some ⟨A, 3 + j, none⟩)) rfl (by kernel_rfl) (by kernel_rfl) (by kernel_rfl) (fun _ _ _ h => h) (Or.inl ⟨by kernel_rfl, ?_⟩) (by assumption) ?_
              focus (intro w hSw; (try dsimp only at hSw); go_simp; (first | done | rfl | (obtain ⟨q3, q4, q5, q6, q7⟩ := HQS.out; simp [q3, q4, q5])))
              try simp only [Act.put, List.setIfInBounds_toArray, List.set_cons_zero, List.set_cons_succ]
              refine wpAnyH_take (i := 5) (oi := { dst := some 61, op := Op.load 3 (Operand.tmp 60), type := 3, pos := "ref.go:268", after := #[{ on := 4, ground := Ground.data }], guard := none }) (v := ?_) rfl (by kernel_rfl) (by kernel_rfl) (by kernel_rfl) (fun _ _ _ h => h) (Or.inl ⟨by kernel_rfl, ?_⟩) (by assumption) ?_
              rotate_left 1
              focus (intro w hSw; (try dsimp only at hSw); go_simp; (try with_reducible rfl))
              try simp only [Act.put, List.setIfInBounds_toArray, List.set_cons_zero, List.set_cons_succ]
              refine wpAnyH_take (i := 6) (oi := { dst := some 62, op := Op.binOp BinOp.rem 3 (Operand.tmp 61) (Operand.const (Value.int IntKind.i64 9)) 3, type := 3, pos := "ref.go:268", after := #[{ on := 5, ground := Ground.data }], guard := none }) (v := ?_) rfl (by kernel_rfl) (by kernel_rfl) (by kernel_rfl) (fun _ _ _ h => h) (Or.inl ⟨by kernel_rfl, ?_⟩) (by assumption) ?_
              rotate_left 1
              focus (intro w hSw; (try dsimp only at hSw); go_simp; (try with_reducible rfl))
              try simp only [Act.put, List.setIfInBounds_toArray, List.set_cons_zero, List.set_cons_succ]
              refine wpAnyH_take (i := 7) (oi := { dst := some 63, op := Op.binOp BinOp.sub 3 (Operand.tmp 62) (Operand.const (Value.int IntKind.i64 2)) 3, type := 3, pos := "ref.go:268", after := #[{ on := 6, ground := Ground.data }], guard := none }) (v := .int .i64 (y - 2)) rfl (by kernel_rfl) (by kernel_rfl) (by kernel_rfl) (fun _ _ _ h => h) (Or.inl ⟨by kernel_rfl, ?_⟩) (by assumption) ?_
              focus (intro w hSw; (try dsimp only at hSw); go_simp; (first | done | rfl | (obtain ⟨q8, q9⟩ := HYS.out; simp [q8, q9])))
              try simp only [Act.put, List.setIfInBounds_toArray, List.set_cons_zero, List.set_cons_succ]
              refine wpAnyH_ready (rs := [1, 8]) (by kernel_rfl) (by simp) (AllReadyH.cons (o := { dst := some 57, op := Op.load 22 (Operand.tmp 56), type := 22, pos := "ref.go:268", after := #[{ on := 0, ground := Ground.data }], guard := none }) rfl (fun K hK => ?_) (AllReadyH.cons (o := { dst := some 64, op := Op.buildSlice 22 1 #[(0, Operand.tmp 63)], type := 22, pos := "ref.go:268", after := #[{ on := 7, ground := Ground.data }], guard := none }) rfl (fun K hK => ?_) AllReadyH.nil))
              · refine wp_load_of 22 (.tmp 56) _ rfl rfl (ld_fqK (s0t.row (b := F) (o := fq 1 2 (.slice pv j cv) (1 + q) 0 (.slice none 0 0)) (by simp))) ?_
                refine hK.out _ _ ?_ (fun hHeld => ?_)
                · (first | exact s0 | exact s0.tl)
                clear hK K
                try simp only [Act.put, List.setIfInBounds_toArray, List.set_cons_zero, List.set_cons_succ]
                refine wpAnyH_ready (rs := [8]) (by kernel_rfl) (by simp) (AllReadyH.cons (o := { dst := some 64, op := Op.buildSlice 22 1 #[(0, Operand.tmp 63)], type := 22, pos := "ref.go:268", after := #[{ on := 7, ground := Ground.data }], guard := none }) rfl (fun K hK => ?_) AllReadyH.nil)
                have s2r14t := s0t.later (below1 (o := .cells #[.int .i64 (y - 2)] 3))
                have s2r14o := s0o.later (below1 (o := .cells #[.int .i64 (y - 2)] 3))
                have s2r14 := (o60_cell s2r14t (b := A) (by simp) HZ.out (3 + j) H60.out).1
                rw [HXC.out] at s2r14
                have s2r14n := cell_alloc wr.drew (.int .i64 (y - 2)) 3
                refine wp_int1 (.tmp 63) rfl rfl ?_
                refine hK.out _ _ ?_ (fun hHeld => ?_)
                · (first | exact s2r14 | exact s2r14.tl)
                clear hK K
                try simp only [Act.put, List.setIfInBounds_toArray, List.set_cons_zero, List.set_cons_succ]
                refine wpAnyH_ready (rs := [9]) (by kernel_rfl) (by simp) (AllReadyH.cons (o := { dst := some 65, op := Op.call { callee := Callee.builtin Builtin.append, args := #[Operand.tmp 57, Operand.tmp 64], argTypes := #[22, 22] }, type := 22, pos := "ref.go:268", after := #[{ on := 1, ground := Ground.data }, { on := 8, ground := Ground.data }], guard := none }) rfl (fun K hK => ?_) AllReadyH.nil)
                refine wp_app1 (.tmp 57) (.tmp 64) rfl (F + 1) _ _ ks (y - 2) rfl s2r14o rfl s2r14n (by rw [HLen.out]; have := HLt.out; omega) (Nat.succ_le_of_lt (s2r14t.lt (b := F) (o := fq 1 2 (.slice pv j cv) (1 + q) 0 (.slice none 0 0)) (by simp))) ?_
                intro v' w7 ho7 hb7
                obtain ⟨pv7, cv7, rfl⟩ := ho7.slice (n := j + 1) (by rw [List.length_append, HLen.out]; rfl)
                have s3r14t := St_past s2r14t hb7 (by have := HFB.out.1; omega) (by have := HFB.out.2.2; have := HA.out; simp; omega)
                have s3r14 := (o60_cell s3r14t (b := A) (by simp) HZ.out (3 + j) H60.out).1
                rw [HXC.out] at s3r14
                have hsz7 : F + 1 ≤ w7.heap.size := Nat.succ_le_of_lt (s3r14t.lt (b := F) (o := fq 1 2 (.slice pv j cv) (1 + q) 0 (.slice none 0 0)) (by simp))
                refine hK.out _ _ ?_ (fun hHeld => ?_)
                · (first | exact s3r14 | exact s3r14.tl)
                clear hK K
                try simp only [Act.put, List.setIfInBounds_toArray, List.set_cons_zero, List.set_cons_succ]
                refine wpAnyH_take (i := 10) (oi := { dst := some 66, op := Op.fieldAddr 25 (Operand.tmp 5) 2, type := 0, pos := "ref.go:268", after := #[{ on := 0, ground := Ground.phase }, { on := 1, ground := Ground.phase }, { on := 2, ground := Ground.phase }, { on := 3, ground := Ground.phase }, { on := 4, ground := Ground.phase }, { on := 5, ground := Ground.phase }, { on := 6, ground := Ground.phase }, { on := 7, ground := Ground.phase }, { on := 8, ground := Ground.phase }, { on := 9, ground := Ground.phase }], guard := none }) (v := ?_) rfl (by kernel_rfl) (by kernel_rfl) (by kernel_rfl) (fun _ _ _ h => h) (Or.inl ⟨by kernel_rfl, ?_⟩) (by assumption) ?_
                rotate_left 1
                focus (intro w hSw; (try dsimp only at hSw); go_simp; (try with_reducible rfl))
                try simp only [Act.put, List.setIfInBounds_toArray, List.set_cons_zero, List.set_cons_succ]
                refine wpAnyH_ready (rs := [11]) (by kernel_rfl) (by simp) (AllReadyH.cons (o := { dst := none, op := Op.store 22 (Operand.tmp 66) (Operand.tmp 65), type := 0, pos := "ref.go:268", after := #[{ on := 10, ground := Ground.data }, { on := 9, ground := Ground.data }, { on := 9, ground := Ground.chain }, { on := 0, ground := Ground.phase }, { on := 1, ground := Ground.phase }, { on := 2, ground := Ground.phase }, { on := 3, ground := Ground.phase }, { on := 4, ground := Ground.phase }, { on := 5, ground := Ground.phase }, { on := 6, ground := Ground.phase }, { on := 7, ground := Ground.phase }, { on := 8, ground := Ground.phase }, { on := 9, ground := Ground.phase }], guard := none }) rfl (fun K hK => ?_) AllReadyH.nil)
                have s4r14t := put2 s3r14t HFB.out.1 HFB.out.2.1 (.slice pv7 (j + 1) cv7)
                have s4r14 := (o60_cell s4r14t (b := A) (by simp) HZ.out (3 + j) H60.out).1
                rw [HXC.out] at s4r14
                refine wp_store_of 22 (.tmp 66) (.tmp 65) rfl rfl rfl (st_fqK (s3r14t.row (b := F) (o := fq 1 2 (.slice pv j cv) (1 + q) 0 (.slice none 0 0)) (by simp))) ?_
                refine hK.out _ _ ?_ (fun hHeld => ?_)
                · (first | exact s4r14 | exact s4r14.tl)
                clear hK K
                try simp only [Act.put, List.setIfInBounds_toArray, List.set_cons_zero, List.set_cons_succ]
                refine wpAnyH_done (by kernel_rfl) ?_ _
                have HTN := Lib.hid s4r14t
                go_wp2_with fail
                go_roundw
                case rel => exact ⟨j + 1, ks ++ [y - 2], .slice pv7 (j + 1) cv7, by have := HLt.out; omega, by go_num, ⟨by rw [List.length_append, HLen.out]; rfl, HAny.out⟩, HTN, own_low ho7 (Nat.lt_succ_self F), by unfold Hid; simp [World.setCell]; exact hsz7⟩
                case measure => have := HLt.out; simp [intOf]; omega
              · have s5r14t := s0t.later (below1 (o := .cells #[.int .i64 (y - 2)] 3))
                have s5r14o := s0o.later (below1 (o := .cells #[.int .i64 (y - 2)] 3))
                have s5r14 := (o60_cell s5r14t (b := A) (by simp) HZ.out (3 + j) H60.out).1
                rw [HXC.out] at s5r14
                have s5r14n := cell_alloc wr.drew (.int .i64 (y - 2)) 3
                refine wp_int1 (.tmp 63) rfl rfl ?_
                refine hK.out _ _ ?_ (fun hHeld => ?_)
                · (first | exact s5r14 | exact s5r14.tl)
                clear hK K
                try simp only [Act.put, List.setIfInBounds_toArray, List.set_cons_zero, List.set_cons_succ]
                refine wpAnyH_ready (rs := [1]) (by kernel_rfl) (by simp) (AllReadyH.cons (o := { dst := some 57, op := Op.load 22 (Operand.tmp 56), type := 22, pos := "ref.go:268", after := #[{ on := 0, ground := Ground.data }], guard := none }) rfl (fun K hK => ?_) AllReadyH.nil)
                refine wp_load_of 22 (.tmp 56) _ rfl rfl (ld_fqK (s5r14t.row (b := F) (o := fq 1 2 (.slice pv j cv) (1 + q) 0 (.slice none 0 0)) (by simp))) ?_
                refine hK.out _ _ ?_ (fun hHeld => ?_)
                · (first | exact s5r14 | exact s5r14.tl)
                clear hK K
                try simp only [Act.put, List.setIfInBounds_toArray, List.set_cons_zero, List.set_cons_succ]
                refine wpAnyH_ready (rs := [9]) (by kernel_rfl) (by simp) (AllReadyH.cons (o := { dst := some 65, op := Op.call { callee := Callee.builtin Builtin.append, args := #[Operand.tmp 57, Operand.tmp 64], argTypes := #[22, 22] }, type := 22, pos := "ref.go:268", after := #[{ on := 1, ground := Ground.data }, { on := 8, ground := Ground.data }], guard := none }) rfl (fun K hK => ?_) AllReadyH.nil)
                refine wp_app1 (.tmp 57) (.tmp 64) rfl (F + 1) _ _ ks (y - 2) rfl s5r14o rfl s5r14n (by rw [HLen.out]; have := HLt.out; omega) (Nat.succ_le_of_lt (s5r14t.lt (b := F) (o := fq 1 2 (.slice pv j cv) (1 + q) 0 (.slice none 0 0)) (by simp))) ?_
                intro v' w7 ho7 hb7
                obtain ⟨pv7, cv7, rfl⟩ := ho7.slice (n := j + 1) (by rw [List.length_append, HLen.out]; rfl)
                have s7r14t := St_past s5r14t hb7 (by have := HFB.out.1; omega) (by have := HFB.out.2.2; have := HA.out; simp; omega)
                have s7r14 := (o60_cell s7r14t (b := A) (by simp) HZ.out (3 + j) H60.out).1
                rw [HXC.out] at s7r14
                have hsz7 : F + 1 ≤ w7.heap.size := Nat.succ_le_of_lt (s7r14t.lt (b := F) (o := fq 1 2 (.slice pv j cv) (1 + q) 0 (.slice none 0 0)) (by simp))
                refine hK.out _ _ ?_ (fun hHeld => ?_)
                · (first | exact s7r14 | exact s7r14.tl)
                clear hK K
                try simp only [Act.put, List.setIfInBounds_toArray, List.set_cons_zero, List.set_cons_succ]
                refine wpAnyH_take (i := 10) (oi := { dst := some 66, op := Op.fieldAddr 25 (Operand.tmp 5) 2, type := 0, pos := "ref.go:268", after := #[{ on := 0, ground := Ground.phase }, { on := 1, ground := Ground.phase }, { on := 2, ground := Ground.phase }, { on := 3, ground := Ground.phase }, { on := 4, ground := Ground.phase }, { on := 5, ground := Ground.phase }, { on := 6, ground := Ground.phase }, { on := 7, ground := Ground.phase }, { on := 8, ground := Ground.phase }, { on := 9, ground := Ground.phase }], guard := none }) (v := ?_) rfl (by kernel_rfl) (by kernel_rfl) (by kernel_rfl) (fun _ _ _ h => h) (Or.inl ⟨by kernel_rfl, ?_⟩) (by assumption) ?_
                rotate_left 1
                focus (intro w hSw; (try dsimp only at hSw); go_simp; (try with_reducible rfl))
                try simp only [Act.put, List.setIfInBounds_toArray, List.set_cons_zero, List.set_cons_succ]
                refine wpAnyH_ready (rs := [11]) (by kernel_rfl) (by simp) (AllReadyH.cons (o := { dst := none, op := Op.store 22 (Operand.tmp 66) (Operand.tmp 65), type := 0, pos := "ref.go:268", after := #[{ on := 10, ground := Ground.data }, { on := 9, ground := Ground.data }, { on := 9, ground := Ground.chain }, { on := 0, ground := Ground.phase }, { on := 1, ground := Ground.phase }, { on := 2, ground := Ground.phase }, { on := 3, ground := Ground.phase }, { on := 4, ground := Ground.phase }, { on := 5, ground := Ground.phase }, { on := 6, ground := Ground.phase }, { on := 7, ground := Ground.phase }, { on := 8, ground := Ground.phase }, { on := 9, ground := Ground.phase }], guard := none }) rfl (fun K hK => ?_) AllReadyH.nil)
                have s8r14t := put2 s7r14t HFB.out.1 HFB.out.2.1 (.slice pv7 (j + 1) cv7)
                have s8r14 := (o60_cell s8r14t (b := A) (by simp) HZ.out (3 + j) H60.out).1
                rw [HXC.out] at s8r14
                refine wp_store_of 22 (.tmp 66) (.tmp 65) rfl rfl rfl (st_fqK (s7r14t.row (b := F) (o := fq 1 2 (.slice pv j cv) (1 + q) 0 (.slice none 0 0)) (by simp))) ?_
                refine hK.out _ _ ?_ (fun hHeld => ?_)
                · (first | exact s8r14 | exact s8r14.tl)
                clear hK K
                try simp only [Act.put, List.setIfInBounds_toArray, List.set_cons_zero, List.set_cons_succ]
                refine wpAnyH_done (by kernel_rfl) ?_ _
                have HTN := Lib.hid s8r14t
                go_wp2_with fail
                go_roundw
                case rel => exact ⟨j + 1, ks ++ [y - 2], .slice pv7 (j + 1) cv7, by have := HLt.out; omega, by go_num, ⟨by rw [List.length_append, HLen.out]; rfl, HAny.out⟩, HTN, own_low ho7 (Nat.lt_succ_self F), by unfold Hid; simp [World.setCell]; exact hsz7⟩
                case measure => have := HLt.out; simp [intOf]; omega
            · as_aux_lemma =>
              obtain rfl : j = 25 := by omega
              obtain ⟨hlen, hany⟩ := HL2.out
              have hO := HO.out
              obtain ⟨pv, cv, rfl⟩ := hO.slice hlen
              obtain ⟨hq0, hq1⟩ := HQ.out
              obtain ⟨cs, hcs⟩ : ∃ cs : List Int, cs = [] := ⟨_, rfl⟩
              have HK := Lib.hid (own_mono (B' := p + 1) hO (by have := HFB.out.2.2; have := HA.out; omega))
              have HCC : Hid (OwnsI (p + 1) wr (.slice none 0 0) cs) := by subst hcs; exact own_nil _ _
              have HV : Hid (vf 1 2 ks (1 + q) 0 cs = true) := by subst hcs; unfold Hid; simp [vf, wi, nof, ik, wsz, hlen, hany]; omega
              clear hcs hq0 hq1 hO hlen hany HL2 HO hge hj
              go_upto_region 26 with fail
              clear b1 b2
              have HT := HS
              have hRF := HT.out.row (b := F) (o := fq (1) (2) (.slice pv 25 cv) (1 + q) (0) (.slice none 0 0)) (by simp)
              have hRP := HT.out.row (b := p) (o := fq 0 0 (.slice none 0 0) 0 0 (.slice none 0 0)) (by simp)
              have HB := Lib.hid HT.out.below
              clear HT HS
              go_wp2_with (first
                | (refine wl_load rfl 25 _ rfl (ld_fq hRF) ?_)
                | (refine wl_store rfl 25 _ _ rfl (st_fq hRP) ?_))
              exact bodyPost_ret (res_fq rfl (setRow_heap _ _ _ _ _ (0, 0) hRP)) rfl ⟨_, _, _, _, _, _, ks, cs, rfl, HB.out.trans ⟨rfl, rfl, rfl, by simp [World.setRow], fun k hk => setRow_other _ _ _ _ (by have := HP.out; omega)⟩, (own_row HK.out (Nat.lt_succ_self p)).cm, (own_row HCC.out (Nat.lt_succ_self p)).cm, HV.out, own_head HK.out, own_head HCC.out⟩
      · as_aux_lemma =>
        have a0 : w5.cell? ⟨F, 0, none⟩ = some (.int .i64 2) := hT.cell (b := F) (cs := #[.int .i64 2, .int .i64 0, .slice none 0 0, .int .i64 0, .int .i64 0, .slice none 0 0]) (t := 25) (by simp) 0
        have f0 := hT.frozen (b := F) (cs := #[.int .i64 2, .int .i64 0, .slice none 0 0, .int .i64 0, .int .i64 0, .slice none 0 0]) (t := 25) (by simp) 0
        have a1 : w5.cell? ⟨F, 1, none⟩ = some (.int .i64 0) := hT.cell (b := F) (cs := #[.int .i64 2, .int .i64 0, .slice none 0 0, .int .i64 0, .int .i64 0, .slice none 0 0]) (t := 25) (by simp) 1
        have f1 := hT.frozen (b := F) (cs := #[.int .i64 2, .int .i64 0, .slice none 0 0, .int .i64 0, .int .i64 0, .slice none 0 0]) (t := 25) (by simp) 1
        have a2 : w5.cell? ⟨F, 2, none⟩ = some (.slice none 0 0) := hT.cell (b := F) (cs := #[.int .i64 2, .int .i64 0, .slice none 0 0, .int .i64 0, .int .i64 0, .slice none 0 0]) (t := 25) (by simp) 2
        have f2 := hT.frozen (b := F) (cs := #[.int .i64 2, .int .i64 0, .slice none 0 0, .int .i64 0, .int .i64 0, .slice none 0 0]) (t := 25) (by simp) 2
        have a3 : w5.cell? ⟨F, 3, none⟩ = some (.int .i64 0) := hT.cell (b := F) (cs := #[.int .i64 2, .int .i64 0, .slice none 0 0, .int .i64 0, .int .i64 0, .slice none 0 0]) (t := 25) (by simp) 3
        have f3 := hT.frozen (b := F) (cs := #[.int .i64 2, .int .i64 0, .slice none 0 0, .int .i64 0, .int .i64 0, .slice none 0 0]) (t := 25) (by simp) 3
        have a4 : w5.cell? ⟨F, 4, none⟩ = some (.int .i64 0) := hT.cell (b := F) (cs := #[.int .i64 2, .int .i64 0, .slice none 0 0, .int .i64 0, .int .i64 0, .slice none 0 0]) (t := 25) (by simp) 4
        have f4 := hT.frozen (b := F) (cs := #[.int .i64 2, .int .i64 0, .slice none 0 0, .int .i64 0, .int .i64 0, .slice none 0 0]) (t := 25) (by simp) 4
        have a5 : w5.cell? ⟨F, 5, none⟩ = some (.slice none 0 0) := hT.cell (b := F) (cs := #[.int .i64 2, .int .i64 0, .slice none 0 0, .int .i64 0, .int .i64 0, .slice none 0 0]) (t := 25) (by simp) 5
        have f5 := hT.frozen (b := F) (cs := #[.int .i64 2, .int .i64 0, .slice none 0 0, .int .i64 0, .int .i64 0, .slice none 0 0]) (t := 25) (by simp) 5
        obtain ⟨r, hr⟩ : ∃ r : Int, x1 % 4 = r := ⟨_, rfl⟩
        have hr2 : x1.tmod 4 = r := by rw [Int.tmod_eq_emod_of_nonneg b1.1]; exact hr
        have hrb : 0 ≤ r ∧ r < 4 := by omega
        obtain ⟨hr0, hr1⟩ := hrb
        have hT2 := put1 hT hFb hFL (.int .i64 r)
        go_upto_region 26 with fail
        clear a0 f0 a1 f1 a2 f2 a3 f3 a4 f4 a5 f5 hT
        generalize w5.setCell ⟨F, 1, none⟩ (.int .i64 r) = WW at hT2 ⊢
        have HT := Lib.hid hT2; clear hT2
        obtain ⟨ks, hks⟩ : ∃ ks : List Int, ks = [] := ⟨_, rfl⟩
        obtain ⟨cs, hcs⟩ : ∃ cs : List Int, cs = [] := ⟨_, rfl⟩
        have HK : Hid (OwnsI (p + 1) WW (.slice none 0 0) ks) := by subst hks; exact own_nil _ _
        have HCC : Hid (OwnsI (p + 1) WW (.slice none 0 0) cs) := by subst hcs; exact own_nil _ _
        have HV : Hid (vf 2 r ks (0) (0) cs = true) := by subst hks hcs; unfold Hid; simp [vf, wi, nof]; try omega
        clear hks hcs
        have hRF := HT.out.row (b := F) (o := fq (2) (r) (.slice none 0 0) (0) (0) (.slice none 0 0)) (by simp)
        have hRP := HT.out.row (b := p) (o := fq 0 0 (.slice none 0 0) 0 0 (.slice none 0 0)) (by simp)
        have HB := Lib.hid HT.out.below
        clear c1 c2 HT
        go_wp2_with (first
          | (refine wl_load rfl 25 _ rfl (ld_fq hRF) ?_)
          | (refine wl_store rfl 25 _ _ rfl (st_fq hRP) ?_))
        exact bodyPost_ret (res_fq rfl (setRow_heap _ _ _ _ _ (0, 0) hRP)) rfl ⟨_, _, _, _, _, _, ks, cs, rfl, HB.out.trans ⟨rfl, rfl, rfl, by simp [World.setRow], fun k hk => setRow_other _ _ _ _ (by have := HP.out; omega)⟩, (own_row HK.out (Nat.lt_succ_self p)).cm, (own_row HCC.out (Nat.lt_succ_self p)).cm, HV.out, own_head HK.out, own_head HCC.out⟩
      · as_aux_lemma =>
        have a0 : w5.cell? ⟨F, 0, none⟩ = some (.int .i64 3) := hT.cell (b := F) (cs := #[.int .i64 3, .int .i64 0, .slice none 0 0, .int .i64 0, .int .i64 0, .slice none 0 0]) (t := 25) (by simp) 0
        have f0 := hT.frozen (b := F) (cs := #[.int .i64 3, .int .i64 0, .slice none 0 0, .int .i64 0, .int .i64 0, .slice none 0 0]) (t := 25) (by simp) 0
        have a1 : w5.cell? ⟨F, 1, none⟩ = some (.int .i64 0) := hT.cell (b := F) (cs := #[.int .i64 3, .int .i64 0, .slice none 0 0, .int .i64 0, .int .i64 0, .slice none 0 0]) (t := 25) (by simp) 1
        have f1 := hT.frozen (b := F) (cs := #[.int .i64 3, .int .i64 0, .slice none 0 0, .int .i64 0, .int .i64 0, .slice none 0 0]) (t := 25) (by simp) 1
        have a2 : w5.cell? ⟨F, 2, none⟩ = some (.slice none 0 0) := hT.cell (b := F) (cs := #[.int .i64 3, .int .i64 0, .slice none 0 0, .int .i64 0, .int .i64 0, .slice none 0 0]) (t := 25) (by simp) 2
        have f2 := hT.frozen (b := F) (cs := #[.int .i64 3, .int .i64 0, .slice none 0 0, .int .i64 0, .int .i64 0, .slice none 0 0]) (t := 25) (by simp) 2
        have a3 : w5.cell? ⟨F, 3, none⟩ = some (.int .i64 0) := hT.cell (b := F) (cs := #[.int .i64 3, .int .i64 0, .slice none 0 0, .int .i64 0, .int .i64 0, .slice none 0 0]) (t := 25) (by simp) 3
        have f3 := hT.frozen (b := F) (cs := #[.int .i64 3, .int .i64 0, .slice none 0 0, .int .i64 0, .int .i64 0, .slice none 0 0]) (t := 25) (by simp) 3
        have a4 : w5.cell? ⟨F, 4, none⟩ = some (.int .i64 0) := hT.cell (b := F) (cs := #[.int .i64 3, .int .i64 0, .slice none 0 0, .int .i64 0, .int .i64 0, .slice none 0 0]) (t := 25) (by simp) 4
        have f4 := hT.frozen (b := F) (cs := #[.int .i64 3, .int .i64 0, .slice none 0 0, .int .i64 0, .int .i64 0, .slice none 0 0]) (t := 25) (by simp) 4
        have a5 : w5.cell? ⟨F, 5, none⟩ = some (.slice none 0 0) := hT.cell (b := F) (cs := #[.int .i64 3, .int .i64 0, .slice none 0 0, .int .i64 0, .int .i64 0, .slice none 0 0]) (t := 25) (by simp) 5
        have f5 := hT.frozen (b := F) (cs := #[.int .i64 3, .int .i64 0, .slice none 0 0, .int .i64 0, .int .i64 0, .slice none 0 0]) (t := 25) (by simp) 5
        obtain ⟨r, hr⟩ : ∃ r : Int, x1 % 4 = r := ⟨_, rfl⟩
        have hr2 : x1.tmod 4 = r := by rw [Int.tmod_eq_emod_of_nonneg b1.1]; exact hr
        have hrb : 0 ≤ r ∧ r < 4 := by omega
        obtain ⟨hr0, hr1⟩ := hrb
        have hT2 := put1 hT hFb hFL (.int .i64 r)
        go_upto_region 26 with fail
        clear a0 f0 a1 f1 a2 f2 a3 f3 a4 f4 a5 f5 hT
        generalize w5.setCell ⟨F, 1, none⟩ (.int .i64 r) = WW at hT2 ⊢
        have HT := Lib.hid hT2; clear hT2
        obtain ⟨ks, hks⟩ : ∃ ks : List Int, ks = [] := ⟨_, rfl⟩
        obtain ⟨cs, hcs⟩ : ∃ cs : List Int, cs = [] := ⟨_, rfl⟩
        have HK : Hid (OwnsI (p + 1) WW (.slice none 0 0) ks) := by subst hks; exact own_nil _ _
        have HCC : Hid (OwnsI (p + 1) WW (.slice none 0 0) cs) := by subst hcs; exact own_nil _ _
        have HV : Hid (vf 3 r ks (0) (0) cs = true) := by subst hks hcs; unfold Hid; simp [vf, wi, nof]; try omega
        clear hks hcs
        have hRF := HT.out.row (b := F) (o := fq (3) (r) (.slice none 0 0) (0) (0) (.slice none 0 0)) (by simp)
        have hRP := HT.out.row (b := p) (o := fq 0 0 (.slice none 0 0) 0 0 (.slice none 0 0)) (by simp)
        have HB := Lib.hid HT.out.below
        clear c1 c2 HT
        go_wp2_with (first
          | (refine wl_load rfl 25 _ rfl (ld_fq hRF) ?_)
          | (refine wl_store rfl 25 _ _ rfl (st_fq hRP) ?_))
        exact bodyPost_ret (res_fq rfl (setRow_heap _ _ _ _ _ (0, 0) hRP)) rfl ⟨_, _, _, _, _, _, ks, cs, rfl, HB.out.trans ⟨rfl, rfl, rfl, by simp [World.setRow], fun k hk => setRow_other _ _ _ _ (by have := HP.out; omega)⟩, (own_row HK.out (Nat.lt_succ_self p)).cm, (own_row HCC.out (Nat.lt_succ_self p)).cm, HV.out, own_head HK.out, own_head HCC.out⟩
      · as_aux_lemma =>
        have a0 : w5.cell? ⟨F, 0, none⟩ = some (.int .i64 4) := hT.cell (b := F) (cs := #[.int .i64 4, .int .i64 0, .slice none 0 0, .int .i64 0, .int .i64 0, .slice none 0 0]) (t := 25) (by simp) 0
        have f0 := hT.frozen (b := F) (cs := #[.int .i64 4, .int .i64 0, .slice none 0 0, .int .i64 0, .int .i64 0, .slice none 0 0]) (t := 25) (by simp) 0
        have a1 : w5.cell? ⟨F, 1, none⟩ = some (.int .i64 0) := hT.cell (b := F) (cs := #[.int .i64 4, .int .i64 0, .slice none 0 0, .int .i64 0, .int .i64 0, .slice none 0 0]) (t := 25) (by simp) 1
        have f1 := hT.frozen (b := F) (cs := #[.int .i64 4, .int .i64 0, .slice none 0 0, .int .i64 0, .int .i64 0, .slice none 0 0]) (t := 25) (by simp) 1
        have a2 : w5.cell? ⟨F, 2, none⟩ = some (.slice none 0 0) := hT.cell (b := F) (cs := #[.int .i64 4, .int .i64 0, .slice none 0 0, .int .i64 0, .int .i64 0, .slice none 0 0]) (t := 25) (by simp) 2
        have f2 := hT.frozen (b := F) (cs := #[.int .i64 4, .int .i64 0, .slice none 0 0, .int .i64 0, .int .i64 0, .slice none 0 0]) (t := 25) (by simp) 2
        have a3 : w5.cell? ⟨F, 3, none⟩ = some (.int .i64 0) := hT.cell (b := F) (cs := #[.int .i64 4, .int .i64 0, .slice none 0 0, .int .i64 0, .int .i64 0, .slice none 0 0]) (t := 25) (by simp) 3
        have f3 := hT.frozen (b := F) (cs := #[.int .i64 4, .int .i64 0, .slice none 0 0, .int .i64 0, .int .i64 0, .slice none 0 0]) (t := 25) (by simp) 3
        have a4 : w5.cell? ⟨F, 4, none⟩ = some (.int .i64 0) := hT.cell (b := F) (cs := #[.int .i64 4, .int .i64 0, .slice none 0 0, .int .i64 0, .int .i64 0, .slice none 0 0]) (t := 25) (by simp) 4
        have f4 := hT.frozen (b := F) (cs := #[.int .i64 4, .int .i64 0, .slice none 0 0, .int .i64 0, .int .i64 0, .slice none 0 0]) (t := 25) (by simp) 4
        have a5 : w5.cell? ⟨F, 5, none⟩ = some (.slice none 0 0) := hT.cell (b := F) (cs := #[.int .i64 4, .int .i64 0, .slice none 0 0, .int .i64 0, .int .i64 0, .slice none 0 0]) (t := 25) (by simp) 5
        have f5 := hT.frozen (b := F) (cs := #[.int .i64 4, .int .i64 0, .slice none 0 0, .int .i64 0, .int .i64 0, .slice none 0 0]) (t := 25) (by simp) 5
        obtain ⟨r, hr⟩ : ∃ r : Int, x1 % 4 = r := ⟨_, rfl⟩
        have hr2 : x1.tmod 4 = r := by rw [Int.tmod_eq_emod_of_nonneg b1.1]; exact hr
        have hrb : 0 ≤ r ∧ r < 4 := by omega
        obtain ⟨hr0, hr1⟩ := hrb
        have hT2 := put1 hT hFb hFL (.int .i64 r)
        go_upto_region 26 with fail
        clear a0 f0 a1 f1 a2 f2 a3 f3 a4 f4 a5 f5 hT
        generalize w5.setCell ⟨F, 1, none⟩ (.int .i64 r) = WW at hT2 ⊢
        have HT := Lib.hid hT2; clear hT2
        obtain ⟨ks, hks⟩ : ∃ ks : List Int, ks = [] := ⟨_, rfl⟩
        obtain ⟨cs, hcs⟩ : ∃ cs : List Int, cs = [] := ⟨_, rfl⟩
        have HK : Hid (OwnsI (p + 1) WW (.slice none 0 0) ks) := by subst hks; exact own_nil _ _
        have HCC : Hid (OwnsI (p + 1) WW (.slice none 0 0) cs) := by subst hcs; exact own_nil _ _
        have HV : Hid (vf 4 r ks (0) (0) cs = true) := by subst hks hcs; unfold Hid; simp [vf, wi, nof]; try omega
        clear hks hcs
        have hRF := HT.out.row (b := F) (o := fq (4) (r) (.slice none 0 0) (0) (0) (.slice none 0 0)) (by simp)
        have hRP := HT.out.row (b := p) (o := fq 0 0 (.slice none 0 0) 0 0 (.slice none 0 0)) (by simp)
        have HB := Lib.hid HT.out.below
        clear c1 c2 HT
        go_wp2_with (first
          | (refine wl_load rfl 25 _ rfl (ld_fq hRF) ?_)
          | (refine wl_store rfl 25 _ _ rfl (st_fq hRP) ?_))
        exact bodyPost_ret (res_fq rfl (setRow_heap _ _ _ _ _ (0, 0) hRP)) rfl ⟨_, _, _, _, _, _, ks, cs, rfl, HB.out.trans ⟨rfl, rfl, rfl, by simp [World.setRow], fun k hk => setRow_other _ _ _ _ (by have := HP.out; omega)⟩, (own_row HK.out (Nat.lt_succ_self p)).cm, (own_row HCC.out (Nat.lt_succ_self p)).cm, HV.out, own_head HK.out, own_head HCC.out⟩
      · as_aux_lemma =>
        have a0 : w5.cell? ⟨F, 0, none⟩ = some (.int .i64 5) := hT.cell (b := F) (cs := #[.int .i64 5, .int .i64 0, .slice none 0 0, .int .i64 0, .int .i64 0, .slice none 0 0]) (t := 25) (by simp) 0
        have f0 := hT.frozen (b := F) (cs := #[.int .i64 5, .int .i64 0, .slice none 0 0, .int .i64 0, .int .i64 0, .slice none 0 0]) (t := 25) (by simp) 0
        have a1 : w5.cell? ⟨F, 1, none⟩ = some (.int .i64 0) := hT.cell (b := F) (cs := #[.int .i64 5, .int .i64 0, .slice none 0 0, .int .i64 0, .int .i64 0, .slice none 0 0]) (t := 25) (by simp) 1
        have f1 := hT.frozen (b := F) (cs := #[.int .i64 5, .int .i64 0, .slice none 0 0, .int .i64 0, .int .i64 0, .slice none 0 0]) (t := 25) (by simp) 1
        have a2 : w5.cell? ⟨F, 2, none⟩ = some (.slice none 0 0) := hT.cell (b := F) (cs := #[.int .i64 5, .int .i64 0, .slice none 0 0, .int .i64 0, .int .i64 0, .slice none 0 0]) (t := 25) (by simp) 2
        have f2 := hT.frozen (b := F) (cs := #[.int .i64 5, .int .i64 0, .slice none 0 0, .int .i64 0, .int .i64 0, .slice none 0 0]) (t := 25) (by simp) 2
        have a3 : w5.cell? ⟨F, 3, none⟩ = some (.int .i64 0) := hT.cell (b := F) (cs := #[.int .i64 5, .int .i64 0, .slice none 0 0, .int .i64 0, .int .i64 0, .slice none 0 0]) (t := 25) (by simp) 3
        have f3 := hT.frozen (b := F) (cs := #[.int .i64 5, .int .i64 0, .slice none 0 0, .int .i64 0, .int .i64 0, .slice none 0 0]) (t := 25) (by simp) 3
        have a4 : w5.cell? ⟨F, 4, none⟩ = some (.int .i64 0) := hT.cell (b := F) (cs := #[.int .i64 5, .int .i64 0, .slice none 0 0, .int .i64 0, .int .i64 0, .slice none 0 0]) (t := 25) (by simp) 4
        have f4 := hT.frozen (b := F) (cs := #[.int .i64 5, .int .i64 0, .slice none 0 0, .int .i64 0, .int .i64 0, .slice none 0 0]) (t := 25) (by simp) 4
        have a5 : w5.cell? ⟨F, 5, none⟩ = some (.slice none 0 0) := hT.cell (b := F) (cs := #[.int .i64 5, .int .i64 0, .slice none 0 0, .int .i64 0, .int .i64 0, .slice none 0 0]) (t := 25) (by simp) 5
        have f5 := hT.frozen (b := F) (cs := #[.int .i64 5, .int .i64 0, .slice none 0 0, .int .i64 0, .int .i64 0, .slice none 0 0]) (t := 25) (by simp) 5
        have HC5 := Lib.hid (HC.out.later hT.below)
        clear HC
        by_cases hn0 : n = 0
        · subst hn0
          as_aux_lemma =>
          have HX : Hid (Cm w5 (.slice po 0 cap) l) := HC5
          clear HC5
          have hFw : F < w5.heap.size := hT.lt (b := F) (o := fq 5 0 (.slice none 0 0) 0 0 (.slice none 0 0)) (by simp)
          have hpw : p + 1 ≤ w5.heap.size := by have := HA.out; omega
          have HTF := Lib.hid hT
          clear hT a1 a2 a3 a4 a5 f0 f1 f2 f3 f4 f5
          go_upto_region 20 with fail
          clear a0
          go_upto_region 26 with (go_at_call 16; (with_reducible refine (made_own _ _ _ HX.out).mono ?_); rintro e w6 ⟨po6, n6, cap6, rfl, ho6, hb6⟩; have hT6 := HTF.out.later hb6; have a5 := hT6.cell (b := F) (cs := #[.int .i64 5, .int .i64 0, .slice none 0 0, .int .i64 0, .int .i64 0, .slice none 0 0]) (t := 25) (by simp) 5; simp only [List.getElem?_toArray, List.getElem?_cons_succ, List.getElem?_cons_zero] at a5; have f5 := hT6.frozen (b := F) (cs := #[.int .i64 5, .int .i64 0, .slice none 0 0, .int .i64 0, .int .i64 0, .slice none 0 0]) (t := 25) (by simp) 5; have HT6 := Lib.hid hT6; have HO6 := Lib.hid ho6; clear hT6 ho6 hb6)
          have hT2 := put5 HT6.out hFb hFL (.slice po6 n6 cap6)
          have ho2 := own_mono (own_low (x := .slice po6 n6 cap6) (j := 5) HO6.out hFw) hpw
          clear a5 f5 HT6 HO6
          generalize w6.setCell ⟨F, 5, none⟩ (.slice po6 n6 cap6) = WW at hT2 ho2 ⊢
          have HT := Lib.hid hT2; clear hT2
          obtain ⟨ks, hks⟩ : ∃ ks : List Int, ks = [] := ⟨_, rfl⟩
          obtain ⟨cs, hcs⟩ : ∃ cs : List Int, cs = madeL l := ⟨_, rfl⟩
          rw [← hcs] at ho2
          have HK : Hid (OwnsI (p + 1) WW (.slice none 0 0) ks) := by subst hks; exact own_nil _ _
          have HCC := Lib.hid ho2; clear ho2
          have HV : Hid (vf 5 0 ks 0 0 cs = true) := by subst hks hcs; unfold Hid; simp [vf, nof, (cvb_iff _).2 (made_cv _)]
          clear hks hcs
          have hRF := HT.out.row (b := F) (o := fq (5) (0) (.slice none 0 0) (0) (0) (.slice po6 n6 cap6)) (by simp)
          have hRP := HT.out.row (b := p) (o := fq 0 0 (.slice none 0 0) 0 0 (.slice none 0 0)) (by simp)
          have HB := Lib.hid HT.out.below
          clear c1 c2 HT
          go_wp2_with (first
            | (refine wl_load rfl 25 _ rfl (ld_fq hRF) ?_)
            | (refine wl_store rfl 25 _ _ rfl (st_fq hRP) ?_))
          exact bodyPost_ret (res_fq rfl (setRow_heap _ _ _ _ _ (0, 0) hRP)) rfl ⟨_, _, _, _, _, _, ks, cs, rfl, HB.out.trans ⟨rfl, rfl, rfl, by simp [World.setRow], fun k hk => setRow_other _ _ _ _ (by have := HP.out; omega)⟩, (own_row HK.out (Nat.lt_succ_self p)).cm, (own_row HCC.out (Nat.lt_succ_self p)).cm, HV.out, own_head HK.out, own_head HCC.out⟩
        by_cases hc1 : cap = 1
        · subst hc1
          obtain rfl : n = 1 := by omega
          as_aux_lemma =>
          have HX : Hid (Cm w5 (.slice po 0 0) []) := Lib.hid (cm_drop0 HC5.out (Nat.le_refl 1))
          clear HC5
          have hFw : F < w5.heap.size := hT.lt (b := F) (o := fq 5 0 (.slice none 0 0) 0 0 (.slice none 0 0)) (by simp)
          have hpw : p + 1 ≤ w5.heap.size := by have := HA.out; omega
          have HTF := Lib.hid hT
          clear hT a1 a2 a3 a4 a5 f0 f1 f2 f3 f4 f5
          go_upto_region 20 with fail
          clear a0
          go_upto_region 26 with (go_at_call 16; (with_reducible refine (made_own _ _ _ HX.out).mono ?_); rintro e w6 ⟨po6, n6, cap6, rfl, ho6, hb6⟩; have hT6 := HTF.out.later hb6; have a5 := hT6.cell (b := F) (cs := #[.int .i64 5, .int .i64 0, .slice none 0 0, .int .i64 0, .int .i64 0, .slice none 0 0]) (t := 25) (by simp) 5; simp only [List.getElem?_toArray, List.getElem?_cons_succ, List.getElem?_cons_zero] at a5; have f5 := hT6.frozen (b := F) (cs := #[.int .i64 5, .int .i64 0, .slice none 0 0, .int .i64 0, .int .i64 0, .slice none 0 0]) (t := 25) (by simp) 5; have HT6 := Lib.hid hT6; have HO6 := Lib.hid ho6; clear hT6 ho6 hb6)
          have hT2 := put5 HT6.out hFb hFL (.slice po6 n6 cap6)
          have ho2 := own_mono (own_low (x := .slice po6 n6 cap6) (j := 5) HO6.out hFw) hpw
          clear a5 f5 HT6 HO6
          generalize w6.setCell ⟨F, 5, none⟩ (.slice po6 n6 cap6) = WW at hT2 ho2 ⊢
          have HT := Lib.hid hT2; clear hT2
          obtain ⟨ks, hks⟩ : ∃ ks : List Int, ks = [] := ⟨_, rfl⟩
          obtain ⟨cs, hcs⟩ : ∃ cs : List Int, cs = madeL [] := ⟨_, rfl⟩
          rw [← hcs] at ho2
          have HK : Hid (OwnsI (p + 1) WW (.slice none 0 0) ks) := by subst hks; exact own_nil _ _
          have HCC := Lib.hid ho2; clear ho2
          have HV : Hid (vf 5 0 ks 0 0 cs = true) := by subst hks hcs; unfold Hid; simp [vf, nof, (cvb_iff _).2 (made_cv _)]
          clear hks hcs
          have hRF := HT.out.row (b := F) (o := fq (5) (0) (.slice none 0 0) (0) (0) (.slice po6 n6 cap6)) (by simp)
          have hRP := HT.out.row (b := p) (o := fq 0 0 (.slice none 0 0) 0 0 (.slice none 0 0)) (by simp)
          have HB := Lib.hid HT.out.below
          clear c1 c2 HT
          go_wp2_with (first
            | (refine wl_load rfl 25 _ rfl (ld_fq hRF) ?_)
            | (refine wl_store rfl 25 _ _ rfl (st_fq hRP) ?_))
          exact bodyPost_ret (res_fq rfl (setRow_heap _ _ _ _ _ (0, 0) hRP)) rfl ⟨_, _, _, _, _, _, ks, cs, rfl, HB.out.trans ⟨rfl, rfl, rfl, by simp [World.setRow], fun k hk => setRow_other _ _ _ _ (by have := HP.out; omega)⟩, (own_row HK.out (Nat.lt_succ_self p)).cm, (own_row HCC.out (Nat.lt_succ_self p)).cm, HV.out, own_head HK.out, own_head HCC.out⟩
        have hn1 : 1 ≤ n := by omega
        as_aux_lemma =>
        have HX : Hid (Cm w5 (.slice (po.map fun x => { block := x.block, off := x.off + 1 }) (n - 1) (cap - 1)) (l.drop 1)) := Lib.hid (cm_drop1 HC5.out hn1)
        clear HC5
        have hFw : F < w5.heap.size := hT.lt (b := F) (o := fq 5 0 (.slice none 0 0) 0 0 (.slice none 0 0)) (by simp)
        have hpw : p + 1 ≤ w5.heap.size := by have := HA.out; omega
        have HTF := Lib.hid hT
        clear hT a1 a2 a3 a4 a5 f0 f1 f2 f3 f4 f5
        go_upto_region 20 with fail
        clear a0
        go_upto_region 26 with (go_at_call 16; (with_reducible refine (made_own _ _ _ HX.out).mono ?_); rintro e w6 ⟨po6, n6, cap6, rfl, ho6, hb6⟩; have hT6 := HTF.out.later hb6; have a5 := hT6.cell (b := F) (cs := #[.int .i64 5, .int .i64 0, .slice none 0 0, .int .i64 0, .int .i64 0, .slice none 0 0]) (t := 25) (by simp) 5; simp only [List.getElem?_toArray, List.getElem?_cons_succ, List.getElem?_cons_zero] at a5; have f5 := hT6.frozen (b := F) (cs := #[.int .i64 5, .int .i64 0, .slice none 0 0, .int .i64 0, .int .i64 0, .slice none 0 0]) (t := 25) (by simp) 5; have HT6 := Lib.hid hT6; have HO6 := Lib.hid ho6; clear hT6 ho6 hb6)
        have hT2 := put5 HT6.out hFb hFL (.slice po6 n6 cap6)
        have ho2 := own_mono (own_low (x := .slice po6 n6 cap6) (j := 5) HO6.out hFw) hpw
        clear a5 f5 HT6 HO6
        generalize w6.setCell ⟨F, 5, none⟩ (.slice po6 n6 cap6) = WW at hT2 ho2 ⊢
        have HT := Lib.hid hT2; clear hT2
        obtain ⟨ks, hks⟩ : ∃ ks : List Int, ks = [] := ⟨_, rfl⟩
        obtain ⟨cs, hcs⟩ : ∃ cs : List Int, cs = madeL (l.drop 1) := ⟨_, rfl⟩
        rw [← hcs] at ho2
        have HK : Hid (OwnsI (p + 1) WW (.slice none 0 0) ks) := by subst hks; exact own_nil _ _
        have HCC := Lib.hid ho2; clear ho2
        have HV : Hid (vf 5 0 ks 0 0 cs = true) := by subst hks hcs; unfold Hid; simp [vf, nof, (cvb_iff _).2 (made_cv _)]
        clear hks hcs
        have hRF := HT.out.row (b := F) (o := fq (5) (0) (.slice none 0 0) (0) (0) (.slice po6 n6 cap6)) (by simp)
        have hRP := HT.out.row (b := p) (o := fq 0 0 (.slice none 0 0) 0 0 (.slice none 0 0)) (by simp)
        have HB := Lib.hid HT.out.below
        clear c1 c2 HT
        go_wp2_with (first
          | (refine wl_load rfl 25 _ rfl (ld_fq hRF) ?_)
          | (refine wl_store rfl 25 _ _ rfl (st_fq hRP) ?_))
        exact bodyPost_ret (res_fq rfl (setRow_heap _ _ _ _ _ (0, 0) hRP)) rfl ⟨_, _, _, _, _, _, ks, cs, rfl, HB.out.trans ⟨rfl, rfl, rfl, by simp [World.setRow], fun k hk => setRow_other _ _ _ _ (by have := HP.out; omega)⟩, (own_row HK.out (Nat.lt_succ_self p)).cm, (own_row HCC.out (Nat.lt_succ_self p)).cm, HV.out, own_head HK.out, own_head HCC.out⟩
      · as_aux_lemma =>
        have a0 : w5.cell? ⟨F, 0, none⟩ = some (.int .i64 6) := hT.cell (b := F) (cs := #[.int .i64 6, .int .i64 0, .slice none 0 0, .int .i64 0, .int .i64 0, .slice none 0 0]) (t := 25) (by simp) 0
        have f0 := hT.frozen (b := F) (cs := #[.int .i64 6, .int .i64 0, .slice none 0 0, .int .i64 0, .int .i64 0, .slice none 0 0]) (t := 25) (by simp) 0
        have a1 : w5.cell? ⟨F, 1, none⟩ = some (.int .i64 0) := hT.cell (b := F) (cs := #[.int .i64 6, .int .i64 0, .slice none 0 0, .int .i64 0, .int .i64 0, .slice none 0 0]) (t := 25) (by simp) 1
        have f1 := hT.frozen (b := F) (cs := #[.int .i64 6, .int .i64 0, .slice none 0 0, .int .i64 0, .int .i64 0, .slice none 0 0]) (t := 25) (by simp) 1
        have a2 : w5.cell? ⟨F, 2, none⟩ = some (.slice none 0 0) := hT.cell (b := F) (cs := #[.int .i64 6, .int .i64 0, .slice none 0 0, .int .i64 0, .int .i64 0, .slice none 0 0]) (t := 25) (by simp) 2
        have f2 := hT.frozen (b := F) (cs := #[.int .i64 6, .int .i64 0, .slice none 0 0, .int .i64 0, .int .i64 0, .slice none 0 0]) (t := 25) (by simp) 2
        have a3 : w5.cell? ⟨F, 3, none⟩ = some (.int .i64 0) := hT.cell (b := F) (cs := #[.int .i64 6, .int .i64 0, .slice none 0 0, .int .i64 0, .int .i64 0, .slice none 0 0]) (t := 25) (by simp) 3
        have f3 := hT.frozen (b := F) (cs := #[.int .i64 6, .int .i64 0, .slice none 0 0, .int .i64 0, .int .i64 0, .slice none 0 0]) (t := 25) (by simp) 3
        have a4 : w5.cell? ⟨F, 4, none⟩ = some (.int .i64 0) := hT.cell (b := F) (cs := #[.int .i64 6, .int .i64 0, .slice none 0 0, .int .i64 0, .int .i64 0, .slice none 0 0]) (t := 25) (by simp) 4
        have f4 := hT.frozen (b := F) (cs := #[.int .i64 6, .int .i64 0, .slice none 0 0, .int .i64 0, .int .i64 0, .slice none 0 0]) (t := 25) (by simp) 4
        have a5 : w5.cell? ⟨F, 5, none⟩ = some (.slice none 0 0) := hT.cell (b := F) (cs := #[.int .i64 6, .int .i64 0, .slice none 0 0, .int .i64 0, .int .i64 0, .slice none 0 0]) (t := 25) (by simp) 5
        have f5 := hT.frozen (b := F) (cs := #[.int .i64 6, .int .i64 0, .slice none 0 0, .int .i64 0, .int .i64 0, .slice none 0 0]) (t := 25) (by simp) 5
        have hT2 := hT
        go_upto_region 26 with fail
        clear a0 f0 a1 f1 a2 f2 a3 f3 a4 f4 a5 f5 hT
        generalize w5 = WW at hT2 ⊢
        have HT := Lib.hid hT2; clear hT2
        obtain ⟨ks, hks⟩ : ∃ ks : List Int, ks = [] := ⟨_, rfl⟩
        obtain ⟨cs, hcs⟩ : ∃ cs : List Int, cs = [] := ⟨_, rfl⟩
        have HK : Hid (OwnsI (p + 1) WW (.slice none 0 0) ks) := by subst hks; exact own_nil _ _
        have HCC : Hid (OwnsI (p + 1) WW (.slice none 0 0) cs) := by subst hcs; exact own_nil _ _
        have HV : Hid (vf 6 0 ks (0) (0) cs = true) := by subst hks hcs; unfold Hid; simp [vf, wi, nof]; try omega
        clear hks hcs
        have hRF := HT.out.row (b := F) (o := fq (6) (0) (.slice none 0 0) (0) (0) (.slice none 0 0)) (by simp)
        have hRP := HT.out.row (b := p) (o := fq 0 0 (.slice none 0 0) 0 0 (.slice none 0 0)) (by simp)
        have HB := Lib.hid HT.out.below
        clear c1 c2 HT
        go_wp2_with (first
          | (refine wl_load rfl 25 _ rfl (ld_fq hRF) ?_)
          | (refine wl_store rfl 25 _ _ rfl (st_fq hRP) ?_))
        exact bodyPost_ret (res_fq rfl (setRow_heap _ _ _ _ _ (0, 0) hRP)) rfl ⟨_, _, _, _, _, _, ks, cs, rfl, HB.out.trans ⟨rfl, rfl, rfl, by simp [World.setRow], fun k hk => setRow_other _ _ _ _ (by have := HP.out; omega)⟩, (own_row HK.out (Nat.lt_succ_self p)).cm, (own_row HCC.out (Nat.lt_succ_self p)).cm, HV.out, own_head HK.out, own_head HCC.out⟩
      · as_aux_lemma =>
        have a0 : w5.cell? ⟨F, 0, none⟩ = some (.int .i64 7) := hT.cell (b := F) (cs := #[.int .i64 7, .int .i64 0, .slice none 0 0, .int .i64 0, .int .i64 0, .slice none 0 0]) (t := 25) (by simp) 0
        have f0 := hT.frozen (b := F) (cs := #[.int .i64 7, .int .i64 0, .slice none 0 0, .int .i64 0, .int .i64 0, .slice none 0 0]) (t := 25) (by simp) 0
        have a1 : w5.cell? ⟨F, 1, none⟩ = some (.int .i64 0) := hT.cell (b := F) (cs := #[.int .i64 7, .int .i64 0, .slice none 0 0, .int .i64 0, .int .i64 0, .slice none 0 0]) (t := 25) (by simp) 1
        have f1 := hT.frozen (b := F) (cs := #[.int .i64 7, .int .i64 0, .slice none 0 0, .int .i64 0, .int .i64 0, .slice none 0 0]) (t := 25) (by simp) 1
        have a2 : w5.cell? ⟨F, 2, none⟩ = some (.slice none 0 0) := hT.cell (b := F) (cs := #[.int .i64 7, .int .i64 0, .slice none 0 0, .int .i64 0, .int .i64 0, .slice none 0 0]) (t := 25) (by simp) 2
        have f2 := hT.frozen (b := F) (cs := #[.int .i64 7, .int .i64 0, .slice none 0 0, .int .i64 0, .int .i64 0, .slice none 0 0]) (t := 25) (by simp) 2
        have a3 : w5.cell? ⟨F, 3, none⟩ = some (.int .i64 0) := hT.cell (b := F) (cs := #[.int .i64 7, .int .i64 0, .slice none 0 0, .int .i64 0, .int .i64 0, .slice none 0 0]) (t := 25) (by simp) 3
        have f3 := hT.frozen (b := F) (cs := #[.int .i64 7, .int .i64 0, .slice none 0 0, .int .i64 0, .int .i64 0, .slice none 0 0]) (t := 25) (by simp) 3
        have a4 : w5.cell? ⟨F, 4, none⟩ = some (.int .i64 0) := hT.cell (b := F) (cs := #[.int .i64 7, .int .i64 0, .slice none 0 0, .int .i64 0, .int .i64 0, .slice none 0 0]) (t := 25) (by simp) 4
        have f4 := hT.frozen (b := F) (cs := #[.int .i64 7, .int .i64 0, .slice none 0 0, .int .i64 0, .int .i64 0, .slice none 0 0]) (t := 25) (by simp) 4
        have a5 : w5.cell? ⟨F, 5, none⟩ = some (.slice none 0 0) := hT.cell (b := F) (cs := #[.int .i64 7, .int .i64 0, .slice none 0 0, .int .i64 0, .int .i64 0, .slice none 0 0]) (t := 25) (by simp) 5
        have f5 := hT.frozen (b := F) (cs := #[.int .i64 7, .int .i64 0, .slice none 0 0, .int .i64 0, .int .i64 0, .slice none 0 0]) (t := 25) (by simp) 5
        obtain ⟨r, hr⟩ : ∃ r : Int, x1 % 257 = r := ⟨_, rfl⟩
        have hr2 : x1.tmod 257 = r := by rw [Int.tmod_eq_emod_of_nonneg b1.1]; exact hr
        have hrb : 0 ≤ r ∧ r < 257 := by omega
        obtain ⟨hr0, hr1⟩ := hrb
        have hT2 := put4 hT hFb hFL (.int .i64 r)
        go_upto_region 26 with fail
        clear a0 f0 a1 f1 a2 f2 a3 f3 a4 f4 a5 f5 hT
        generalize w5.setCell ⟨F, 4, none⟩ (.int .i64 r) = WW at hT2 ⊢
        have HT := Lib.hid hT2; clear hT2
        obtain ⟨ks, hks⟩ : ∃ ks : List Int, ks = [] := ⟨_, rfl⟩
        obtain ⟨cs, hcs⟩ : ∃ cs : List Int, cs = [] := ⟨_, rfl⟩
        have HK : Hid (OwnsI (p + 1) WW (.slice none 0 0) ks) := by subst hks; exact own_nil _ _
        have HCC : Hid (OwnsI (p + 1) WW (.slice none 0 0) cs) := by subst hcs; exact own_nil _ _
        have HV : Hid (vf 7 0 ks (0) (r) cs = true) := by subst hks hcs; unfold Hid; simp [vf, wi, nof]; try omega
        clear hks hcs
        have hRF := HT.out.row (b := F) (o := fq (7) (0) (.slice none 0 0) (0) (r) (.slice none 0 0)) (by simp)
        have hRP := HT.out.row (b := p) (o := fq 0 0 (.slice none 0 0) 0 0 (.slice none 0 0)) (by simp)
        have HB := Lib.hid HT.out.below
        clear c1 c2 HT
        go_wp2_with (first
          | (refine wl_load rfl 25 _ rfl (ld_fq hRF) ?_)
          | (refine wl_store rfl 25 _ _ rfl (st_fq hRP) ?_))
        exact bodyPost_ret (res_fq rfl (setRow_heap _ _ _ _ _ (0, 0) hRP)) rfl ⟨_, _, _, _, _, _, ks, cs, rfl, HB.out.trans ⟨rfl, rfl, rfl, by simp [World.setRow], fun k hk => setRow_other _ _ _ _ (by have := HP.out; omega)⟩, (own_row HK.out (Nat.lt_succ_self p)).cm, (own_row HCC.out (Nat.lt_succ_self p)).cm, HV.out, own_head HK.out, own_head HCC.out⟩
      · as_aux_lemma =>
        have a0 : w5.cell? ⟨F, 0, none⟩ = some (.int .i64 8) := hT.cell (b := F) (cs := #[.int .i64 8, .int .i64 0, .slice none 0 0, .int .i64 0, .int .i64 0, .slice none 0 0]) (t := 25) (by simp) 0
        have f0 := hT.frozen (b := F) (cs := #[.int .i64 8, .int .i64 0, .slice none 0 0, .int .i64 0, .int .i64 0, .slice none 0 0]) (t := 25) (by simp) 0
        have a1 : w5.cell? ⟨F, 1, none⟩ = some (.int .i64 0) := hT.cell (b := F) (cs := #[.int .i64 8, .int .i64 0, .slice none 0 0, .int .i64 0, .int .i64 0, .slice none 0 0]) (t := 25) (by simp) 1
        have f1 := hT.frozen (b := F) (cs := #[.int .i64 8, .int .i64 0, .slice none 0 0, .int .i64 0, .int .i64 0, .slice none 0 0]) (t := 25) (by simp) 1
        have a2 : w5.cell? ⟨F, 2, none⟩ = some (.slice none 0 0) := hT.cell (b := F) (cs := #[.int .i64 8, .int .i64 0, .slice none 0 0, .int .i64 0, .int .i64 0, .slice none 0 0]) (t := 25) (by simp) 2
        have f2 := hT.frozen (b := F) (cs := #[.int .i64 8, .int .i64 0, .slice none 0 0, .int .i64 0, .int .i64 0, .slice none 0 0]) (t := 25) (by simp) 2
        have a3 : w5.cell? ⟨F, 3, none⟩ = some (.int .i64 0) := hT.cell (b := F) (cs := #[.int .i64 8, .int .i64 0, .slice none 0 0, .int .i64 0, .int .i64 0, .slice none 0 0]) (t := 25) (by simp) 3
        have f3 := hT.frozen (b := F) (cs := #[.int .i64 8, .int .i64 0, .slice none 0 0, .int .i64 0, .int .i64 0, .slice none 0 0]) (t := 25) (by simp) 3
        have a4 : w5.cell? ⟨F, 4, none⟩ = some (.int .i64 0) := hT.cell (b := F) (cs := #[.int .i64 8, .int .i64 0, .slice none 0 0, .int .i64 0, .int .i64 0, .slice none 0 0]) (t := 25) (by simp) 4
        have f4 := hT.frozen (b := F) (cs := #[.int .i64 8, .int .i64 0, .slice none 0 0, .int .i64 0, .int .i64 0, .slice none 0 0]) (t := 25) (by simp) 4
        have a5 : w5.cell? ⟨F, 5, none⟩ = some (.slice none 0 0) := hT.cell (b := F) (cs := #[.int .i64 8, .int .i64 0, .slice none 0 0, .int .i64 0, .int .i64 0, .slice none 0 0]) (t := 25) (by simp) 5
        have f5 := hT.frozen (b := F) (cs := #[.int .i64 8, .int .i64 0, .slice none 0 0, .int .i64 0, .int .i64 0, .slice none 0 0]) (t := 25) (by simp) 5
        obtain ⟨r, hr⟩ : ∃ r : Int, x1 % 7 = r := ⟨_, rfl⟩
        have hr2 : x1.tmod 7 = r := by rw [Int.tmod_eq_emod_of_nonneg b1.1]; exact hr
        have hrb : 0 ≤ r ∧ r < 7 := by omega
        obtain ⟨hr0, hr1⟩ := hrb
        obtain ⟨s, hs⟩ : ∃ s : Int, x2 % 7 = s := ⟨_, rfl⟩
        have hs2 : x2.tmod 7 = s := by rw [Int.tmod_eq_emod_of_nonneg b2.1]; exact hs
        have hsb : 0 ≤ s ∧ s < 7 := by omega
        obtain ⟨hs0, hs1⟩ := hsb
        have hT2 := put4 (put1 hT hFb hFL (.int .i64 (r - 3))) hFb hFL (.int .i64 (s - 3))
        have hne : A ≠ F := by omega
        go_upto_region 26 with fail
        clear a0 f0 a1 f1 a2 f2 a3 f3 a4 f4 a5 f5 hT
        generalize (w5.setCell ⟨F, 1, none⟩ (.int .i64 (r - 3))).setCell ⟨F, 4, none⟩ (.int .i64 (s - 3)) = WW at hT2 ⊢
        have HT := Lib.hid hT2; clear hT2
        obtain ⟨ks, hks⟩ : ∃ ks : List Int, ks = [] := ⟨_, rfl⟩
        obtain ⟨cs, hcs⟩ : ∃ cs : List Int, cs = [] := ⟨_, rfl⟩
        have HK : Hid (OwnsI (p + 1) WW (.slice none 0 0) ks) := by subst hks; exact own_nil _ _
        have HCC : Hid (OwnsI (p + 1) WW (.slice none 0 0) cs) := by subst hcs; exact own_nil _ _
        have HV : Hid (vf 8 (r - 3) ks (0) (s - 3) cs = true) := by subst hks hcs; unfold Hid; simp [vf, wi, nof]; try omega
        clear hks hcs
        have hRF := HT.out.row (b := F) (o := fq (8) (r - 3) (.slice none 0 0) (0) (s - 3) (.slice none 0 0)) (by simp)
        have hRP := HT.out.row (b := p) (o := fq 0 0 (.slice none 0 0) 0 0 (.slice none 0 0)) (by simp)
        have HB := Lib.hid HT.out.below
        clear c1 c2 HT
        go_wp2_with (first
          | (refine wl_load rfl 25 _ rfl (ld_fq hRF) ?_)
          | (refine wl_store rfl 25 _ _ rfl (st_fq hRP) ?_))
        exact bodyPost_ret (res_fq rfl (setRow_heap _ _ _ _ _ (0, 0) hRP)) rfl ⟨_, _, _, _, _, _, ks, cs, rfl, HB.out.trans ⟨rfl, rfl, rfl, by simp [World.setRow], fun k hk => setRow_other _ _ _ _ (by have := HP.out; omega)⟩, (own_row HK.out (Nat.lt_succ_self p)).cm, (own_row HCC.out (Nat.lt_succ_self p)).cm, HV.out, own_head HK.out, own_head HCC.out⟩
theorem made_any (l : List Int) (S : Value) (w : World) (hc : Cm w S l) : Calls Tryz.prog 5 #[S] w (GotF w) :=
  (made_any2 l S w hc).mono fun _ _ ⟨k, r, d, v, K, C, ks, cs, h1, h2, h3, h4, h5, _⟩ => ⟨k, r, d, v, K, C, ks, cs, h1, h2, h3, h4, h5⟩
end Go.Proofs.YtbodmeiecdomfaaGreat.W
