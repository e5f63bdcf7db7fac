/-
  A raster that is being built: its variable's block, the slice of the call's own that the variable holds, one append a time. The reference's put (contract).
-/
import Derived.Test.YtfncldaodbfakaaGreatQRefV
namespace Go.Proofs.YtfncldaodbfakaaGreat.Q
open Go.RowKit T Go.Shelf
set_option maxRecDepth 100000
variable {V V' W w w' : World} {L : List (Nat × Obj)} {B m d : Nat} {q : Option Addr} {acc : List TA}

theorem St.keep (h : St W L V) (hL : ∀ x ∈ L, x.1 < B) (hW : W.heap.size ≤ B) (hb : Below B V V') : St W L V' :=
  ⟨h.below.trans (hb.mono hW), fun x hx => (hb.block x.1 (hL x hx)).trans (h.rows x hx)⟩
/-- block B holds the variable, its slice holds the tiles -/
structure PutS (W : World) (B : Nat) (L : List (Nat × Obj)) (q : Option Addr) (m d : Nat) (acc : List TA) (V : World) : Prop where
  st : St W ((B, rob q m d) :: L) V
  own : OT (B + 1) V (.slice q m d) acc
  lo : ∀ x ∈ L, x.1 < B
  hW : W.heap.size ≤ B
theorem PutS.later (h : PutS W B L q m d acc V) (hb : Below V.heap.size V V') : PutS W B L q m d acc V' := ⟨h.st.later hb, ot_below h.own hb, h.lo, h.hW⟩
theorem PutS.drew (h : PutS W B L q m d acc V) : PutS W B L q m d acc V.drew := h.later (Below.refl _ V).drew
theorem PutS.lt (h : PutS W B L q m d acc V) : B < V.heap.size := h.st.lt (List.mem_cons_self ..)
theorem PutS.rs (h : PutS W B L q m d acc V) (hl : acc.length ≤ 100000) : RS V q m d acc := by
  obtain ⟨p, n, c, e, hr, _⟩ := ot_rs h.own hl
  cases e
  exact hr
theorem ot_cell {v : Value} {l : List TA} (h : OT (B + 1) V v l) (u : Value) : OT (B + 1) (V.setCell ⟨B, 0, none⟩ u) v l := by
  obtain ⟨hl, h | ⟨g, cap, cur, hv, hg, hh, h⟩⟩ := h
  · exact ⟨hl, .inl h⟩
  · exact ⟨hl, .inr ⟨g, cap, cur, hv, hg, (Below.heap_setCell _ _ _ _ (show g ≠ B by omega)).trans hh, h⟩⟩
theorem PutS.step (a : TA) (h : PutS W B L q m d acc V) (hl : acc.length ≤ 5000) :
    ∃ q' m' d' w', (Builtin.append_ #[24, 24] 24 #[.slice q m d, .slice (some ⟨V.heap.size, 0, none⟩) 1 1]).run Tryz.prog (V.alloc (taob a)) = .ok (.slice q' m' d') w' ∧
      w'.cell? ⟨B, 0, none⟩ = some (.slice q m d) ∧ w'.frozen? ⟨B, 0, none⟩ = false ∧ St W L w' ∧ PutS W B L q' m' d' (acc ++ [a]) (w'.setCell ⟨B, 0, none⟩ (.slice q' m' d')) := by
  have hlt := h.lt
  obtain ⟨v', w', hrun, ho, hb, _, _⟩ := run_appT (B + 1) (V.alloc (taob a)) (.slice q m d) acc [a] (some ⟨V.heap.size, 0, none⟩) 1 1 24 (ot_below h.own ((Below.refl _ V).alloc (Nat.le_refl _) _)) (RS.one a V) (by omega) (by omega) (by simp; omega)
  obtain ⟨q', m', d', rfl, _, _⟩ := ot_rs ho (by simp; omega)
  have h1 : St W ((B, rob q m d) :: L) (V.alloc (taob a)) := (h.st.alloc (taob a)).sub fun x hx => List.mem_cons_of_mem _ hx
  have hW := h.hW
  have h2 : St W ((B, rob q m d) :: L) w' := St.keep h1 (B := B + 1) (fun x hx => by
    rcases List.mem_cons.1 hx with rfl | hx
    · exact Nat.lt_succ_self _
    · exact Nat.lt_succ_of_lt (h.lo x hx)) (by omega) hb
  have h3 : St W L w' := h2.sub fun x hx => List.mem_cons_of_mem _ hx
  refine ⟨q', m', d', w', hrun, h2.cell (List.mem_cons_self ..) 0, h2.frozen (List.mem_cons_self ..) 0, h3, ⟨?_, ot_cell ho _, h.lo, h.hW⟩⟩
  have h4 := h3.set (b := B) (j := 0) (v := .slice q' m' d') hW (fun x hx => Nat.ne_of_lt (h.lo x hx))
  refine ⟨h4.below, fun x hx => ?_⟩
  rcases List.mem_cons.1 hx with rfl | hx
  · have := h2.row (List.mem_cons_self ..)
    simp [World.setCell, Array.getElem?_modify, this]
  · exact h4.rows x hx
/-- putting a tile into a list of tiles, in the reference's way -/
def pgo (x y : Int) (g : Nat → Px) : Bool → List TA → List TA
  | dn, [] => if dn then [] else [⟨x, y, g⟩]
  | dn, a :: l => (if !dn && decide (cmpP x y a.x a.y < 0) then [⟨x, y, g⟩] else []) ++ ((if decide (a.x = x ∧ a.y = y) then [] else [a]) ++ pgo x y g (dn || decide (cmpP x y a.x a.y < 0)) l)
def rput (l : List TA) (x y : Int) (f : Nat → Px) : List TA := pgo x y (fun i => cln (f i)) (tz (fun i => cln (f i))) l
variable {o : Oper} {a : Act} {K : Act → World → Prop} {Q : Exit → Act → World → Prop}
theorem wp_slice1 (x : Operand) (ho : o.op = .buildSlice 24 1 #[(0, x)]) (c : TA) (hx : a.eval x = tav c) (h : K (a.put o.dst (.slice (some ⟨w.heap.size, 0, none⟩) 1 1)) (w.alloc (taob c))) : o.wp Tryz.prog a w K Q := by
  have hr := run_slice1 c w
  unfold Oper.wp execOp
  have hl' : (Instr.buildSlice 24 1 ((#[(0, x)] : Array (Nat × Operand)).map fun (i, x) => (i, a.eval x))).run Tryz.prog w = .ok (.slice (some ⟨w.heap.size, 0, none⟩) 1 1) (w.alloc (taob c)) := by simpa [hx] using hr
  simp only [ho, Sem.run_bind, hl', Result.andThen_ok, Sem.run_pure]
  exact h
theorem wp_app (sl x : Operand) (t ty : TypeId) (ho : o.op = .call { callee := .builtin .append, args := #[sl, x], argTypes := #[t, t] }) (hty : o.type = ty) (vs vx v' : Value) (hs : a.eval sl = vs) (hx : a.eval x = vx)
    (hr : (Builtin.append_ #[t, t] ty #[vs, vx]).run Tryz.prog w = .ok v' w') (h : K (a.put o.dst v') w') : o.wp Tryz.prog a w K Q := by
  unfold Oper.wp execOp
  simp only [ho, resolve, invoke, builtin, Sem.run_bind, Sem.run_pure, Result.andThen_ok, List.map_toArray, List.map_cons, List.map_nil, hs, hx, hty, hr]
  exact h
theorem st_sl {b : Nat} {q' : Option Addr} {m' d' : Nat} (hc : w.cell? ⟨b, 0, none⟩ = some (.slice q m d)) (hf : w.frozen? ⟨b, 0, none⟩ = false) : (Instr.storeAt 24 (.pointer (some ⟨b, 0, none⟩)) (.slice q' m' d')).run Tryz.prog w = .ok () (w.setCell ⟨b, 0, none⟩ (.slice q' m' d')) := by
  have hz := Tryz.sizeOf24 w
  simp [Instr.storeAt, Instr.sureAddr, storeVar, hz, Value.cells, storeCells, hc, hf, Addr.add, go_sem]
end Go.Proofs.YtfncldaodbfakaaGreat.Q

namespace Go.Proofs.YtfncldaodbfakaaGreat.Q
open Go.RowKit T Go.Shelf
set_option maxRecDepth 100000
variable {V W w w' : World} {L : List (Nat × Obj)}

theorem ld_pp {b : Nat} {x y : Int} (h : V.heap[b]? = some (po2 x y)) : (Instr.loadAt 40 (.pointer (some ⟨b, 0, none⟩))).run Tryz.prog V = .ok (pv2 x y) V := by
  have ha : (Instr.sureAddr (.pointer (some ⟨b, 0, none⟩))).run Tryz.prog V = .ok ⟨b, 0, none⟩ V := rfl
  simp only [Instr.loadAt, Sem.run_bind, ha, Result.andThen_ok, run_loadVar_row V b 40 40 #[.int .i64 x, .int .i64 y] (0, 0) _ h Tryz.underlying40 rfl (by kernel_rfl)]
theorem stl {x : Nat × Obj} (h : St W (x :: L) w) : St W L w := h.sub fun _ hx => List.mem_cons_of_mem _ hx
theorem res_r {fn : Func} {p : Tmp} (h : fn.results = #[.cell p 26]) (tmps : Array Value) (w : World) (g : Nat) (q : Option Addr) (n c : Nat) (hp : tmps.getD p undef = .pointer (some ⟨g, 0, none⟩)) (hrow : w.heap[g]? = some (rob q n c)) :
    (results fn tmps).run Tryz.prog w = .ok (rv1 q n c) w :=
  results_cell_row h tmps w g _ _ _ _ hp hrow Tryz.underlying26 rfl (by kernel_rfl)
theorem ot_cell2 {B b : Nat} {v : Value} {l : List TA} (h : OT B V v l) (hb : b < B) (u : Value) : OT B (V.setCell ⟨b, 0, none⟩ u) v l := by
  obtain ⟨hl, h | ⟨g, cap, cur, hv, hg, hh, h⟩⟩ := h
  · exact ⟨hl, .inl h⟩
  · exact ⟨hl, .inr ⟨g, cap, cur, hv, hg, (Below.heap_setCell _ _ _ _ (show g ≠ b by omega)).trans hh, h⟩⟩
theorem PutS.fin {B m d b : Nat} {q : Option Addr} {acc : List TA} (h : PutS W B L q m d acc V) (hb : W.heap.size ≤ b) (hm : (b, rob none 0 0) ∈ L) (hl : acc.length ≤ 100000) :
    (V.setCell ⟨b, 0, none⟩ (.slice q m d)).heap[b]? = some (rob q m d) ∧ RS (V.setCell ⟨b, 0, none⟩ (.slice q m d)) q m d acc ∧ Below W.heap.size W (V.setCell ⟨b, 0, none⟩ (.slice q m d)) := by
  have hr := h.st.row (List.mem_cons_of_mem _ hm)
  refine ⟨by simp [World.setCell, Array.getElem?_modify, hr], ?_, h.st.below.setCell (p := ⟨b, 0, none⟩) hb _⟩
  obtain ⟨p, n, c, e, hrs, _⟩ := ot_rs (ot_cell2 h.own (Nat.lt_succ_of_lt (h.lo _ hm)) (.slice q m d)) hl
  cases e
  exact hrs
set_option maxHeartbeats 8000000 in
theorem rput_any (p : Option Addr) (n c : Nat) (l : List TA) (x y : Int) (f : Nat → Px) (w : World) (hr : RS w p n c l) (hn : n ≤ 2000) : Calls Tryz.prog 102 #[rv1 p n c, pv2 x y, tv f] w fun e w' => ∃ q m d, e = .returned (rv1 q m d) ∧ RS w' q m d (rput l x y f) ∧ Below w.heap.size w w' := by
  have hs := (((((St.start w).alloc (rob p n c)).alloc (po2 x y)).alloc (tob f)).alloc (rob none 0 0)).alloc (rob none 0 0)
  simp only [World.size_alloc] at hs
  have HN := Lib.hid hr.len
  have HR := Lib.hid hr
  have H1 := Lib.hid hs
  have HE : Hid (rput l x y f = pgo x y (fun i => cln (f i)) (tz (fun i => cln (f i))) l) := rfl
  generalize rput l x y f = RES at *
  clear hr hs
  go_enter Tryz.func102, Tryz.ntmps102
  go_upto_region 2 with (first
    | ((with_reducible refine sBuild0 (ty := 26) (v := rv1 none 0 0) ?_ ?_); · exact built_ra0 _))
  generalize (((((w.alloc (.cells #[.slice p n c] 26)).alloc (.cells #[.int .i64 x, .int .i64 y] 40)).alloc (.cells (tc f) 38)).alloc (.cells #[.slice none 0 0] 26)).alloc (.cells #[.slice none 0 0] 26)) = V1 at H1 ⊢
  have h1 := H1.out
  have HL1 := Lib.hid (load_tile _ f _ (h1.row (b := w.heap.size + 1 + 1) (o := tob f) (by simp)))
  clear H1
  go_upto_region 3 with (first
    | ((with_reducible refine sLoad (ty := 38) (v := tv f) ?_ ?_); · exact HL1.out)
    | (go_at_call 112; with_reducible refine (h1.call (refTClean_any f _)).mono ?_; rintro e V2 ⟨rfl, h2⟩; have HR2 := Lib.hid (h2.row (b := w.heap.size + 1 + 1) (o := tob f) (by simp)))
    | ((with_reducible refine sStore (ty := 38) (w' := V2.setRow (w.heap.size + 1 + 1) (tc (fun i => cln (f i)))) ?_ ?_); · exact store_tile _ f _ _ HR2.out))
  have h3 : St w [(w.heap.size + 1 + 1, tob (fun i => cln (f i))), (w.heap.size + 1 + 1 + 1 + 1, rob none 0 0), (w.heap.size + 1 + 1 + 1, rob none 0 0), (w.heap.size + 1, po2 x y), (w.heap.size, rob p n c)] (V2.setRow (w.heap.size + 1 + 1) (tc (fun i => cln (f i)))) :=
    T.St.rowset (cs := tc f) (h2.sub (L' := [(w.heap.size + 1 + 1, tob f), (w.heap.size + 1 + 1 + 1 + 1, rob none 0 0), (w.heap.size + 1 + 1 + 1, rob none 0 0), (w.heap.size + 1, po2 x y), (w.heap.size, rob p n c)]) (by simp)) (by omega) (by simp; omega)
  try simp only [Act.put]
  generalize V2.setRow (w.heap.size + 1 + 1) (tc (fun i => cln (f i))) = V3 at h3 ⊢
  generalize (fun i => cln (f i)) = g at *
  have HL3 := Lib.hid (load_tile _ g _ (h3.row (b := w.heap.size + 1 + 1) (o := tob g) (by simp)))
  clear h1 h2 HL1 HR2
  go_upto_region 6 with (first
    | ((with_reducible refine sLoad (ty := 38) (v := tv g) ?_ ?_); · exact HL3.out)
    | (go_at_call 47; with_reducible refine (h3.call (refZero_any g _)).mono ?_; rintro e V4 ⟨rfl, h4⟩))
  generalize tz g = z0' at *
  have H4 : Hid (PutS w (w.heap.size + 1 + 1 + 1 + 1) [(w.heap.size + 1 + 1 + 1, rob none 0 0), (w.heap.size + 1 + 1, tob g), (w.heap.size + 1, po2 x y), (w.heap.size, rob p n c)] none 0 0 [] V4) := Lib.hid ⟨h4.sub (by simp), ⟨rfl, .inl ⟨rfl, rfl⟩⟩, by simp; omega, by omega⟩
  clear h3 h4 HL3
  go_loopw [9, 10] (fun dn i wr => ∃ (k m d : Nat) (q : Option Addr) (acc : List TA) (b : Bool), k ≤ n ∧ i = .int .i64 k ∧ dn = .bool b ∧ Hid (PutS w (w.heap.size + 1 + 1 + 1 + 1) [(w.heap.size + 1 + 1 + 1, rob none 0 0), (w.heap.size + 1 + 1, tob g), (w.heap.size + 1, po2 x y), (w.heap.size, rob p n c)] q m d acc wr) ∧ Hid (acc ++ pgo x y g b (l.drop k) = RES) ∧ Hid (acc.length ≤ 2 * k)) (fun _ i _ => n - (intOf i).toNat)
  case atStart => exact ⟨0, 0, 0, none, [], z0', by omega, rfl, rfl, H4, by rw [HE.out]; rfl, by simp [Hid]⟩
  case round =>
    obtain ⟨k, m, d, q, acc, b, hk, rfl, rfl, HD, HQ, HLN⟩ := hrel
    clear H4
    have hd := HD.out
    have hc3 : wr.cell? ⟨w.heap.size, 0, none⟩ = some (.slice p n c) := hd.st.cell (b := w.heap.size) (cs := #[.slice p n c]) (t := 26) (by simp) 0
    have hlen : acc.length ≤ 5000 := by have := HLN.out; omega
    by_cases hlt : k < n
    · obtain ⟨a, ha⟩ : ∃ a, l[k]? = some a := ⟨l[k]'(by have := HN.out; omega), List.getElem?_eq_getElem _⟩
      have hix := index_ta HR.out hlt
      have HAA := Lib.hid ha
      have HDR : Hid (l.drop k = a :: l.drop (k + 1)) := by
        obtain ⟨h1, h2⟩ := List.getElem?_eq_some_iff.1 ha
        unfold Hid
        rw [List.drop_eq_getElem_cons h1, h2]
      clear ha HD
      go_upto_region 8 with fail
      clear hc3
      have hd := hd.drew
      have HQ2 : Hid (acc ++ ((if !b && decide (cmpP x y a.x a.y < 0) then [⟨x, y, g⟩] else []) ++ ((if decide (a.x = x ∧ a.y = y) then [] else [a]) ++ pgo x y g (b || decide (cmpP x y a.x a.y < 0)) (l.drop (k + 1)))) = RES) := by
        have h := HQ.out
        rw [HDR.out] at h
        exact h
      clear HQ HDR
      cases b
      · skip
        refine wp_region_held_drew (S := fun V9 => St w [(w.heap.size + 1 + 1 + 1, rob none 0 0), (w.heap.size + 1 + 1, tob g), (w.heap.size + 1, po2 x y), (w.heap.size, rob p n c)] V9) (by kernel_rfl) ?_ (fun hHeld => ?_)
        · exact (stl hd.st)
        refine wpAnyH_take (i := 0) (oi := { dst := some 24, op := Op.move (Operand.tmp 9), type := 4, pos := "ref.go:75", after := #[], guard := none }) (v := ?_) rfl (by kernel_rfl) (by kernel_rfl) (by kernel_rfl) (fun _ _ _ h => h) (Or.inl ⟨by kernel_rfl, ?_⟩) (by assumption) ?_
        rotate_left 1
        focus (intro w hSw; (try dsimp only at hSw); go_simp; (try with_reducible rfl))
        try simp only [Act.put, List.setIfInBounds_toArray, List.set_cons_zero, List.set_cons_succ]
        refine wpAnyH_take (i := 1) (oi := { dst := some 25, op := Op.unOp UnOp.not 4 (Operand.tmp 24), type := 4, pos := "ref.go:75", after := #[{ on := 0, ground := Ground.data }], guard := none }) (v := ?_) rfl (by kernel_rfl) (by kernel_rfl) (by kernel_rfl) (fun _ _ _ h => h) (Or.inl ⟨by kernel_rfl, ?_⟩) (by assumption) ?_
        rotate_left 1
        focus (intro w hSw; (try dsimp only at hSw); go_simp; (try with_reducible rfl))
        try simp only [Act.put, List.setIfInBounds_toArray, List.set_cons_zero, List.set_cons_succ]
        refine wpAnyH_take (i := 2) (oi := { dst := some 26, op := Op.move (Operand.tmp 25), type := 4, pos := "ref.go:75", after := #[{ on := 1, ground := Ground.data }], guard := none }) (v := ?_) rfl (by kernel_rfl) (by kernel_rfl) (by kernel_rfl) (fun _ _ _ h => h) (Or.inl ⟨by kernel_rfl, ?_⟩) (by assumption) ?_
        rotate_left 1
        focus (intro w hSw; (try dsimp only at hSw); go_simp; (try with_reducible rfl))
        try simp only [Act.put, List.setIfInBounds_toArray, List.set_cons_zero, List.set_cons_succ]
        refine wpAnyH_take (i := 3) (oi := { dst := some 27, op := Op.load 40 (Operand.tmp 4), type := 40, pos := "ref.go:75", after := #[{ on := 2, ground := Ground.guard }], guard := some (2, true) }) rfl (by kernel_rfl) (by kernel_rfl) (by kernel_rfl) (fun _ _ _ h => h) (yields_load (by kernel_rfl) 40 (.tmp 4) rfl (pv2 x y) (fun V9 hV => ld_pp (hV.row (b := w.heap.size + 1) (o := po2 x y) (by simp)))) (by assumption) ?_
        try simp only [Act.put, List.setIfInBounds_toArray, List.set_cons_zero, List.set_cons_succ]
        refine wpAnyH_take (i := 4) (oi := { dst := some 28, op := Op.fieldAddr 26 (Operand.tmp 3) 0, type := 0, pos := "ref.go:75", after := #[{ on := 2, ground := Ground.guard }], guard := some (2, true) }) (v := ?_) rfl (by kernel_rfl) (by kernel_rfl) (by kernel_rfl) (fun _ _ _ h => h) (Or.inl ⟨by kernel_rfl, ?_⟩) (by assumption) ?_
        rotate_left 1
        focus (intro w hSw; (try dsimp only at hSw); go_simp; (try with_reducible rfl))
        try simp only [Act.put, List.setIfInBounds_toArray, List.set_cons_zero, List.set_cons_succ]
        refine wpAnyH_take (i := 5) (oi := { dst := some 29, op := Op.load 24 (Operand.tmp 28), type := 24, pos := "ref.go:75", after := #[{ on := 4, ground := Ground.data }, { on := 2, ground := Ground.guard }], guard := some (2, true) }) rfl (by kernel_rfl) (by kernel_rfl) (by kernel_rfl) (fun _ _ _ h => h) (yields_load (by kernel_rfl) 24 (.tmp 28) rfl (.slice p n c) (fun V9 hV => ld_slc (hV.row (b := w.heap.size) (o := rob p n c) (by simp)))) (by assumption) ?_
        try simp only [Act.put, List.setIfInBounds_toArray, List.set_cons_zero, List.set_cons_succ]
        refine wpAnyH_take (i := 6) (oi := { dst := some 30, op := Op.move (Operand.tmp 10), type := 3, pos := "ref.go:75", after := #[{ on := 2, ground := Ground.guard }], guard := some (2, true) }) (v := ?_) rfl (by kernel_rfl) (by kernel_rfl) (by kernel_rfl) (fun _ _ _ h => h) (Or.inl ⟨by kernel_rfl, ?_⟩) (by assumption) ?_
        rotate_left 1
        focus (intro w hSw; (try dsimp only at hSw); go_simp; (try with_reducible rfl))
        try simp only [Act.put, List.setIfInBounds_toArray, List.set_cons_zero, List.set_cons_succ]
        refine wpAnyH_take (i := 7) (oi := { dst := some 31, op := Op.indexAddr 24 (Operand.tmp 29) (Operand.tmp 30), type := 0, pos := "ref.go:75", after := #[{ on := 5, ground := Ground.data }, { on := 6, ground := Ground.data }, { on := 2, ground := Ground.guard }], guard := some (2, true) }) (v := ?_) rfl (by kernel_rfl) (by kernel_rfl) (by kernel_rfl) (fun _ _ _ h => h) (Or.inl ⟨by kernel_rfl, ?_⟩) (by assumption) ?_
        rotate_left 1
        focus (intro w hSw; (try dsimp only at hSw); go_simp; (try with_reducible rfl))
        try simp only [Act.put, List.setIfInBounds_toArray, List.set_cons_zero, List.set_cons_succ]
        refine wpAnyH_take (i := 8) (oi := { dst := some 32, op := Op.fieldAddr 42 (Operand.tmp 31) 0, type := 0, pos := "ref.go:75", after := #[{ on := 7, ground := Ground.data }, { on := 2, ground := Ground.guard }], guard := some (2, true) }) (v := ?_) rfl (by kernel_rfl) (by kernel_rfl) (by kernel_rfl) (fun _ _ _ h => h) (Or.inl ⟨by kernel_rfl, ?_⟩) (by assumption) ?_
        rotate_left 1
        focus (intro w hSw; (try dsimp only at hSw); go_simp; (try with_reducible rfl))
        try simp only [Act.put, List.setIfInBounds_toArray, List.set_cons_zero, List.set_cons_succ]
        refine wpAnyH_take (i := 9) (oi := { dst := some 33, op := Op.load 40 (Operand.tmp 32), type := 40, pos := "ref.go:75", after := #[{ on := 8, ground := Ground.data }, { on := 2, ground := Ground.guard }], guard := some (2, true) }) rfl (by kernel_rfl) (by kernel_rfl) (by kernel_rfl) (fun _ _ _ h => h) (yields_load (by kernel_rfl) 40 (.tmp 32) rfl (pv2 a.x a.y) (fun V9 hV => load_pos (HR.out.later hV.below) HAA.out)) (by assumption) ?_
        try simp only [Act.put, List.setIfInBounds_toArray, List.set_cons_zero, List.set_cons_succ]
        refine wpAnyH_ready (rs := [10]) (by kernel_rfl) (by simp) (AllReadyH.cons (o := { dst := some 34, op := Op.call { callee := Callee.value (Operand.func 113), args := #[Operand.tmp 27, Operand.tmp 33], argTypes := #[40, 40] }, type := 4, pos := "ref.go:75", after := #[{ on := 3, ground := Ground.data }, { on := 9, ground := Ground.data }, { on := 2, ground := Ground.chain }, { on := 2, ground := Ground.guard }], guard := some (2, true) }) rfl (fun K hK => ?_) AllReadyH.nil)
        (go_simp; (go_at_call 113; (with_reducible refine (less_any _ _ _ _ _).mono ?_); rintro e V1r8 ⟨rfl, hbhd1r8⟩))
        have hd1r8 := hd.later hbhd1r8
        refine hK.out _ _ ?_ (fun hHeld => ?_)
        · exact (stl hd1r8.st)
        clear hK K
        try simp only [Act.put, List.setIfInBounds_toArray, List.set_cons_zero, List.set_cons_succ]
        refine wpAnyH_take (i := 11) (oi := { dst := some 35, op := Op.pick (Operand.tmp 26) (Operand.tmp 34) (Operand.const (Value.bool false)), type := 4, pos := "ref.go:75", after := #[{ on := 2, ground := Ground.data }, { on := 10, ground := Ground.data }], guard := none }) (v := ?_) rfl (by kernel_rfl) (by kernel_rfl) (by kernel_rfl) (fun _ _ _ h => h) (Or.inl ⟨by kernel_rfl, ?_⟩) (by assumption) ?_
        rotate_left 1
        focus (intro w hSw; (try dsimp only at hSw); go_simp; (try with_reducible rfl))
        try simp only [Act.put, List.setIfInBounds_toArray, List.set_cons_zero, List.set_cons_succ]
        refine wpAnyH_done (by kernel_rfl) ?_ _
        have hd := hd1r8
        generalize decide (cmpP x y a.x a.y < 0) = z at HQ2 ⊢
        cases z
        · have HQ3 : Hid (acc ++ ((if decide (a.x = x ∧ a.y = y) then [] else [a]) ++ pgo x y g false (l.drop (k + 1))) = RES) := by rw [← HQ2.out]; simp [Hid]
          have HLN3 : Hid (acc.length ≤ 2 * k + 1) := by have := HLN.out; unfold Hid; omega
          clear HQ2 HLN
          go_upto_region 11 with fail
          have hd := hd.drew
          refine wp_region_held_drew (S := fun V9 => St w [(w.heap.size + 1 + 1 + 1, rob none 0 0), (w.heap.size + 1 + 1, tob g), (w.heap.size + 1, po2 x y), (w.heap.size, rob p n c)] V9) (by kernel_rfl) ?_ (fun hHeld => ?_)
          · exact (stl hd.st)
          refine wpAnyH_take (i := 0) (oi := { dst := some 44, op := Op.fieldAddr 26 (Operand.tmp 3) 0, type := 0, pos := "ref.go:79", after := #[], guard := none }) (v := ?_) rfl (by kernel_rfl) (by kernel_rfl) (by kernel_rfl) (fun _ _ _ h => h) (Or.inl ⟨by kernel_rfl, ?_⟩) (by assumption) ?_
          rotate_left 1
          focus (intro w hSw; (try dsimp only at hSw); go_simp; (try with_reducible rfl))
          try simp only [Act.put, List.setIfInBounds_toArray, List.set_cons_zero, List.set_cons_succ]
          refine wpAnyH_take (i := 1) (oi := { dst := some 45, op := Op.load 24 (Operand.tmp 44), type := 24, pos := "ref.go:79", after := #[{ on := 0, ground := Ground.data }], guard := none }) rfl (by kernel_rfl) (by kernel_rfl) (by kernel_rfl) (fun _ _ _ h => h) (yields_load (by kernel_rfl) 24 (.tmp 44) rfl (.slice p n c) (fun V9 hV => ld_slc (hV.row (b := w.heap.size) (o := rob p n c) (by simp)))) (by assumption) ?_
          try simp only [Act.put, List.setIfInBounds_toArray, List.set_cons_zero, List.set_cons_succ]
          refine wpAnyH_take (i := 2) (oi := { dst := some 46, op := Op.move (Operand.tmp 10), type := 3, pos := "ref.go:79", after := #[], guard := none }) (v := ?_) rfl (by kernel_rfl) (by kernel_rfl) (by kernel_rfl) (fun _ _ _ h => h) (Or.inl ⟨by kernel_rfl, ?_⟩) (by assumption) ?_
          rotate_left 1
          focus (intro w hSw; (try dsimp only at hSw); go_simp; (try with_reducible rfl))
          try simp only [Act.put, List.setIfInBounds_toArray, List.set_cons_zero, List.set_cons_succ]
          refine wpAnyH_take (i := 3) (oi := { dst := some 47, op := Op.indexAddr 24 (Operand.tmp 45) (Operand.tmp 46), type := 0, pos := "ref.go:79", after := #[{ on := 1, ground := Ground.data }, { on := 2, ground := Ground.data }], guard := none }) (v := ?_) rfl (by kernel_rfl) (by kernel_rfl) (by kernel_rfl) (fun _ _ _ h => h) (Or.inl ⟨by kernel_rfl, ?_⟩) (by assumption) ?_
          rotate_left 1
          focus (intro w hSw; (try dsimp only at hSw); go_simp; (try with_reducible rfl))
          try simp only [Act.put, List.setIfInBounds_toArray, List.set_cons_zero, List.set_cons_succ]
          refine wpAnyH_take (i := 4) (oi := { dst := some 48, op := Op.fieldAddr 42 (Operand.tmp 47) 0, type := 0, pos := "ref.go:79", after := #[{ on := 3, ground := Ground.data }], guard := none }) (v := ?_) rfl (by kernel_rfl) (by kernel_rfl) (by kernel_rfl) (fun _ _ _ h => h) (Or.inl ⟨by kernel_rfl, ?_⟩) (by assumption) ?_
          rotate_left 1
          focus (intro w hSw; (try dsimp only at hSw); go_simp; (try with_reducible rfl))
          try simp only [Act.put, List.setIfInBounds_toArray, List.set_cons_zero, List.set_cons_succ]
          refine wpAnyH_take (i := 5) (oi := { dst := some 49, op := Op.load 40 (Operand.tmp 48), type := 40, pos := "ref.go:79", after := #[{ on := 4, ground := Ground.data }], guard := none }) rfl (by kernel_rfl) (by kernel_rfl) (by kernel_rfl) (fun _ _ _ h => h) (yields_load (by kernel_rfl) 40 (.tmp 48) rfl (pv2 a.x a.y) (fun V9 hV => load_pos (HR.out.later hV.below) HAA.out)) (by assumption) ?_
          try simp only [Act.put, List.setIfInBounds_toArray, List.set_cons_zero, List.set_cons_succ]
          refine wpAnyH_take (i := 6) (oi := { dst := some 50, op := Op.load 40 (Operand.tmp 4), type := 40, pos := "ref.go:79", after := #[], guard := none }) rfl (by kernel_rfl) (by kernel_rfl) (by kernel_rfl) (fun _ _ _ h => h) (yields_load (by kernel_rfl) 40 (.tmp 4) rfl (pv2 x y) (fun V9 hV => ld_pp (hV.row (b := w.heap.size + 1) (o := po2 x y) (by simp)))) (by assumption) ?_
          try simp only [Act.put, List.setIfInBounds_toArray, List.set_cons_zero, List.set_cons_succ]
          refine wpAnyH_take (i := 7) (oi := { dst := some 51, op := Op.binOp BinOp.neq 40 (Operand.tmp 49) (Operand.tmp 50) 40, type := 4, pos := "ref.go:79", after := #[{ on := 5, ground := Ground.data }, { on := 6, ground := Ground.data }], guard := none }) rfl (by kernel_rfl) (by kernel_rfl) (by kernel_rfl) (fun _ _ _ h => h) (yields_bin (by kernel_rfl) .neq 40 (.tmp 49) (.tmp 50) 40 rfl _ _ rfl rfl guard_pos (.bool (!decide (a.x = x ∧ a.y = y))) (fun V => neq_pos _ _ _ _ V)) (by assumption) ?_
          try simp only [Act.put, List.setIfInBounds_toArray, List.set_cons_zero, List.set_cons_succ]
          refine wpAnyH_done (by kernel_rfl) ?_ _
          generalize decide (a.x = x ∧ a.y = y) = e at HQ3 ⊢
          cases e
          · have hlen3 : (acc).length ≤ 5000 := by have := HLN3.out; omega
            go_upto_region 12 with fail
            have hd := hd.drew
            obtain ⟨q4, m4, d4, w4, hrun, hc, hf, hs, hp4⟩ := hd.step a hlen3
            have HRUN := Lib.hid hrun
            have HC := Lib.hid hc
            have HF := Lib.hid hf
            have HL1 := Lib.hid (ld_slc (hd.st.row (List.mem_cons_self ..)))
            have HL2 := Lib.hid (ld_slc ((hd.st.alloc (taob a)).row (b := w.heap.size + 1 + 1 + 1 + 1) (o := rob q m d) (by simp)))
            have S1 := Lib.hid (stl hd.st)
            have S2 := Lib.hid (stl ((stl hd.st).alloc (taob a)))
            have S3 := Lib.hid hs
            have S4 := Lib.hid (stl hp4.st)
            have HP4 := Lib.hid hp4
            clear hrun hc hf hs hp4 hd hlen hlen3
            refine wp_region_held_drew (S := fun V9 => St w [(w.heap.size + 1 + 1 + 1, rob none 0 0), (w.heap.size + 1 + 1, tob g), (w.heap.size + 1, po2 x y), (w.heap.size, rob p n c)] V9) (by kernel_rfl) ?_ (fun hHeld => ?_)
            · exact S1.out
            refine wpAnyH_take (i := 0) (oi := { dst := some 52, op := Op.fieldAddr 26 (Operand.tmp 7) 0, type := 0, pos := "ref.go:80", after := #[], guard := none }) (v := ?_) rfl (by kernel_rfl) (by kernel_rfl) (by kernel_rfl) (fun _ _ _ h => h) (Or.inl ⟨by kernel_rfl, ?_⟩) (by assumption) ?_
            rotate_left 1
            focus (intro w hSw; (try dsimp only at hSw); go_simp; (try with_reducible rfl))
            try simp only [Act.put, List.setIfInBounds_toArray, List.set_cons_zero, List.set_cons_succ]
            refine wpAnyH_take (i := 2) (oi := { dst := some 54, op := Op.fieldAddr 26 (Operand.tmp 3) 0, type := 0, pos := "ref.go:80", after := #[], guard := none }) (v := ?_) rfl (by kernel_rfl) (by kernel_rfl) (by kernel_rfl) (fun _ _ _ h => h) (Or.inl ⟨by kernel_rfl, ?_⟩) (by assumption) ?_
            rotate_left 1
            focus (intro w hSw; (try dsimp only at hSw); go_simp; (try with_reducible rfl))
            try simp only [Act.put, List.setIfInBounds_toArray, List.set_cons_zero, List.set_cons_succ]
            refine wpAnyH_take (i := 3) (oi := { dst := some 55, op := Op.load 24 (Operand.tmp 54), type := 24, pos := "ref.go:80", after := #[{ on := 2, ground := Ground.data }], guard := none }) rfl (by kernel_rfl) (by kernel_rfl) (by kernel_rfl) (fun _ _ _ h => h) (yields_load (by kernel_rfl) 24 (.tmp 54) rfl (.slice p n c) (fun V9 hV => ld_slc (hV.row (b := w.heap.size) (o := rob p n c) (by simp)))) (by assumption) ?_
            try simp only [Act.put, List.setIfInBounds_toArray, List.set_cons_zero, List.set_cons_succ]
            refine wpAnyH_take (i := 4) (oi := { dst := some 56, op := Op.move (Operand.tmp 10), type := 3, pos := "ref.go:80", after := #[], guard := none }) (v := ?_) rfl (by kernel_rfl) (by kernel_rfl) (by kernel_rfl) (fun _ _ _ h => h) (Or.inl ⟨by kernel_rfl, ?_⟩) (by assumption) ?_
            rotate_left 1
            focus (intro w hSw; (try dsimp only at hSw); go_simp; (try with_reducible rfl))
            try simp only [Act.put, List.setIfInBounds_toArray, List.set_cons_zero, List.set_cons_succ]
            refine wpAnyH_take (i := 5) (oi := { dst := some 57, op := Op.indexAddr 24 (Operand.tmp 55) (Operand.tmp 56), type := 0, pos := "ref.go:80", after := #[{ on := 3, ground := Ground.data }, { on := 4, ground := Ground.data }], guard := none }) (v := ?_) rfl (by kernel_rfl) (by kernel_rfl) (by kernel_rfl) (fun _ _ _ h => h) (Or.inl ⟨by kernel_rfl, ?_⟩) (by assumption) ?_
            rotate_left 1
            focus (intro w hSw; (try dsimp only at hSw); go_simp; (try with_reducible rfl))
            try simp only [Act.put, List.setIfInBounds_toArray, List.set_cons_zero, List.set_cons_succ]
            refine wpAnyH_take (i := 6) (oi := { dst := some 58, op := Op.load 42 (Operand.tmp 57), type := 42, pos := "ref.go:80", after := #[{ on := 5, ground := Ground.data }], guard := none }) rfl (by kernel_rfl) (by kernel_rfl) (by kernel_rfl) (fun _ _ _ h => h) (yields_load (by kernel_rfl) 42 (.tmp 57) rfl (.agg (tac a).toArray) (fun V9 hV => load_ta (HR.out.later hV.below) HAA.out)) (by assumption) ?_
            try simp only [Act.put, List.setIfInBounds_toArray, List.set_cons_zero, List.set_cons_succ]
            refine wpAnyH_ready (rs := [1, 7]) (by kernel_rfl) (by simp) (AllReadyH.cons (o := { dst := some 53, op := Op.load 24 (Operand.tmp 52), type := 24, pos := "ref.go:80", after := #[{ on := 0, ground := Ground.data }], guard := none }) rfl (fun K hK => ?_) (AllReadyH.cons (o := { dst := some 59, op := Op.buildSlice 24 1 #[(0, Operand.tmp 58)], type := 24, pos := "ref.go:80", after := #[{ on := 6, ground := Ground.data }], guard := none }) rfl (fun K hK => ?_) AllReadyH.nil))
            · first | refine wp_load_of 24 _ rfl _ HL1.out ?_ | refine wp_load_of 24 _ rfl _ HL2.out ?_
              refine hK.out _ _ ?_ (fun hHeld => ?_)
              · exact S1.out
              clear hK K
              try simp only [Act.put, List.setIfInBounds_toArray, List.set_cons_zero, List.set_cons_succ]
              refine wpAnyH_ready (rs := [7]) (by kernel_rfl) (by simp) (AllReadyH.cons (o := { dst := some 59, op := Op.buildSlice 24 1 #[(0, Operand.tmp 58)], type := 24, pos := "ref.go:80", after := #[{ on := 6, ground := Ground.data }], guard := none }) rfl (fun K hK => ?_) AllReadyH.nil)
              refine wp_slice1 _ rfl a rfl ?_
              refine hK.out _ _ ?_ (fun hHeld => ?_)
              · exact S2.out
              clear hK K
              try simp only [Act.put, List.setIfInBounds_toArray, List.set_cons_zero, List.set_cons_succ]
              refine wpAnyH_ready (rs := [8]) (by kernel_rfl) (by simp) (AllReadyH.cons (o := { dst := some 60, op := Op.call { callee := Callee.builtin Builtin.append, args := #[Operand.tmp 53, Operand.tmp 59], argTypes := #[24, 24] }, type := 24, pos := "ref.go:80", after := #[{ on := 1, ground := Ground.data }, { on := 7, ground := Ground.data }], guard := none }) rfl (fun K hK => ?_) AllReadyH.nil)
              refine wp_app _ _ 24 24 rfl rfl _ _ _ rfl rfl HRUN.out ?_
              refine hK.out _ _ ?_ (fun hHeld => ?_)
              · exact S3.out
              clear hK K
              try simp only [Act.put, List.setIfInBounds_toArray, List.set_cons_zero, List.set_cons_succ]
              refine wpAnyH_take (i := 9) (oi := { dst := some 61, op := Op.fieldAddr 26 (Operand.tmp 7) 0, type := 0, pos := "ref.go:80", after := #[{ on := 0, ground := Ground.phase }, { on := 1, ground := Ground.phase }, { on := 2, ground := Ground.phase }, { on := 3, ground := Ground.phase }, { on := 4, ground := Ground.phase }, { on := 5, ground := Ground.phase }, { on := 6, ground := Ground.phase }, { on := 7, ground := Ground.phase }, { on := 8, ground := Ground.phase }], guard := none }) (v := ?_) rfl (by kernel_rfl) (by kernel_rfl) (by kernel_rfl) (fun _ _ _ h => h) (Or.inl ⟨by kernel_rfl, ?_⟩) (by assumption) ?_
              rotate_left 1
              focus (intro w hSw; (try dsimp only at hSw); go_simp; (try with_reducible rfl))
              try simp only [Act.put, List.setIfInBounds_toArray, List.set_cons_zero, List.set_cons_succ]
              refine wpAnyH_ready (rs := [10]) (by kernel_rfl) (by simp) (AllReadyH.cons (o := { dst := none, op := Op.store 24 (Operand.tmp 61) (Operand.tmp 60), type := 0, pos := "ref.go:80", after := #[{ on := 9, ground := Ground.data }, { on := 8, ground := Ground.data }, { on := 8, ground := Ground.chain }, { on := 0, ground := Ground.phase }, { on := 1, ground := Ground.phase }, { on := 2, ground := Ground.phase }, { on := 3, ground := Ground.phase }, { on := 4, ground := Ground.phase }, { on := 5, ground := Ground.phase }, { on := 6, ground := Ground.phase }, { on := 7, ground := Ground.phase }, { on := 8, ground := Ground.phase }], guard := none }) rfl (fun K hK => ?_) AllReadyH.nil)
              refine wp_store_of 24 _ _ rfl (st_sl HC.out HF.out) ?_
              refine hK.out _ _ ?_ (fun hHeld => ?_)
              · exact S4.out
              clear hK K
              try simp only [Act.put]
              refine wpAnyH_done (by kernel_rfl) ?_ _
              clear HRUN HC HF HL1 HL2 S1 S2 S3 S4
              go_wp2
              go_roundw
              case rel => exact ⟨k + 1, m4, d4, q4, (acc) ++ [a], false, by omega, by go_num, rfl, HP4, Lib.hid (by rw [← HQ3.out]; simp), Lib.hid (by have := HLN3.out; rw [List.length_append]; simp only [List.length_cons, List.length_nil]; omega)⟩
              case measure => simp [intOf]; omega
            · refine wp_slice1 _ rfl a rfl ?_
              refine hK.out _ _ ?_ (fun hHeld => ?_)
              · exact S2.out
              clear hK K
              try simp only [Act.put, List.setIfInBounds_toArray, List.set_cons_zero, List.set_cons_succ]
              refine wpAnyH_ready (rs := [1]) (by kernel_rfl) (by simp) (AllReadyH.cons (o := { dst := some 53, op := Op.load 24 (Operand.tmp 52), type := 24, pos := "ref.go:80", after := #[{ on := 0, ground := Ground.data }], guard := none }) rfl (fun K hK => ?_) AllReadyH.nil)
              first | refine wp_load_of 24 _ rfl _ HL1.out ?_ | refine wp_load_of 24 _ rfl _ HL2.out ?_
              refine hK.out _ _ ?_ (fun hHeld => ?_)
              · exact S2.out
              clear hK K
              try simp only [Act.put, List.setIfInBounds_toArray, List.set_cons_zero, List.set_cons_succ]
              refine wpAnyH_ready (rs := [8]) (by kernel_rfl) (by simp) (AllReadyH.cons (o := { dst := some 60, op := Op.call { callee := Callee.builtin Builtin.append, args := #[Operand.tmp 53, Operand.tmp 59], argTypes := #[24, 24] }, type := 24, pos := "ref.go:80", after := #[{ on := 1, ground := Ground.data }, { on := 7, ground := Ground.data }], guard := none }) rfl (fun K hK => ?_) AllReadyH.nil)
              refine wp_app _ _ 24 24 rfl rfl _ _ _ rfl rfl HRUN.out ?_
              refine hK.out _ _ ?_ (fun hHeld => ?_)
              · exact S3.out
              clear hK K
              try simp only [Act.put, List.setIfInBounds_toArray, List.set_cons_zero, List.set_cons_succ]
              refine wpAnyH_take (i := 9) (oi := { dst := some 61, op := Op.fieldAddr 26 (Operand.tmp 7) 0, type := 0, pos := "ref.go:80", after := #[{ on := 0, ground := Ground.phase }, { on := 1, ground := Ground.phase }, { on := 2, ground := Ground.phase }, { on := 3, ground := Ground.phase }, { on := 4, ground := Ground.phase }, { on := 5, ground := Ground.phase }, { on := 6, ground := Ground.phase }, { on := 7, ground := Ground.phase }, { on := 8, ground := Ground.phase }], guard := none }) (v := ?_) rfl (by kernel_rfl) (by kernel_rfl) (by kernel_rfl) (fun _ _ _ h => h) (Or.inl ⟨by kernel_rfl, ?_⟩) (by assumption) ?_
              rotate_left 1
              focus (intro w hSw; (try dsimp only at hSw); go_simp; (try with_reducible rfl))
              try simp only [Act.put, List.setIfInBounds_toArray, List.set_cons_zero, List.set_cons_succ]
              refine wpAnyH_ready (rs := [10]) (by kernel_rfl) (by simp) (AllReadyH.cons (o := { dst := none, op := Op.store 24 (Operand.tmp 61) (Operand.tmp 60), type := 0, pos := "ref.go:80", after := #[{ on := 9, ground := Ground.data }, { on := 8, ground := Ground.data }, { on := 8, ground := Ground.chain }, { on := 0, ground := Ground.phase }, { on := 1, ground := Ground.phase }, { on := 2, ground := Ground.phase }, { on := 3, ground := Ground.phase }, { on := 4, ground := Ground.phase }, { on := 5, ground := Ground.phase }, { on := 6, ground := Ground.phase }, { on := 7, ground := Ground.phase }, { on := 8, ground := Ground.phase }], guard := none }) rfl (fun K hK => ?_) AllReadyH.nil)
              refine wp_store_of 24 _ _ rfl (st_sl HC.out HF.out) ?_
              refine hK.out _ _ ?_ (fun hHeld => ?_)
              · exact S4.out
              clear hK K
              try simp only [Act.put]
              refine wpAnyH_done (by kernel_rfl) ?_ _
              clear HRUN HC HF HL1 HL2 S1 S2 S3 S4
              go_wp2
              go_roundw
              case rel => exact ⟨k + 1, m4, d4, q4, (acc) ++ [a], false, by omega, by go_num, rfl, HP4, Lib.hid (by rw [← HQ3.out]; simp), Lib.hid (by have := HLN3.out; rw [List.length_append]; simp only [List.length_cons, List.length_nil]; omega)⟩
              case measure => simp [intOf]; omega
          · have HD5 := Lib.hid hd
            clear hd hix hlen
            go_wp2
            go_roundw
            case rel => exact ⟨k + 1, m, d, q, (acc), false, by omega, by go_num, rfl, HD5, Lib.hid (by rw [← HQ3.out]; simp), Lib.hid (by have := HLN3.out; omega)⟩
            case measure => simp [intOf]; omega
        · have HQ3 : Hid ((acc ++ [⟨x, y, g⟩]) ++ ((if decide (a.x = x ∧ a.y = y) then [] else [a]) ++ pgo x y g true (l.drop (k + 1))) = RES) := by rw [← HQ2.out]; simp [Hid]
          have HLN3 : Hid ((acc ++ [(⟨x, y, g⟩ : TA)]).length ≤ 2 * k + 1) := by have := HLN.out; unfold Hid; rw [List.length_append]; simp only [List.length_cons, List.length_nil]; omega
          clear HQ2 HLN
          go_upto_region 9 with fail
          obtain ⟨q2, m2, d2, w2, hrun, hc2, hf2, hs2, hp2⟩ := hd.step ⟨x, y, g⟩ hlen
          have HRUN := Lib.hid hrun
          have HLO := Lib.hid (ld_slc (hd.st.row (List.mem_cons_self ..)))
          have HLP := Lib.hid (ld_pp (hd.st.row (b := w.heap.size + 1) (o := po2 x y) (by simp)))
          have HLT := Lib.hid (load_tile _ g _ (hd.st.row (b := w.heap.size + 1 + 1) (o := tob g) (by simp)))
          clear hrun
          go_upto_region 10 with (first
            | ((with_reducible refine sLoad (ty := 24) (v := .slice q m d) ?_ ?_); · exact HLO.out)
            | ((with_reducible refine sLoad (ty := 40) (v := pv2 x y) ?_ ?_); · exact HLP.out)
            | ((with_reducible refine sLoad (ty := 38) (v := tv g) ?_ ?_); · exact HLT.out)
            | ((with_reducible refine sBuild2 (ty := 42) (v := tav ⟨x, y, g⟩) ?_ ?_); · exact built_ta _ _ _ _)
            | ((with_reducible refine sSlice1 ⟨x, y, g⟩ ?_ ?_); · rfl)
            | (at_builtin; refine Lib.wpList_append_run _ rfl _ _ _ _ rfl _ _ rfl rfl _ _ HRUN.out ?_))
          generalize w2.setCell ⟨w.heap.size + 1 + 1 + 1 + 1, 0, none⟩ (.slice q2 m2 d2) = w3 at hp2 ⊢
          clear HRUN HLO HLP HLT hd hs2 hc2 hf2
          have hd := hp2
          clear hp2
          go_upto_region 11 with fail
          have hd := hd.drew
          refine wp_region_held_drew (S := fun V9 => St w [(w.heap.size + 1 + 1 + 1, rob none 0 0), (w.heap.size + 1 + 1, tob g), (w.heap.size + 1, po2 x y), (w.heap.size, rob p n c)] V9) (by kernel_rfl) ?_ (fun hHeld => ?_)
          · exact (stl hd.st)
          refine wpAnyH_take (i := 0) (oi := { dst := some 44, op := Op.fieldAddr 26 (Operand.tmp 3) 0, type := 0, pos := "ref.go:79", after := #[], guard := none }) (v := ?_) rfl (by kernel_rfl) (by kernel_rfl) (by kernel_rfl) (fun _ _ _ h => h) (Or.inl ⟨by kernel_rfl, ?_⟩) (by assumption) ?_
          rotate_left 1
          focus (intro w hSw; (try dsimp only at hSw); go_simp; (try with_reducible rfl))
          try simp only [Act.put, List.setIfInBounds_toArray, List.set_cons_zero, List.set_cons_succ]
          refine wpAnyH_take (i := 1) (oi := { dst := some 45, op := Op.load 24 (Operand.tmp 44), type := 24, pos := "ref.go:79", after := #[{ on := 0, ground := Ground.data }], guard := none }) rfl (by kernel_rfl) (by kernel_rfl) (by kernel_rfl) (fun _ _ _ h => h) (yields_load (by kernel_rfl) 24 (.tmp 44) rfl (.slice p n c) (fun V9 hV => ld_slc (hV.row (b := w.heap.size) (o := rob p n c) (by simp)))) (by assumption) ?_
          try simp only [Act.put, List.setIfInBounds_toArray, List.set_cons_zero, List.set_cons_succ]
          refine wpAnyH_take (i := 2) (oi := { dst := some 46, op := Op.move (Operand.tmp 10), type := 3, pos := "ref.go:79", after := #[], guard := none }) (v := ?_) rfl (by kernel_rfl) (by kernel_rfl) (by kernel_rfl) (fun _ _ _ h => h) (Or.inl ⟨by kernel_rfl, ?_⟩) (by assumption) ?_
          rotate_left 1
          focus (intro w hSw; (try dsimp only at hSw); go_simp; (try with_reducible rfl))
          try simp only [Act.put, List.setIfInBounds_toArray, List.set_cons_zero, List.set_cons_succ]
          refine wpAnyH_take (i := 3) (oi := { dst := some 47, op := Op.indexAddr 24 (Operand.tmp 45) (Operand.tmp 46), type := 0, pos := "ref.go:79", after := #[{ on := 1, ground := Ground.data }, { on := 2, ground := Ground.data }], guard := none }) (v := ?_) rfl (by kernel_rfl) (by kernel_rfl) (by kernel_rfl) (fun _ _ _ h => h) (Or.inl ⟨by kernel_rfl, ?_⟩) (by assumption) ?_
          rotate_left 1
          focus (intro w hSw; (try dsimp only at hSw); go_simp; (try with_reducible rfl))
          try simp only [Act.put, List.setIfInBounds_toArray, List.set_cons_zero, List.set_cons_succ]
          refine wpAnyH_take (i := 4) (oi := { dst := some 48, op := Op.fieldAddr 42 (Operand.tmp 47) 0, type := 0, pos := "ref.go:79", after := #[{ on := 3, ground := Ground.data }], guard := none }) (v := ?_) rfl (by kernel_rfl) (by kernel_rfl) (by kernel_rfl) (fun _ _ _ h => h) (Or.inl ⟨by kernel_rfl, ?_⟩) (by assumption) ?_
          rotate_left 1
          focus (intro w hSw; (try dsimp only at hSw); go_simp; (try with_reducible rfl))
          try simp only [Act.put, List.setIfInBounds_toArray, List.set_cons_zero, List.set_cons_succ]
          refine wpAnyH_take (i := 5) (oi := { dst := some 49, op := Op.load 40 (Operand.tmp 48), type := 40, pos := "ref.go:79", after := #[{ on := 4, ground := Ground.data }], guard := none }) rfl (by kernel_rfl) (by kernel_rfl) (by kernel_rfl) (fun _ _ _ h => h) (yields_load (by kernel_rfl) 40 (.tmp 48) rfl (pv2 a.x a.y) (fun V9 hV => load_pos (HR.out.later hV.below) HAA.out)) (by assumption) ?_
          try simp only [Act.put, List.setIfInBounds_toArray, List.set_cons_zero, List.set_cons_succ]
          refine wpAnyH_take (i := 6) (oi := { dst := some 50, op := Op.load 40 (Operand.tmp 4), type := 40, pos := "ref.go:79", after := #[], guard := none }) rfl (by kernel_rfl) (by kernel_rfl) (by kernel_rfl) (fun _ _ _ h => h) (yields_load (by kernel_rfl) 40 (.tmp 4) rfl (pv2 x y) (fun V9 hV => ld_pp (hV.row (b := w.heap.size + 1) (o := po2 x y) (by simp)))) (by assumption) ?_
          try simp only [Act.put, List.setIfInBounds_toArray, List.set_cons_zero, List.set_cons_succ]
          refine wpAnyH_take (i := 7) (oi := { dst := some 51, op := Op.binOp BinOp.neq 40 (Operand.tmp 49) (Operand.tmp 50) 40, type := 4, pos := "ref.go:79", after := #[{ on := 5, ground := Ground.data }, { on := 6, ground := Ground.data }], guard := none }) rfl (by kernel_rfl) (by kernel_rfl) (by kernel_rfl) (fun _ _ _ h => h) (yields_bin (by kernel_rfl) .neq 40 (.tmp 49) (.tmp 50) 40 rfl _ _ rfl rfl guard_pos (.bool (!decide (a.x = x ∧ a.y = y))) (fun V => neq_pos _ _ _ _ V)) (by assumption) ?_
          try simp only [Act.put, List.setIfInBounds_toArray, List.set_cons_zero, List.set_cons_succ]
          refine wpAnyH_done (by kernel_rfl) ?_ _
          generalize decide (a.x = x ∧ a.y = y) = e at HQ3 ⊢
          cases e
          · have hlen3 : (acc ++ [(⟨x, y, g⟩ : TA)]).length ≤ 5000 := by have := HLN3.out; omega
            go_upto_region 12 with fail
            have hd := hd.drew
            obtain ⟨q4, m4, d4, w4, hrun, hc, hf, hs, hp4⟩ := hd.step a hlen3
            have HRUN := Lib.hid hrun
            have HC := Lib.hid hc
            have HF := Lib.hid hf
            have HL1 := Lib.hid (ld_slc (hd.st.row (List.mem_cons_self ..)))
            have HL2 := Lib.hid (ld_slc ((hd.st.alloc (taob a)).row (b := w.heap.size + 1 + 1 + 1 + 1) (o := rob q2 m2 d2) (by simp)))
            have S1 := Lib.hid (stl hd.st)
            have S2 := Lib.hid (stl ((stl hd.st).alloc (taob a)))
            have S3 := Lib.hid hs
            have S4 := Lib.hid (stl hp4.st)
            have HP4 := Lib.hid hp4
            clear hrun hc hf hs hp4 hd hlen hlen3
            refine wp_region_held_drew (S := fun V9 => St w [(w.heap.size + 1 + 1 + 1, rob none 0 0), (w.heap.size + 1 + 1, tob g), (w.heap.size + 1, po2 x y), (w.heap.size, rob p n c)] V9) (by kernel_rfl) ?_ (fun hHeld => ?_)
            · exact S1.out
            refine wpAnyH_take (i := 0) (oi := { dst := some 52, op := Op.fieldAddr 26 (Operand.tmp 7) 0, type := 0, pos := "ref.go:80", after := #[], guard := none }) (v := ?_) rfl (by kernel_rfl) (by kernel_rfl) (by kernel_rfl) (fun _ _ _ h => h) (Or.inl ⟨by kernel_rfl, ?_⟩) (by assumption) ?_
            rotate_left 1
            focus (intro w hSw; (try dsimp only at hSw); go_simp; (try with_reducible rfl))
            try simp only [Act.put, List.setIfInBounds_toArray, List.set_cons_zero, List.set_cons_succ]
            refine wpAnyH_take (i := 2) (oi := { dst := some 54, op := Op.fieldAddr 26 (Operand.tmp 3) 0, type := 0, pos := "ref.go:80", after := #[], guard := none }) (v := ?_) rfl (by kernel_rfl) (by kernel_rfl) (by kernel_rfl) (fun _ _ _ h => h) (Or.inl ⟨by kernel_rfl, ?_⟩) (by assumption) ?_
            rotate_left 1
            focus (intro w hSw; (try dsimp only at hSw); go_simp; (try with_reducible rfl))
            try simp only [Act.put, List.setIfInBounds_toArray, List.set_cons_zero, List.set_cons_succ]
            refine wpAnyH_take (i := 3) (oi := { dst := some 55, op := Op.load 24 (Operand.tmp 54), type := 24, pos := "ref.go:80", after := #[{ on := 2, ground := Ground.data }], guard := none }) rfl (by kernel_rfl) (by kernel_rfl) (by kernel_rfl) (fun _ _ _ h => h) (yields_load (by kernel_rfl) 24 (.tmp 54) rfl (.slice p n c) (fun V9 hV => ld_slc (hV.row (b := w.heap.size) (o := rob p n c) (by simp)))) (by assumption) ?_
            try simp only [Act.put, List.setIfInBounds_toArray, List.set_cons_zero, List.set_cons_succ]
            refine wpAnyH_take (i := 4) (oi := { dst := some 56, op := Op.move (Operand.tmp 10), type := 3, pos := "ref.go:80", after := #[], guard := none }) (v := ?_) rfl (by kernel_rfl) (by kernel_rfl) (by kernel_rfl) (fun _ _ _ h => h) (Or.inl ⟨by kernel_rfl, ?_⟩) (by assumption) ?_
            rotate_left 1
            focus (intro w hSw; (try dsimp only at hSw); go_simp; (try with_reducible rfl))
            try simp only [Act.put, List.setIfInBounds_toArray, List.set_cons_zero, List.set_cons_succ]
            refine wpAnyH_take (i := 5) (oi := { dst := some 57, op := Op.indexAddr 24 (Operand.tmp 55) (Operand.tmp 56), type := 0, pos := "ref.go:80", after := #[{ on := 3, ground := Ground.data }, { on := 4, ground := Ground.data }], guard := none }) (v := ?_) rfl (by kernel_rfl) (by kernel_rfl) (by kernel_rfl) (fun _ _ _ h => h) (Or.inl ⟨by kernel_rfl, ?_⟩) (by assumption) ?_
            rotate_left 1
            focus (intro w hSw; (try dsimp only at hSw); go_simp; (try with_reducible rfl))
            try simp only [Act.put, List.setIfInBounds_toArray, List.set_cons_zero, List.set_cons_succ]
            refine wpAnyH_take (i := 6) (oi := { dst := some 58, op := Op.load 42 (Operand.tmp 57), type := 42, pos := "ref.go:80", after := #[{ on := 5, ground := Ground.data }], guard := none }) rfl (by kernel_rfl) (by kernel_rfl) (by kernel_rfl) (fun _ _ _ h => h) (yields_load (by kernel_rfl) 42 (.tmp 57) rfl (.agg (tac a).toArray) (fun V9 hV => load_ta (HR.out.later hV.below) HAA.out)) (by assumption) ?_
            try simp only [Act.put, List.setIfInBounds_toArray, List.set_cons_zero, List.set_cons_succ]
            refine wpAnyH_ready (rs := [1, 7]) (by kernel_rfl) (by simp) (AllReadyH.cons (o := { dst := some 53, op := Op.load 24 (Operand.tmp 52), type := 24, pos := "ref.go:80", after := #[{ on := 0, ground := Ground.data }], guard := none }) rfl (fun K hK => ?_) (AllReadyH.cons (o := { dst := some 59, op := Op.buildSlice 24 1 #[(0, Operand.tmp 58)], type := 24, pos := "ref.go:80", after := #[{ on := 6, ground := Ground.data }], guard := none }) rfl (fun K hK => ?_) AllReadyH.nil))
            · first | refine wp_load_of 24 _ rfl _ HL1.out ?_ | refine wp_load_of 24 _ rfl _ HL2.out ?_
              refine hK.out _ _ ?_ (fun hHeld => ?_)
              · exact S1.out
              clear hK K
              try simp only [Act.put, List.setIfInBounds_toArray, List.set_cons_zero, List.set_cons_succ]
              refine wpAnyH_ready (rs := [7]) (by kernel_rfl) (by simp) (AllReadyH.cons (o := { dst := some 59, op := Op.buildSlice 24 1 #[(0, Operand.tmp 58)], type := 24, pos := "ref.go:80", after := #[{ on := 6, ground := Ground.data }], guard := none }) rfl (fun K hK => ?_) AllReadyH.nil)
              refine wp_slice1 _ rfl a rfl ?_
              refine hK.out _ _ ?_ (fun hHeld => ?_)
              · exact S2.out
              clear hK K
              try simp only [Act.put, List.setIfInBounds_toArray, List.set_cons_zero, List.set_cons_succ]
              refine wpAnyH_ready (rs := [8]) (by kernel_rfl) (by simp) (AllReadyH.cons (o := { dst := some 60, op := Op.call { callee := Callee.builtin Builtin.append, args := #[Operand.tmp 53, Operand.tmp 59], argTypes := #[24, 24] }, type := 24, pos := "ref.go:80", after := #[{ on := 1, ground := Ground.data }, { on := 7, ground := Ground.data }], guard := none }) rfl (fun K hK => ?_) AllReadyH.nil)
              refine wp_app _ _ 24 24 rfl rfl _ _ _ rfl rfl HRUN.out ?_
              refine hK.out _ _ ?_ (fun hHeld => ?_)
              · exact S3.out
              clear hK K
              try simp only [Act.put, List.setIfInBounds_toArray, List.set_cons_zero, List.set_cons_succ]
              refine wpAnyH_take (i := 9) (oi := { dst := some 61, op := Op.fieldAddr 26 (Operand.tmp 7) 0, type := 0, pos := "ref.go:80", after := #[{ on := 0, ground := Ground.phase }, { on := 1, ground := Ground.phase }, { on := 2, ground := Ground.phase }, { on := 3, ground := Ground.phase }, { on := 4, ground := Ground.phase }, { on := 5, ground := Ground.phase }, { on := 6, ground := Ground.phase }, { on := 7, ground := Ground.phase }, { on := 8, ground := Ground.phase }], guard := none }) (v := ?_) rfl (by kernel_rfl) (by kernel_rfl) (by kernel_rfl) (fun _ _ _ h => h) (Or.inl ⟨by kernel_rfl, ?_⟩) (by assumption) ?_
              rotate_left 1
              focus (intro w hSw; (try dsimp only at hSw); go_simp; (try with_reducible rfl))
              try simp only [Act.put, List.setIfInBounds_toArray, List.set_cons_zero, List.set_cons_succ]
              refine wpAnyH_ready (rs := [10]) (by kernel_rfl) (by simp) (AllReadyH.cons (o := { dst := none, op := Op.store 24 (Operand.tmp 61) (Operand.tmp 60), type := 0, pos := "ref.go:80", after := #[{ on := 9, ground := Ground.data }, { on := 8, ground := Ground.data }, { on := 8, ground := Ground.chain }, { on := 0, ground := Ground.phase }, { on := 1, ground := Ground.phase }, { on := 2, ground := Ground.phase }, { on := 3, ground := Ground.phase }, { on := 4, ground := Ground.phase }, { on := 5, ground := Ground.phase }, { on := 6, ground := Ground.phase }, { on := 7, ground := Ground.phase }, { on := 8, ground := Ground.phase }], guard := none }) rfl (fun K hK => ?_) AllReadyH.nil)
              refine wp_store_of 24 _ _ rfl (st_sl HC.out HF.out) ?_
              refine hK.out _ _ ?_ (fun hHeld => ?_)
              · exact S4.out
              clear hK K
              try simp only [Act.put]
              refine wpAnyH_done (by kernel_rfl) ?_ _
              clear HRUN HC HF HL1 HL2 S1 S2 S3 S4
              go_wp2
              go_roundw
              case rel => exact ⟨k + 1, m4, d4, q4, (acc ++ [(⟨x, y, g⟩ : TA)]) ++ [a], true, by omega, by go_num, rfl, HP4, Lib.hid (by rw [← HQ3.out]; simp), Lib.hid (by have := HLN3.out; rw [List.length_append]; simp only [List.length_cons, List.length_nil]; omega)⟩
              case measure => simp [intOf]; omega
            · refine wp_slice1 _ rfl a rfl ?_
              refine hK.out _ _ ?_ (fun hHeld => ?_)
              · exact S2.out
              clear hK K
              try simp only [Act.put, List.setIfInBounds_toArray, List.set_cons_zero, List.set_cons_succ]
              refine wpAnyH_ready (rs := [1]) (by kernel_rfl) (by simp) (AllReadyH.cons (o := { dst := some 53, op := Op.load 24 (Operand.tmp 52), type := 24, pos := "ref.go:80", after := #[{ on := 0, ground := Ground.data }], guard := none }) rfl (fun K hK => ?_) AllReadyH.nil)
              first | refine wp_load_of 24 _ rfl _ HL1.out ?_ | refine wp_load_of 24 _ rfl _ HL2.out ?_
              refine hK.out _ _ ?_ (fun hHeld => ?_)
              · exact S2.out
              clear hK K
              try simp only [Act.put, List.setIfInBounds_toArray, List.set_cons_zero, List.set_cons_succ]
              refine wpAnyH_ready (rs := [8]) (by kernel_rfl) (by simp) (AllReadyH.cons (o := { dst := some 60, op := Op.call { callee := Callee.builtin Builtin.append, args := #[Operand.tmp 53, Operand.tmp 59], argTypes := #[24, 24] }, type := 24, pos := "ref.go:80", after := #[{ on := 1, ground := Ground.data }, { on := 7, ground := Ground.data }], guard := none }) rfl (fun K hK => ?_) AllReadyH.nil)
              refine wp_app _ _ 24 24 rfl rfl _ _ _ rfl rfl HRUN.out ?_
              refine hK.out _ _ ?_ (fun hHeld => ?_)
              · exact S3.out
              clear hK K
              try simp only [Act.put, List.setIfInBounds_toArray, List.set_cons_zero, List.set_cons_succ]
              refine wpAnyH_take (i := 9) (oi := { dst := some 61, op := Op.fieldAddr 26 (Operand.tmp 7) 0, type := 0, pos := "ref.go:80", after := #[{ on := 0, ground := Ground.phase }, { on := 1, ground := Ground.phase }, { on := 2, ground := Ground.phase }, { on := 3, ground := Ground.phase }, { on := 4, ground := Ground.phase }, { on := 5, ground := Ground.phase }, { on := 6, ground := Ground.phase }, { on := 7, ground := Ground.phase }, { on := 8, ground := Ground.phase }], guard := none }) (v := ?_) rfl (by kernel_rfl) (by kernel_rfl) (by kernel_rfl) (fun _ _ _ h => h) (Or.inl ⟨by kernel_rfl, ?_⟩) (by assumption) ?_
              rotate_left 1
              focus (intro w hSw; (try dsimp only at hSw); go_simp; (try with_reducible rfl))
              try simp only [Act.put, List.setIfInBounds_toArray, List.set_cons_zero, List.set_cons_succ]
              refine wpAnyH_ready (rs := [10]) (by kernel_rfl) (by simp) (AllReadyH.cons (o := { dst := none, op := Op.store 24 (Operand.tmp 61) (Operand.tmp 60), type := 0, pos := "ref.go:80", after := #[{ on := 9, ground := Ground.data }, { on := 8, ground := Ground.data }, { on := 8, ground := Ground.chain }, { on := 0, ground := Ground.phase }, { on := 1, ground := Ground.phase }, { on := 2, ground := Ground.phase }, { on := 3, ground := Ground.phase }, { on := 4, ground := Ground.phase }, { on := 5, ground := Ground.phase }, { on := 6, ground := Ground.phase }, { on := 7, ground := Ground.phase }, { on := 8, ground := Ground.phase }], guard := none }) rfl (fun K hK => ?_) AllReadyH.nil)
              refine wp_store_of 24 _ _ rfl (st_sl HC.out HF.out) ?_
              refine hK.out _ _ ?_ (fun hHeld => ?_)
              · exact S4.out
              clear hK K
              try simp only [Act.put]
              refine wpAnyH_done (by kernel_rfl) ?_ _
              clear HRUN HC HF HL1 HL2 S1 S2 S3 S4
              go_wp2
              go_roundw
              case rel => exact ⟨k + 1, m4, d4, q4, (acc ++ [(⟨x, y, g⟩ : TA)]) ++ [a], true, by omega, by go_num, rfl, HP4, Lib.hid (by rw [← HQ3.out]; simp), Lib.hid (by have := HLN3.out; rw [List.length_append]; simp only [List.length_cons, List.length_nil]; omega)⟩
              case measure => simp [intOf]; omega
          · have HD5 := Lib.hid hd
            clear hd hix hlen
            go_wp2
            go_roundw
            case rel => exact ⟨k + 1, m2, d2, q2, (acc ++ [(⟨x, y, g⟩ : TA)]), true, by omega, by go_num, rfl, HD5, Lib.hid (by rw [← HQ3.out]; simp), Lib.hid (by have := HLN3.out; omega)⟩
            case measure => simp [intOf]; omega
      · skip
        refine wp_region_held_drew (S := fun V9 => St w [(w.heap.size + 1 + 1 + 1, rob none 0 0), (w.heap.size + 1 + 1, tob g), (w.heap.size + 1, po2 x y), (w.heap.size, rob p n c)] V9) (by kernel_rfl) ?_ (fun hHeld => ?_)
        · exact (stl hd.st)
        refine wpAnyH_take (i := 0) (oi := { dst := some 24, op := Op.move (Operand.tmp 9), type := 4, pos := "ref.go:75", after := #[], guard := none }) (v := ?_) rfl (by kernel_rfl) (by kernel_rfl) (by kernel_rfl) (fun _ _ _ h => h) (Or.inl ⟨by kernel_rfl, ?_⟩) (by assumption) ?_
        rotate_left 1
        focus (intro w hSw; (try dsimp only at hSw); go_simp; (try with_reducible rfl))
        try simp only [Act.put, List.setIfInBounds_toArray, List.set_cons_zero, List.set_cons_succ]
        refine wpAnyH_take (i := 1) (oi := { dst := some 25, op := Op.unOp UnOp.not 4 (Operand.tmp 24), type := 4, pos := "ref.go:75", after := #[{ on := 0, ground := Ground.data }], guard := none }) (v := ?_) rfl (by kernel_rfl) (by kernel_rfl) (by kernel_rfl) (fun _ _ _ h => h) (Or.inl ⟨by kernel_rfl, ?_⟩) (by assumption) ?_
        rotate_left 1
        focus (intro w hSw; (try dsimp only at hSw); go_simp; (try with_reducible rfl))
        try simp only [Act.put, List.setIfInBounds_toArray, List.set_cons_zero, List.set_cons_succ]
        refine wpAnyH_take (i := 2) (oi := { dst := some 26, op := Op.move (Operand.tmp 25), type := 4, pos := "ref.go:75", after := #[{ on := 1, ground := Ground.data }], guard := none }) (v := ?_) rfl (by kernel_rfl) (by kernel_rfl) (by kernel_rfl) (fun _ _ _ h => h) (Or.inl ⟨by kernel_rfl, ?_⟩) (by assumption) ?_
        rotate_left 1
        focus (intro w hSw; (try dsimp only at hSw); go_simp; (try with_reducible rfl))
        try simp only [Act.put, List.setIfInBounds_toArray, List.set_cons_zero, List.set_cons_succ]
        refine wpAnyH_take (i := 3) (oi := { dst := some 27, op := Op.load 40 (Operand.tmp 4), type := 40, pos := "ref.go:75", after := #[{ on := 2, ground := Ground.guard }], guard := some (2, true) }) rfl (by kernel_rfl) (by kernel_rfl) (by kernel_rfl) (fun _ _ _ h => h) (Or.inr ⟨by kernel_rfl, rfl⟩) (by assumption) ?_
        try simp only [Act.put, List.setIfInBounds_toArray, List.set_cons_zero, List.set_cons_succ]
        refine wpAnyH_take (i := 4) (oi := { dst := some 28, op := Op.fieldAddr 26 (Operand.tmp 3) 0, type := 0, pos := "ref.go:75", after := #[{ on := 2, ground := Ground.guard }], guard := some (2, true) }) rfl (by kernel_rfl) (by kernel_rfl) (by kernel_rfl) (fun _ _ _ h => h) (Or.inr ⟨by kernel_rfl, rfl⟩) (by assumption) ?_
        try simp only [Act.put, List.setIfInBounds_toArray, List.set_cons_zero, List.set_cons_succ]
        refine wpAnyH_take (i := 5) (oi := { dst := some 29, op := Op.load 24 (Operand.tmp 28), type := 24, pos := "ref.go:75", after := #[{ on := 4, ground := Ground.data }, { on := 2, ground := Ground.guard }], guard := some (2, true) }) rfl (by kernel_rfl) (by kernel_rfl) (by kernel_rfl) (fun _ _ _ h => h) (Or.inr ⟨by kernel_rfl, rfl⟩) (by assumption) ?_
        try simp only [Act.put, List.setIfInBounds_toArray, List.set_cons_zero, List.set_cons_succ]
        refine wpAnyH_take (i := 6) (oi := { dst := some 30, op := Op.move (Operand.tmp 10), type := 3, pos := "ref.go:75", after := #[{ on := 2, ground := Ground.guard }], guard := some (2, true) }) rfl (by kernel_rfl) (by kernel_rfl) (by kernel_rfl) (fun _ _ _ h => h) (Or.inr ⟨by kernel_rfl, rfl⟩) (by assumption) ?_
        try simp only [Act.put, List.setIfInBounds_toArray, List.set_cons_zero, List.set_cons_succ]
        refine wpAnyH_take (i := 7) (oi := { dst := some 31, op := Op.indexAddr 24 (Operand.tmp 29) (Operand.tmp 30), type := 0, pos := "ref.go:75", after := #[{ on := 5, ground := Ground.data }, { on := 6, ground := Ground.data }, { on := 2, ground := Ground.guard }], guard := some (2, true) }) rfl (by kernel_rfl) (by kernel_rfl) (by kernel_rfl) (fun _ _ _ h => h) (Or.inr ⟨by kernel_rfl, rfl⟩) (by assumption) ?_
        try simp only [Act.put, List.setIfInBounds_toArray, List.set_cons_zero, List.set_cons_succ]
        refine wpAnyH_take (i := 8) (oi := { dst := some 32, op := Op.fieldAddr 42 (Operand.tmp 31) 0, type := 0, pos := "ref.go:75", after := #[{ on := 7, ground := Ground.data }, { on := 2, ground := Ground.guard }], guard := some (2, true) }) rfl (by kernel_rfl) (by kernel_rfl) (by kernel_rfl) (fun _ _ _ h => h) (Or.inr ⟨by kernel_rfl, rfl⟩) (by assumption) ?_
        try simp only [Act.put, List.setIfInBounds_toArray, List.set_cons_zero, List.set_cons_succ]
        refine wpAnyH_take (i := 9) (oi := { dst := some 33, op := Op.load 40 (Operand.tmp 32), type := 40, pos := "ref.go:75", after := #[{ on := 8, ground := Ground.data }, { on := 2, ground := Ground.guard }], guard := some (2, true) }) rfl (by kernel_rfl) (by kernel_rfl) (by kernel_rfl) (fun _ _ _ h => h) (Or.inr ⟨by kernel_rfl, rfl⟩) (by assumption) ?_
        try simp only [Act.put, List.setIfInBounds_toArray, List.set_cons_zero, List.set_cons_succ]
        refine wpAnyH_take (i := 10) (oi := { dst := some 34, op := Op.call { callee := Callee.value (Operand.func 113), args := #[Operand.tmp 27, Operand.tmp 33], argTypes := #[40, 40] }, type := 4, pos := "ref.go:75", after := #[{ on := 3, ground := Ground.data }, { on := 9, ground := Ground.data }, { on := 2, ground := Ground.chain }, { on := 2, ground := Ground.guard }], guard := some (2, true) }) rfl (by kernel_rfl) (by kernel_rfl) (by kernel_rfl) (fun _ _ _ h => h) (Or.inr ⟨by kernel_rfl, rfl⟩) (by assumption) ?_
        try simp only [Act.put, List.setIfInBounds_toArray, List.set_cons_zero, List.set_cons_succ]
        refine wpAnyH_take (i := 11) (oi := { dst := some 35, op := Op.pick (Operand.tmp 26) (Operand.tmp 34) (Operand.const (Value.bool false)), type := 4, pos := "ref.go:75", after := #[{ on := 2, ground := Ground.data }, { on := 10, ground := Ground.data }], guard := none }) (v := ?_) rfl (by kernel_rfl) (by kernel_rfl) (by kernel_rfl) (fun _ _ _ h => h) (Or.inl ⟨by kernel_rfl, ?_⟩) (by assumption) ?_
        rotate_left 1
        focus (intro w hSw; (try dsimp only at hSw); go_simp; (try with_reducible rfl))
        try simp only [Act.put, List.setIfInBounds_toArray, List.set_cons_zero, List.set_cons_succ]
        refine wpAnyH_done (by kernel_rfl) ?_ _
        skip
        have HQ3 : Hid (acc ++ ((if decide (a.x = x ∧ a.y = y) then [] else [a]) ++ pgo x y g true (l.drop (k + 1))) = RES) := by rw [← HQ2.out]; simp [Hid]
        have HLN3 : Hid (acc.length ≤ 2 * k + 1) := by have := HLN.out; unfold Hid; omega
        clear HQ2 HLN
        go_upto_region 11 with fail
        have hd := hd.drew
        refine wp_region_held_drew (S := fun V9 => St w [(w.heap.size + 1 + 1 + 1, rob none 0 0), (w.heap.size + 1 + 1, tob g), (w.heap.size + 1, po2 x y), (w.heap.size, rob p n c)] V9) (by kernel_rfl) ?_ (fun hHeld => ?_)
        · exact (stl hd.st)
        refine wpAnyH_take (i := 0) (oi := { dst := some 44, op := Op.fieldAddr 26 (Operand.tmp 3) 0, type := 0, pos := "ref.go:79", after := #[], guard := none }) (v := ?_) rfl (by kernel_rfl) (by kernel_rfl) (by kernel_rfl) (fun _ _ _ h => h) (Or.inl ⟨by kernel_rfl, ?_⟩) (by assumption) ?_
        rotate_left 1
        focus (intro w hSw; (try dsimp only at hSw); go_simp; (try with_reducible rfl))
        try simp only [Act.put, List.setIfInBounds_toArray, List.set_cons_zero, List.set_cons_succ]
        refine wpAnyH_take (i := 1) (oi := { dst := some 45, op := Op.load 24 (Operand.tmp 44), type := 24, pos := "ref.go:79", after := #[{ on := 0, ground := Ground.data }], guard := none }) rfl (by kernel_rfl) (by kernel_rfl) (by kernel_rfl) (fun _ _ _ h => h) (yields_load (by kernel_rfl) 24 (.tmp 44) rfl (.slice p n c) (fun V9 hV => ld_slc (hV.row (b := w.heap.size) (o := rob p n c) (by simp)))) (by assumption) ?_
        try simp only [Act.put, List.setIfInBounds_toArray, List.set_cons_zero, List.set_cons_succ]
        refine wpAnyH_take (i := 2) (oi := { dst := some 46, op := Op.move (Operand.tmp 10), type := 3, pos := "ref.go:79", after := #[], guard := none }) (v := ?_) rfl (by kernel_rfl) (by kernel_rfl) (by kernel_rfl) (fun _ _ _ h => h) (Or.inl ⟨by kernel_rfl, ?_⟩) (by assumption) ?_
        rotate_left 1
        focus (intro w hSw; (try dsimp only at hSw); go_simp; (try with_reducible rfl))
        try simp only [Act.put, List.setIfInBounds_toArray, List.set_cons_zero, List.set_cons_succ]
        refine wpAnyH_take (i := 3) (oi := { dst := some 47, op := Op.indexAddr 24 (Operand.tmp 45) (Operand.tmp 46), type := 0, pos := "ref.go:79", after := #[{ on := 1, ground := Ground.data }, { on := 2, ground := Ground.data }], guard := none }) (v := ?_) rfl (by kernel_rfl) (by kernel_rfl) (by kernel_rfl) (fun _ _ _ h => h) (Or.inl ⟨by kernel_rfl, ?_⟩) (by assumption) ?_
        rotate_left 1
        focus (intro w hSw; (try dsimp only at hSw); go_simp; (try with_reducible rfl))
        try simp only [Act.put, List.setIfInBounds_toArray, List.set_cons_zero, List.set_cons_succ]
        refine wpAnyH_take (i := 4) (oi := { dst := some 48, op := Op.fieldAddr 42 (Operand.tmp 47) 0, type := 0, pos := "ref.go:79", after := #[{ on := 3, ground := Ground.data }], guard := none }) (v := ?_) rfl (by kernel_rfl) (by kernel_rfl) (by kernel_rfl) (fun _ _ _ h => h) (Or.inl ⟨by kernel_rfl, ?_⟩) (by assumption) ?_
        rotate_left 1
        focus (intro w hSw; (try dsimp only at hSw); go_simp; (try with_reducible rfl))
        try simp only [Act.put, List.setIfInBounds_toArray, List.set_cons_zero, List.set_cons_succ]
        refine wpAnyH_take (i := 5) (oi := { dst := some 49, op := Op.load 40 (Operand.tmp 48), type := 40, pos := "ref.go:79", after := #[{ on := 4, ground := Ground.data }], guard := none }) rfl (by kernel_rfl) (by kernel_rfl) (by kernel_rfl) (fun _ _ _ h => h) (yields_load (by kernel_rfl) 40 (.tmp 48) rfl (pv2 a.x a.y) (fun V9 hV => load_pos (HR.out.later hV.below) HAA.out)) (by assumption) ?_
        try simp only [Act.put, List.setIfInBounds_toArray, List.set_cons_zero, List.set_cons_succ]
        refine wpAnyH_take (i := 6) (oi := { dst := some 50, op := Op.load 40 (Operand.tmp 4), type := 40, pos := "ref.go:79", after := #[], guard := none }) rfl (by kernel_rfl) (by kernel_rfl) (by kernel_rfl) (fun _ _ _ h => h) (yields_load (by kernel_rfl) 40 (.tmp 4) rfl (pv2 x y) (fun V9 hV => ld_pp (hV.row (b := w.heap.size + 1) (o := po2 x y) (by simp)))) (by assumption) ?_
        try simp only [Act.put, List.setIfInBounds_toArray, List.set_cons_zero, List.set_cons_succ]
        refine wpAnyH_take (i := 7) (oi := { dst := some 51, op := Op.binOp BinOp.neq 40 (Operand.tmp 49) (Operand.tmp 50) 40, type := 4, pos := "ref.go:79", after := #[{ on := 5, ground := Ground.data }, { on := 6, ground := Ground.data }], guard := none }) rfl (by kernel_rfl) (by kernel_rfl) (by kernel_rfl) (fun _ _ _ h => h) (yields_bin (by kernel_rfl) .neq 40 (.tmp 49) (.tmp 50) 40 rfl _ _ rfl rfl guard_pos (.bool (!decide (a.x = x ∧ a.y = y))) (fun V => neq_pos _ _ _ _ V)) (by assumption) ?_
        try simp only [Act.put, List.setIfInBounds_toArray, List.set_cons_zero, List.set_cons_succ]
        refine wpAnyH_done (by kernel_rfl) ?_ _
        generalize decide (a.x = x ∧ a.y = y) = e at HQ3 ⊢
        cases e
        · have hlen3 : (acc).length ≤ 5000 := by have := HLN3.out; omega
          go_upto_region 12 with fail
          have hd := hd.drew
          obtain ⟨q4, m4, d4, w4, hrun, hc, hf, hs, hp4⟩ := hd.step a hlen3
          have HRUN := Lib.hid hrun
          have HC := Lib.hid hc
          have HF := Lib.hid hf
          have HL1 := Lib.hid (ld_slc (hd.st.row (List.mem_cons_self ..)))
          have HL2 := Lib.hid (ld_slc ((hd.st.alloc (taob a)).row (b := w.heap.size + 1 + 1 + 1 + 1) (o := rob q m d) (by simp)))
          have S1 := Lib.hid (stl hd.st)
          have S2 := Lib.hid (stl ((stl hd.st).alloc (taob a)))
          have S3 := Lib.hid hs
          have S4 := Lib.hid (stl hp4.st)
          have HP4 := Lib.hid hp4
          clear hrun hc hf hs hp4 hd hlen hlen3
          refine wp_region_held_drew (S := fun V9 => St w [(w.heap.size + 1 + 1 + 1, rob none 0 0), (w.heap.size + 1 + 1, tob g), (w.heap.size + 1, po2 x y), (w.heap.size, rob p n c)] V9) (by kernel_rfl) ?_ (fun hHeld => ?_)
          · exact S1.out
          refine wpAnyH_take (i := 0) (oi := { dst := some 52, op := Op.fieldAddr 26 (Operand.tmp 7) 0, type := 0, pos := "ref.go:80", after := #[], guard := none }) (v := ?_) rfl (by kernel_rfl) (by kernel_rfl) (by kernel_rfl) (fun _ _ _ h => h) (Or.inl ⟨by kernel_rfl, ?_⟩) (by assumption) ?_
          rotate_left 1
          focus (intro w hSw; (try dsimp only at hSw); go_simp; (try with_reducible rfl))
          try simp only [Act.put, List.setIfInBounds_toArray, List.set_cons_zero, List.set_cons_succ]
          refine wpAnyH_take (i := 2) (oi := { dst := some 54, op := Op.fieldAddr 26 (Operand.tmp 3) 0, type := 0, pos := "ref.go:80", after := #[], guard := none }) (v := ?_) rfl (by kernel_rfl) (by kernel_rfl) (by kernel_rfl) (fun _ _ _ h => h) (Or.inl ⟨by kernel_rfl, ?_⟩) (by assumption) ?_
          rotate_left 1
          focus (intro w hSw; (try dsimp only at hSw); go_simp; (try with_reducible rfl))
          try simp only [Act.put, List.setIfInBounds_toArray, List.set_cons_zero, List.set_cons_succ]
          refine wpAnyH_take (i := 3) (oi := { dst := some 55, op := Op.load 24 (Operand.tmp 54), type := 24, pos := "ref.go:80", after := #[{ on := 2, ground := Ground.data }], guard := none }) rfl (by kernel_rfl) (by kernel_rfl) (by kernel_rfl) (fun _ _ _ h => h) (yields_load (by kernel_rfl) 24 (.tmp 54) rfl (.slice p n c) (fun V9 hV => ld_slc (hV.row (b := w.heap.size) (o := rob p n c) (by simp)))) (by assumption) ?_
          try simp only [Act.put, List.setIfInBounds_toArray, List.set_cons_zero, List.set_cons_succ]
          refine wpAnyH_take (i := 4) (oi := { dst := some 56, op := Op.move (Operand.tmp 10), type := 3, pos := "ref.go:80", after := #[], guard := none }) (v := ?_) rfl (by kernel_rfl) (by kernel_rfl) (by kernel_rfl) (fun _ _ _ h => h) (Or.inl ⟨by kernel_rfl, ?_⟩) (by assumption) ?_
          rotate_left 1
          focus (intro w hSw; (try dsimp only at hSw); go_simp; (try with_reducible rfl))
          try simp only [Act.put, List.setIfInBounds_toArray, List.set_cons_zero, List.set_cons_succ]
          refine wpAnyH_take (i := 5) (oi := { dst := some 57, op := Op.indexAddr 24 (Operand.tmp 55) (Operand.tmp 56), type := 0, pos := "ref.go:80", after := #[{ on := 3, ground := Ground.data }, { on := 4, ground := Ground.data }], guard := none }) (v := ?_) rfl (by kernel_rfl) (by kernel_rfl) (by kernel_rfl) (fun _ _ _ h => h) (Or.inl ⟨by kernel_rfl, ?_⟩) (by assumption) ?_
          rotate_left 1
          focus (intro w hSw; (try dsimp only at hSw); go_simp; (try with_reducible rfl))
          try simp only [Act.put, List.setIfInBounds_toArray, List.set_cons_zero, List.set_cons_succ]
          refine wpAnyH_take (i := 6) (oi := { dst := some 58, op := Op.load 42 (Operand.tmp 57), type := 42, pos := "ref.go:80", after := #[{ on := 5, ground := Ground.data }], guard := none }) rfl (by kernel_rfl) (by kernel_rfl) (by kernel_rfl) (fun _ _ _ h => h) (yields_load (by kernel_rfl) 42 (.tmp 57) rfl (.agg (tac a).toArray) (fun V9 hV => load_ta (HR.out.later hV.below) HAA.out)) (by assumption) ?_
          try simp only [Act.put, List.setIfInBounds_toArray, List.set_cons_zero, List.set_cons_succ]
          refine wpAnyH_ready (rs := [1, 7]) (by kernel_rfl) (by simp) (AllReadyH.cons (o := { dst := some 53, op := Op.load 24 (Operand.tmp 52), type := 24, pos := "ref.go:80", after := #[{ on := 0, ground := Ground.data }], guard := none }) rfl (fun K hK => ?_) (AllReadyH.cons (o := { dst := some 59, op := Op.buildSlice 24 1 #[(0, Operand.tmp 58)], type := 24, pos := "ref.go:80", after := #[{ on := 6, ground := Ground.data }], guard := none }) rfl (fun K hK => ?_) AllReadyH.nil))
          · first | refine wp_load_of 24 _ rfl _ HL1.out ?_ | refine wp_load_of 24 _ rfl _ HL2.out ?_
            refine hK.out _ _ ?_ (fun hHeld => ?_)
            · exact S1.out
            clear hK K
            try simp only [Act.put, List.setIfInBounds_toArray, List.set_cons_zero, List.set_cons_succ]
            refine wpAnyH_ready (rs := [7]) (by kernel_rfl) (by simp) (AllReadyH.cons (o := { dst := some 59, op := Op.buildSlice 24 1 #[(0, Operand.tmp 58)], type := 24, pos := "ref.go:80", after := #[{ on := 6, ground := Ground.data }], guard := none }) rfl (fun K hK => ?_) AllReadyH.nil)
            refine wp_slice1 _ rfl a rfl ?_
            refine hK.out _ _ ?_ (fun hHeld => ?_)
            · exact S2.out
            clear hK K
            try simp only [Act.put, List.setIfInBounds_toArray, List.set_cons_zero, List.set_cons_succ]
            refine wpAnyH_ready (rs := [8]) (by kernel_rfl) (by simp) (AllReadyH.cons (o := { dst := some 60, op := Op.call { callee := Callee.builtin Builtin.append, args := #[Operand.tmp 53, Operand.tmp 59], argTypes := #[24, 24] }, type := 24, pos := "ref.go:80", after := #[{ on := 1, ground := Ground.data }, { on := 7, ground := Ground.data }], guard := none }) rfl (fun K hK => ?_) AllReadyH.nil)
            refine wp_app _ _ 24 24 rfl rfl _ _ _ rfl rfl HRUN.out ?_
            refine hK.out _ _ ?_ (fun hHeld => ?_)
            · exact S3.out
            clear hK K
            try simp only [Act.put, List.setIfInBounds_toArray, List.set_cons_zero, List.set_cons_succ]
            refine wpAnyH_take (i := 9) (oi := { dst := some 61, op := Op.fieldAddr 26 (Operand.tmp 7) 0, type := 0, pos := "ref.go:80", after := #[{ on := 0, ground := Ground.phase }, { on := 1, ground := Ground.phase }, { on := 2, ground := Ground.phase }, { on := 3, ground := Ground.phase }, { on := 4, ground := Ground.phase }, { on := 5, ground := Ground.phase }, { on := 6, ground := Ground.phase }, { on := 7, ground := Ground.phase }, { on := 8, ground := Ground.phase }], guard := none }) (v := ?_) rfl (by kernel_rfl) (by kernel_rfl) (by kernel_rfl) (fun _ _ _ h => h) (Or.inl ⟨by kernel_rfl, ?_⟩) (by assumption) ?_
            rotate_left 1
            focus (intro w hSw; (try dsimp only at hSw); go_simp; (try with_reducible rfl))
            try simp only [Act.put, List.setIfInBounds_toArray, List.set_cons_zero, List.set_cons_succ]
            refine wpAnyH_ready (rs := [10]) (by kernel_rfl) (by simp) (AllReadyH.cons (o := { dst := none, op := Op.store 24 (Operand.tmp 61) (Operand.tmp 60), type := 0, pos := "ref.go:80", after := #[{ on := 9, ground := Ground.data }, { on := 8, ground := Ground.data }, { on := 8, ground := Ground.chain }, { on := 0, ground := Ground.phase }, { on := 1, ground := Ground.phase }, { on := 2, ground := Ground.phase }, { on := 3, ground := Ground.phase }, { on := 4, ground := Ground.phase }, { on := 5, ground := Ground.phase }, { on := 6, ground := Ground.phase }, { on := 7, ground := Ground.phase }, { on := 8, ground := Ground.phase }], guard := none }) rfl (fun K hK => ?_) AllReadyH.nil)
            refine wp_store_of 24 _ _ rfl (st_sl HC.out HF.out) ?_
            refine hK.out _ _ ?_ (fun hHeld => ?_)
            · exact S4.out
            clear hK K
            try simp only [Act.put]
            refine wpAnyH_done (by kernel_rfl) ?_ _
            clear HRUN HC HF HL1 HL2 S1 S2 S3 S4
            go_wp2
            go_roundw
            case rel => exact ⟨k + 1, m4, d4, q4, (acc) ++ [a], true, by omega, by go_num, rfl, HP4, Lib.hid (by rw [← HQ3.out]; simp), Lib.hid (by have := HLN3.out; rw [List.length_append]; simp only [List.length_cons, List.length_nil]; omega)⟩
            case measure => simp [intOf]; omega
          · refine wp_slice1 _ rfl a rfl ?_
            refine hK.out _ _ ?_ (fun hHeld => ?_)
            · exact S2.out
            clear hK K
            try simp only [Act.put, List.setIfInBounds_toArray, List.set_cons_zero, List.set_cons_succ]
            refine wpAnyH_ready (rs := [1]) (by kernel_rfl) (by simp) (AllReadyH.cons (o := { dst := some 53, op := Op.load 24 (Operand.tmp 52), type := 24, pos := "ref.go:80", after := #[{ on := 0, ground := Ground.data }], guard := none }) rfl (fun K hK => ?_) AllReadyH.nil)
            first | refine wp_load_of 24 _ rfl _ HL1.out ?_ | refine wp_load_of 24 _ rfl _ HL2.out ?_
            refine hK.out _ _ ?_ (fun hHeld => ?_)
            · exact S2.out
            clear hK K
            try simp only [Act.put, List.setIfInBounds_toArray, List.set_cons_zero, List.set_cons_succ]
            refine wpAnyH_ready (rs := [8]) (by kernel_rfl) (by simp) (AllReadyH.cons (o := { dst := some 60, op := Op.call { callee := Callee.builtin Builtin.append, args := #[Operand.tmp 53, Operand.tmp 59], argTypes := #[24, 24] }, type := 24, pos := "ref.go:80", after := #[{ on := 1, ground := Ground.data }, { on := 7, ground := Ground.data }], guard := none }) rfl (fun K hK => ?_) AllReadyH.nil)
            refine wp_app _ _ 24 24 rfl rfl _ _ _ rfl rfl HRUN.out ?_
            refine hK.out _ _ ?_ (fun hHeld => ?_)
            · exact S3.out
            clear hK K
            try simp only [Act.put, List.setIfInBounds_toArray, List.set_cons_zero, List.set_cons_succ]
            refine wpAnyH_take (i := 9) (oi := { dst := some 61, op := Op.fieldAddr 26 (Operand.tmp 7) 0, type := 0, pos := "ref.go:80", after := #[{ on := 0, ground := Ground.phase }, { on := 1, ground := Ground.phase }, { on := 2, ground := Ground.phase }, { on := 3, ground := Ground.phase }, { on := 4, ground := Ground.phase }, { on := 5, ground := Ground.phase }, { on := 6, ground := Ground.phase }, { on := 7, ground := Ground.phase }, { on := 8, ground := Ground.phase }], guard := none }) (v := ?_) rfl (by kernel_rfl) (by kernel_rfl) (by kernel_rfl) (fun _ _ _ h => h) (Or.inl ⟨by kernel_rfl, ?_⟩) (by assumption) ?_
            rotate_left 1
            focus (intro w hSw; (try dsimp only at hSw); go_simp; (try with_reducible rfl))
            try simp only [Act.put, List.setIfInBounds_toArray, List.set_cons_zero, List.set_cons_succ]
            refine wpAnyH_ready (rs := [10]) (by kernel_rfl) (by simp) (AllReadyH.cons (o := { dst := none, op := Op.store 24 (Operand.tmp 61) (Operand.tmp 60), type := 0, pos := "ref.go:80", after := #[{ on := 9, ground := Ground.data }, { on := 8, ground := Ground.data }, { on := 8, ground := Ground.chain }, { on := 0, ground := Ground.phase }, { on := 1, ground := Ground.phase }, { on := 2, ground := Ground.phase }, { on := 3, ground := Ground.phase }, { on := 4, ground := Ground.phase }, { on := 5, ground := Ground.phase }, { on := 6, ground := Ground.phase }, { on := 7, ground := Ground.phase }, { on := 8, ground := Ground.phase }], guard := none }) rfl (fun K hK => ?_) AllReadyH.nil)
            refine wp_store_of 24 _ _ rfl (st_sl HC.out HF.out) ?_
            refine hK.out _ _ ?_ (fun hHeld => ?_)
            · exact S4.out
            clear hK K
            try simp only [Act.put]
            refine wpAnyH_done (by kernel_rfl) ?_ _
            clear HRUN HC HF HL1 HL2 S1 S2 S3 S4
            go_wp2
            go_roundw
            case rel => exact ⟨k + 1, m4, d4, q4, (acc) ++ [a], true, by omega, by go_num, rfl, HP4, Lib.hid (by rw [← HQ3.out]; simp), Lib.hid (by have := HLN3.out; rw [List.length_append]; simp only [List.length_cons, List.length_nil]; omega)⟩
            case measure => simp [intOf]; omega
        · have HD5 := Lib.hid hd
          clear hd hix hlen
          go_wp2
          go_roundw
          case rel => exact ⟨k + 1, m, d, q, (acc), true, by omega, by go_num, rfl, HD5, Lib.hid (by rw [← HQ3.out]; simp), Lib.hid (by have := HLN3.out; omega)⟩
          case measure => simp [intOf]; omega
    · obtain rfl : k = n := by omega
      have HQ2 : Hid (acc ++ (if b then [] else [⟨x, y, g⟩]) = RES) := by
        have h := HQ.out
        rw [List.drop_eq_nil_of_le (by have := HN.out; omega)] at h
        exact h
      clear HQ hlt
      cases b
      · go_upto_region 14 with fail
        clear hc3
        obtain ⟨q2, m2, d2, w2, hrun, hc2, hf2, hs2, hp2⟩ := hd.step ⟨x, y, g⟩ hlen
        have HRUN := Lib.hid hrun
        have HLO := Lib.hid (ld_slc (hd.st.row (List.mem_cons_self ..)))
        have HLP := Lib.hid (ld_pp (hd.st.row (b := w.heap.size + 1) (o := po2 x y) (by simp)))
        have HLT := Lib.hid (load_tile _ g _ (hd.st.row (b := w.heap.size + 1 + 1) (o := tob g) (by simp)))
        clear hrun
        go_upto_region 15 with (first
          | ((with_reducible refine sLoad (ty := 24) (v := .slice q m d) ?_ ?_); · exact HLO.out)
          | ((with_reducible refine sLoad (ty := 40) (v := pv2 x y) ?_ ?_); · exact HLP.out)
          | ((with_reducible refine sLoad (ty := 38) (v := tv g) ?_ ?_); · exact HLT.out)
          | ((with_reducible refine sBuild2 (ty := 42) (v := tav ⟨x, y, g⟩) ?_ ?_); · exact built_ta _ _ _ _)
          | ((with_reducible refine sSlice1 ⟨x, y, g⟩ ?_ ?_); · rfl)
          | (at_builtin; refine Lib.wpList_append_run _ rfl _ _ _ _ rfl _ _ rfl rfl _ _ HRUN.out ?_))
        generalize w2.setCell ⟨w.heap.size + 1 + 1 + 1 + 1, 0, none⟩ (.slice q2 m2 d2) = w3 at hp2 ⊢
        have hrs := hp2.rs (by simp; have := HLN.out; omega)
        clear HRUN HLO HLP HLT hd hs2 hc2 hf2
        have h5 := hp2.st
        have c7 := h5.cell (b := w.heap.size + 1 + 1 + 1 + 1) (cs := #[.slice q2 m2 d2]) (t := 26) (by simp) 0
        have c6 := h5.cell (b := w.heap.size + 1 + 1 + 1) (cs := #[.slice none 0 0]) (t := 26) (by simp) 0
        have f6 := h5.frozen (b := w.heap.size + 1 + 1 + 1) (cs := #[.slice none 0 0]) (t := 26) (by simp) 0
        go_wp2
        obtain ⟨hrow, hrs2, hbl⟩ := hp2.fin (b := w.heap.size + 1 + 1 + 1) (by omega) (by simp) (by simp; have := HLN.out; omega)
        exact bodyPost_ret (res_r rfl _ _ (w.heap.size + 1 + 1 + 1) q2 m2 d2 rfl hrow) rfl ⟨q2, m2, d2, rfl, by rw [← HQ2.out]; exact hrs2, hbl⟩
      · have h5 := hd.st
        have c7 := h5.cell (b := w.heap.size + 1 + 1 + 1 + 1) (cs := #[.slice q m d]) (t := 26) (by simp) 0
        have c6 := h5.cell (b := w.heap.size + 1 + 1 + 1) (cs := #[.slice none 0 0]) (t := 26) (by simp) 0
        have f6 := h5.frozen (b := w.heap.size + 1 + 1 + 1) (cs := #[.slice none 0 0]) (t := 26) (by simp) 0
        go_wp2
        obtain ⟨hrow, hrs2, hbl⟩ := hd.fin (b := w.heap.size + 1 + 1 + 1) (by omega) (by simp) (by have := HLN.out; omega)
        exact bodyPost_ret (res_r rfl _ _ (w.heap.size + 1 + 1 + 1) q m d rfl hrow) rfl ⟨q, m, d, rfl, by rw [← HQ2.out]; simpa using hrs2, hbl⟩
end Go.Proofs.YtfncldaodbfakaaGreat.Q
