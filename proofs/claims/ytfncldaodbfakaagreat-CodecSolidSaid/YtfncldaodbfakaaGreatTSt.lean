/-
  A tile as a value and in memory. Equality of pixels and of tiles. A range over a function whose assignment makes one variable in new memory; tile's places.
-/
import Derived.Test.YtfncldaodbfakaaGreatPure
import Derived.Deep.MidRow
import Derived.Laws.Tables
import Derived.Laws.StructEq
namespace Go.Proofs.YtfncldaodbfakaaGreat.T
open Go.RowKit
variable {W w w' : World} {L : List (Nat × Obj)}

/-- the cells of a pixel -/
def pl (p : Px) : List Value := [.int .u8 p.r, .int .u8 p.g, .int .u8 p.b, .int .u8 p.a]
theorem pl_len (p : Px) : (pl p).length = 4 := rfl
theorem pl_v (p : Px) : Value.agg (pl p).toArray = p.v := rfl
/-- the cells of the pixels below n -/
def fl (n : Nat) (f : Nat → Px) : List Value := (List.range n).flatMap fun i => pl (f i)
theorem fl_succ (n : Nat) (f : Nat → Px) : fl (n + 1) f = fl n f ++ pl (f n) := by
  unfold fl; rw [List.range_succ, List.flatMap_append]; simp
theorem fl_len (n : Nat) (f : Nat → Px) : (fl n f).length = 4 * n := by
  induction n with
  | zero => rfl
  | succ n ih => rw [fl_succ, List.length_append, ih, pl_len]; omega
theorem fl_get (n : Nat) (f : Nat → Px) (i j : Nat) (hi : i < n) (hj : j < 4) : (fl n f)[4 * i + j]? = (pl (f i))[j]? := by
  induction n with
  | zero => omega
  | succ n ih =>
    rw [fl_succ]
    by_cases h : i < n
    · rw [List.getElem?_append_left (by rw [fl_len]; omega)]
      exact ih h
    · obtain rfl : i = n := by omega
      rw [List.getElem?_append_right (by rw [fl_len]; omega), fl_len]
      congr 1
      omega
/-- the cells of a tile whose pixel number i is f i -/
def tc (f : Nat → Px) : Array Value := (fl 64 f).toArray
theorem tc_size (f : Nat → Px) : (tc f).size = 256 := by unfold tc; rw [List.size_toArray, fl_len]
theorem tc_get (f : Nat → Px) (i j : Nat) (hi : i < 64) (hj : j < 4) : (tc f)[4 * i + j]? = (pl (f i))[j]? := by
  unfold tc; rw [List.getElem?_toArray]; exact fl_get 64 f i j hi hj
theorem tc_ext {f g : Nat → Px} (h : ∀ i, i < 64 → f i = g i) : tc f = tc g := by
  unfold tc fl
  congr 1
  rw [List.flatMap_def, List.flatMap_def]
  congr 1
  exact List.map_congr_left fun i hi => by rw [h i (by simpa using hi)]
theorem px_of_pl {p q : Px} (h : ∀ j, j < 4 → (pl p)[j]? = (pl q)[j]?) : p = q := by
  have h0 := h 0 (by omega); have h1 := h 1 (by omega); have h2 := h 2 (by omega); have h3 := h 3 (by omega)
  cases p; cases q
  simp [pl] at h0 h1 h2 h3
  simp [h0, h1, h2, h3]
theorem tc_inj {f g : Nat → Px} (h : tc f = tc g) (i : Nat) (hi : i < 64) : f i = g i :=
  px_of_pl fun j hj => by rw [← tc_get f i j hi hj, ← tc_get g i j hi hj, h]
theorem tc_of {cs : Array Value} (f : Nat → Px) (hs : cs.size = 256) (h : ∀ i j, i < 64 → j < 4 → cs[4 * i + j]? = (pl (f i))[j]?) : cs = tc f := by
  apply Array.ext_getElem?
  intro k
  by_cases hk : k < 256
  · have e : k = 4 * (k / 4) + k % 4 := by omega
    rw [e, h _ _ (by omega) (by omega), tc_get f _ _ (by omega) (by omega)]
  · rw [Array.getElem?_eq_none (by omega), Array.getElem?_eq_none (by rw [tc_size]; omega)]
theorem pl_one (p : Px) : (pl p).toArray.all (·.oneCell') = true := by simp [pl]; exact ⟨rfl, rfl, rfl, rfl⟩
theorem tc_one (f : Nat → Px) : (tc f).all (·.oneCell') = true := by
  unfold tc
  apply all_oneCell_toArray
  intro v hv
  unfold fl at hv
  obtain ⟨i, _, hi⟩ := List.mem_flatMap.1 hv
  simp [pl] at hi
  rcases hi with rfl | rfl | rfl | rfl <;> rfl
/-- a tile as a value, and in memory -/
abbrev tv (f : Nat → Px) : Value := .agg (tc f)
abbrev tob (f : Nat → Px) : Obj := .cells (tc f) 38
/-- the tile f with the pixel number i replaced -/
def upd (f : Nat → Px) (i : Nat) (p : Px) : Nat → Px := fun k => if k = i then p else f k
theorem upd_self (f : Nat → Px) (i : Nat) (p : Px) : upd f i p i = p := if_pos rfl
theorem upd_other (f : Nat → Px) {i k : Nat} (p : Px) (h : k ≠ i) : upd f i p k = f k := if_neg h
theorem set4 (cs : Array Value) (hs : cs.size = 256) (f : Nat → Px) (hg : ∀ i j, i < 64 → j < 4 → cs[4 * i + j]? = (pl (f i))[j]?) (i : Nat) (hi : i < 64) (p : Px) :
    (((cs.setIfInBounds (4 * i) (.int .u8 p.r)).setIfInBounds (4 * i + 1) (.int .u8 p.g)).setIfInBounds (4 * i + 1 + 1) (.int .u8 p.b)).setIfInBounds (4 * i + 1 + 1 + 1) (.int .u8 p.a) = tc (upd f i p) := by
  refine tc_of _ (by simp [hs]) fun k j hk hj => ?_
  rw [Array.getElem?_setIfInBounds, Array.getElem?_setIfInBounds, Array.getElem?_setIfInBounds, Array.getElem?_setIfInBounds]
  simp only [Array.size_setIfInBounds, hs]
  by_cases e : k = i
  · subst e
    rw [upd_self]
    have : j = 0 ∨ j = 1 ∨ j = 2 ∨ j = 3 := by omega
    rcases this with rfl | rfl | rfl | rfl
    · rw [if_neg (by omega), if_neg (by omega), if_neg (by omega), if_pos (by omega), if_pos (by omega)]; rfl
    · rw [if_neg (by omega), if_neg (by omega), if_pos (by omega), if_pos (by omega)]; rfl
    · rw [if_neg (by omega), if_pos (by omega), if_pos (by omega)]; rfl
    · rw [if_pos (by omega), if_pos (by omega)]; rfl
  · rw [upd_other _ _ e, if_neg (by omega), if_neg (by omega), if_neg (by omega), if_neg (by omega)]
    exact hg k j hk hj
theorem setCells_row (w : World) (b : Nat) (f : Nat → Px) (i : Nat) (p : Px) (hi : i < 64) (h : w.heap[b]? = some (tob f)) : w.setCells b (4 * i) (pl p) = w.setRow b (tc (upd f i p)) := by
  have hg := fun i j hi hj => tc_get f i j hi hj
  have hs := tc_size f
  have h : w.heap[b]? = some (.cells (tc f) 38) := h
  rw [← set4 (tc f) hs f hg i hi p]
  generalize tc f = cs at *
  simp only [pl, World.setCells]
  rw [setCell_eq_setRow w b (4 * i) cs _ (0, 0) _ h]
  have h1 := setRow_heap w b cs (cs.setIfInBounds (4 * i) (.int .u8 p.r)) _ (0, 0) h
  rw [setCell_eq_setRow _ b _ _ _ (0, 0) _ h1, setRow_setRow]
  have h2 := setRow_heap w b cs ((cs.setIfInBounds (4 * i) (.int .u8 p.r)).setIfInBounds (4 * i + 1) (.int .u8 p.g)) _ (0, 0) h
  rw [setCell_eq_setRow _ b _ _ _ (0, 0) _ h2, setRow_setRow]
  have h3 := setRow_heap w b cs (((cs.setIfInBounds (4 * i) (.int .u8 p.r)).setIfInBounds (4 * i + 1) (.int .u8 p.g)).setIfInBounds (4 * i + 1 + 1) (.int .u8 p.b)) _ (0, 0) h
  rw [setCell_eq_setRow _ b _ _ _ (0, 0) _ h3, setRow_setRow]

theorem range_px {b : Nat} {f : Nat → Px} {i : Nat} (h : w.heap[b]? = some (tob f)) (hi : i < 64) : w.rangeAt b (4 * i) (pl (f i)) := fun j v hv => by
  rw [cell_of_row w b (4 * i + j) _ _ (0, 0) h, tc_get f i j hi (by have := (List.getElem?_eq_some_iff.1 hv).1; simpa [pl_len] using this)]
  exact hv
theorem there_row {b : Nat} {cs : Array Value} {t : TypeId} {o n : Nat} (h : w.heap[b]? = some (.cells cs t)) (hn : o + n ≤ cs.size) : w.there b o n := fun j hj => by
  refine ⟨?_, frozen_of_row _ _ _ _ _ h⟩
  rw [cell_of_row w b (o + j) _ _ (0, 0) h, Array.getElem?_eq_getElem (by omega)]; rfl
set_option maxRecDepth 100000 in
theorem load_px (b : Nat) (f : Nat → Px) (i : Nat) (hi : i < 64) (w : World) (h : w.heap[b]? = some (tob f)) : (Instr.loadAt 36 (.pointer (some ⟨b, 4 * i, none⟩))).run Tryz.prog w = .ok (f i).v w :=
  run_loadAt_mid w b (4 * i) 36 (pl (f i)) _ (range_px h hi) Tryz.underlying36 rfl (by kernel_rfl)
theorem info_px : (Tryz.prog.info? 36).map (·.size) = some 4 := by kernel_rfl
theorem info_tile : (Tryz.prog.info? 38).map (·.size) = some 256 := by kernel_rfl
theorem store_px (b : Nat) (f : Nat → Px) (i : Nat) (p : Px) (hi : i < 64) (w : World) (h : w.heap[b]? = some (tob f)) : (Instr.storeAt 36 (.pointer (some ⟨b, 4 * i, none⟩)) p.v).run Tryz.prog w = .ok () (w.setRow b (tc (upd f i p))) := by
  rw [← setCells_row w b f i p hi h]
  exact run_storeAt_mid w b (4 * i) 36 (pl p).toArray (there_row h (by rw [tc_size]; simp [pl]; omega)) info_px (pl_one p)
theorem range_tile {b : Nat} {f : Nat → Px} (h : w.heap[b]? = some (tob f)) : w.rangeAt b 0 (tc f).toList := fun j v hv => by
  rw [Nat.zero_add, cell_of_row w b j _ _ (0, 0) h]; simpa using hv
theorem load_tile (b : Nat) (f : Nat → Px) (w : World) (h : w.heap[b]? = some (tob f)) : (Instr.loadAt 38 (.pointer (some ⟨b, 0, none⟩))).run Tryz.prog w = .ok (tv f) w := by
  have := run_loadAt_mid w b 0 38 (tc f).toList _ (range_tile h) Tryz.underlying38 rfl (by rw [info_tile, Array.length_toList, tc_size])
  simpa using this
theorem store_tile (b : Nat) (f g : Nat → Px) (w : World) (h : w.heap[b]? = some (tob f)) : (Instr.storeAt 38 (.pointer (some ⟨b, 0, none⟩)) (tv g)).run Tryz.prog w = .ok () (w.setRow b (tc g)) := by
  simp only [Instr.storeAt, Instr.sureAddr, Sem.run_bind, Sem.run_pure, Result.andThen_ok, run_storeVar_row w b _ 38 _ _ h (by rw [info_tile, tc_size]) (by rw [tc_size, tc_size]) (tc_one g)]
set_option maxRecDepth 100000 in
theorem index_px (b i : Nat) (hi : i < 64) (w : World) : (Instr.indexAt 38 (.pointer (some ⟨b, 0, none⟩)) (.int .i64 i)).run Tryz.prog w = .ok (.pointer (some ⟨b, 4 * i, none⟩)) w := by
  have hs : (sizeOf 36).run Tryz.prog w = .ok 4 w := by kernel_rfl
  have h2 : 0 ≤ (i : Int) ∧ (i : Int) < (64 : Nat) := ⟨by omega, by omega⟩
  have ha : (⟨b, 0, none⟩ : Addr).add (i * 4) = ⟨b, 4 * i, none⟩ := by rw [Addr.add_mid, Nat.zero_add, Nat.mul_comm]
  simp only [Instr.indexAt, asIntOf, Instr.sureAddr, Sem.run_bind, Sem.run_pure, Result.andThen_ok, run_underlying Tryz.underlying38, hs, if_pos h2, Int.toNat_natCast, ha]
/-- the transparent tile -/
def z0 : Nat → Px := fun _ => zp
set_option maxRecDepth 100000 in
theorem zero_tile (w : World) : (zeroValue 38).run Tryz.prog w = .ok (tv z0) w := by kernel_rfl

/-- blocks of one's own that hold tiles -/
theorem St.tile (h : St W L w) {b : Nat} {f : Nat → Px} (hm : (b, tob f) ∈ L) : w.heap[b]? = some (tob f) := h.row hm
theorem St.rowset {b : Nat} {cs ds : Array Value} {t : TypeId} (h : St W ((b, .cells cs t) :: L) w) (hb : W.heap.size ≤ b) (hL : ∀ x ∈ L, x.1 ≠ b) : St W ((b, .cells ds t) :: L) (w.setRow b ds) := by
  refine ⟨h.below.trans ⟨rfl, rfl, rfl, by simp [World.setRow], fun k hk => setRow_other w b k ds (by omega)⟩, fun x hx => ?_⟩
  rcases List.mem_cons.1 hx with rfl | hx
  · exact setRow_heap w b cs ds t (0, 0) (h.row (b := b) (o := .cells cs t) (by simp))
  · rw [setRow_other w b x.1 ds (hL x hx)]
    exact h.rows x (List.mem_cons_of_mem _ hx)
end Go.Proofs.YtfncldaodbfakaaGreat.T

namespace Go.Proofs.YtfncldaodbfakaaGreat.T
open Go.RowKit
variable {W w w' : World} {L : List (Nat × Obj)}

theorem eq_u8 (d : Nat) (a b : Int) (w : World) : (Op.equalIn (d + 1) 5 (.int .u8 a) (.int .u8 b)).run Tryz.prog w = .ok (a == b) w := run_equalIn_int w d _ _ _ a b Tryz.underlying5
def peq (p q : Px) : Bool := p.r == q.r && (p.g == q.g && (p.b == q.b && p.a == q.a))
theorem peq_iff (p q : Px) : peq p q = true ↔ p = q := by
  cases p; cases q; simp [peq]
instance : DecidableEq Px := fun p q => decidable_of_iff _ (peq_iff p q)
theorem peq_eq (p q : Px) : peq p q = decide (p = q) := by
  rw [Bool.eq_iff_iff, peq_iff]; simp
set_option maxRecDepth 100000 in
theorem eq_px (d : Nat) (p q : Px) (w : World) : (Op.equalIn (d + 1 + 1) 36 p.v q.v).run Tryz.prog w = .ok (peq p q) w := by
  have hf : Tryz.prog.fieldsOf 36 = Tryz.prog.fieldsOf 36 := rfl
  rw [run_equalIn_struct w (d + 1) 36 _ _ (by kernel_rfl) (by kernel_rfl)]
  have hfl : (Tryz.prog.fieldsOf 36).toList.map (fun f => (f.name, f.type, f.offset)) = [("R", 5, 0), ("G", 5, 1), ("B", 5, 2), ("A", 5, 3)] := by kernel_rfl
  generalize (Tryz.prog.fieldsOf 36).toList = fs at hfl
  obtain ⟨f0, r0, rfl, h0, e0⟩ := List.map_eq_cons_iff.1 hfl
  obtain ⟨f1, r1, rfl, h1, e1⟩ := List.map_eq_cons_iff.1 e0
  obtain ⟨f2, r2, rfl, h2, e2⟩ := List.map_eq_cons_iff.1 e1
  obtain ⟨f3, r3, rfl, h3, e3⟩ := List.map_eq_cons_iff.1 e2
  obtain rfl := List.map_eq_nil_iff.1 e3
  simp only [Prod.mk.injEq] at h0 h1 h2 h3
  have p0 : ∀ x y z u : Int, ∀ V, (part 5 #[Value.int .u8 x, .int .u8 y, .int .u8 z, .int .u8 u] 0).run Tryz.prog V = .ok (.int .u8 x) V := fun _ _ _ _ _ => rfl
  have p1 : ∀ x y z u : Int, ∀ V, (part 5 #[Value.int .u8 x, .int .u8 y, .int .u8 z, .int .u8 u] 1).run Tryz.prog V = .ok (.int .u8 y) V := fun _ _ _ _ _ => rfl
  have p2 : ∀ x y z u : Int, ∀ V, (part 5 #[Value.int .u8 x, .int .u8 y, .int .u8 z, .int .u8 u] 2).run Tryz.prog V = .ok (.int .u8 z) V := fun _ _ _ _ _ => rfl
  have p3 : ∀ x y z u : Int, ∀ V, (part 5 #[Value.int .u8 x, .int .u8 y, .int .u8 z, .int .u8 u] 3).run Tryz.prog V = .ok (.int .u8 u) V := fun _ _ _ _ _ => rfl
  obtain ⟨x, y, z, u⟩ := p
  obtain ⟨x', y', z', u'⟩ := q
  simp only [Op.eqFields, h0.1, h0.2.1, h0.2.2, h1.1, h1.2.1, h1.2.2, h2.1, h2.2.1, h2.2.2, h3.1, h3.2.1, h3.2.2]
  unfold peq
  cases a0 : x == x' <;> cases a1 : y == y' <;> cases a2 : z == z' <;> cases a3 : u == u' <;>
    simp only [ne_eq, String.reduceEq, not_false_eq_true, if_true, Sem.run_bind, p0, p1, p2, p3, eq_u8, a0, a1, a2, a3, Result.andThen_ok, Sem.run_ite, Sem.run_pure, Bool.not_true, Bool.not_false, Bool.false_eq_true, if_false, Bool.and_true, Bool.and_false]
def teq (f g : Nat → Px) : Bool := (List.range 64).all fun i => peq (f i) (g i)
theorem teq_iff (f g : Nat → Px) : teq f g = true ↔ ∀ i, i < 64 → f i = g i := by
  unfold teq
  rw [List.all_eq_true]
  simp only [List.mem_range, peq_iff]
theorem teq_true {f g : Nat → Px} (h : ∀ i, i < 64 → f i = g i) : teq f g = true := (teq_iff f g).2 h
theorem part_px (f : Nat → Px) (i : Nat) (hi : i < 64) (V : World) : (part 36 (tc f) (i * 4)).run Tryz.prog V = .ok (f i).v V := by
  have ha : (isAgg 36).run Tryz.prog V = .ok true V := by kernel_rfl
  have hs : (sizeOf 36).run Tryz.prog V = .ok 4 V := by kernel_rfl
  have he : (tc f).extract (i * 4) (i * 4 + 4) = (pl (f i)).toArray := by
    apply Array.ext_getElem?
    intro k
    rw [show (pl (f i)).toArray[k]? = (pl (f i))[k]? from List.getElem?_toArray, Array.getElem?_extract]
    have hz := tc_size f
    by_cases hk : k < 4
    · rw [if_pos (by omega), Nat.mul_comm i 4, show (tc f)[4 * i + k]? = _ from tc_get f i k hi hk]
    · rw [if_neg (by omega), List.getElem?_eq_none (by rw [pl_len]; omega)]
  simp only [part, Sem.run_bind, ha, hs, Result.andThen_ok, if_true, Sem.run_pure, he, pl_v]
theorem eq_tile (d : Nat) (f g : Nat → Px) (w : World) : (Op.equalIn (d + 1 + 1 + 1) 38 (tv f) (tv g)).run Tryz.prog w = .ok (teq f g) w := by
  rw [Op.equalIn, Sem.run_bind, run_underlying Tryz.underlying38]
  simp only [Result.andThen_ok]
  have hsz : (sizeOf 36).run Tryz.prog w = .ok 4 w := by kernel_rfl
  rw [Sem.run_bind, hsz]
  simp only [Result.andThen_ok]
  rw [Std.Legacy.Range.forIn_eq_forIn_range', show List.range' [:64].start [:64].size [:64].step = List.range 64 from by decide]
  unfold teq
  have hl : ∀ i ∈ List.range 64, i < 64 := fun i hi => by simpa using hi
  generalize List.range 64 = l at hl ⊢
  induction l with
  | nil => simp only [List.forIn_nil, Sem.run_bind, Sem.run_pure, Result.andThen_ok, List.all_nil]
  | cons i l ih =>
    have ih := ih fun k hk => hl k (List.mem_cons_of_mem _ hk)
    have hi := hl i (List.mem_cons_self ..)
    simp only [List.forIn_cons, Sem.run_bind, part_px f i hi, part_px g i hi, eq_px, Result.andThen_ok, List.all_cons]
    cases he : peq (f i) (g i)
    · simp only [Bool.not_false, if_true, Sem.run_pure, Result.andThen_ok, Bool.false_and]
    · simp only [Bool.not_true, Bool.false_eq_true, if_false, Sem.run_pure, Result.andThen_ok, Bool.true_and]
      simp only [Sem.run_bind] at ih
      exact ih
theorem eql_tile (f g : Nat → Px) (w : World) : (Go.binOp .eql 38 (tv f) (tv g)).run Tryz.prog w = .ok (.bool (teq f g)) w := by
  rw [run_eql_struct, show (10000 : Nat) = 9997 + 1 + 1 + 1 from rfl, eq_tile]; rfl
theorem neq_tile (f g : Nat → Px) (w : World) : (Go.binOp .neq 38 (tv f) (tv g)).run Tryz.prog w = .ok (.bool (!(teq f g))) w := by
  rw [run_neq_struct, show (10000 : Nat) = 9997 + 1 + 1 + 1 from rfl, eq_tile]; rfl
theorem eql_px (p q : Px) (w : World) : (Go.binOp .eql 36 p.v q.v).run Tryz.prog w = .ok (.bool (peq p q)) w := by
  rw [run_eql_struct, show (10000 : Nat) = 9998 + 1 + 1 from rfl, eq_px]; rfl
theorem neq_px (p q : Px) (w : World) : (Go.binOp .neq 36 p.v q.v).run Tryz.prog w = .ok (.bool (!(peq p q))) w := by
  rw [run_neq_struct, show (10000 : Nat) = 9998 + 1 + 1 from rfl, eq_px]; rfl
end Go.Proofs.YtfncldaodbfakaaGreat.T

namespace Go.Proofs.YtfncldaodbfakaaGreat.T
open Go.RowKit Go.Shelf
attribute [local go_sem] Oper.semAt_some
variable {M : Nat → Prop} {A B C W W' w : World}

theorem range_box {α : Type} {P : Program} {n : Nat} {g : Operand} {ps : Array Tmp} {assign body : Code} {Q : Exit → Act → World → Prop} {a : Act} {w : World} {gf : Nat} {lb : Array Value}
    (hg : a.eval g = .func (.func gf) #[] lb) (eg : ∀ args w, (callFunc gf args).run P w = .ok (.enter gf args) w) {encs : α → Array Value} {M : Nat → Prop} {xs : List α} {w0 : World}
    (hseq : SeqAll P gf lb encs M xs w0) (hb0 : Below w0.heap.size w0 w) (hM : ∀ k, M k → k < w.heap.size) (hps : ∀ x, (encs x).size = ps.size)
    (I : List α → World → Prop) (hI : Abd w.heap.size I) (h0 : I [] w) (a₁ : α → Nat → Act) (o : α → Obj)
    (hassign : ∀ (l : Nat) (x : α) (W : World) (K : Act → World → Prop), K (a₁ x W.heap.size) (W.alloc (o x)) →
      assign.wpIn (Fence.wide.inRound l) n P (Exit.then K (fun _ _ _ => False)) { tmps := (ps.zip (encs x)).foldl (fun t (p, v) => t.setIfInBounds p v) a.tmps, defers := [] } W)
    (hbody : ∀ (l : Nat) (pre : List α) (x : α) (b : Nat) (W : World), I pre W → (pre ++ [x]) <+: xs → w.heap.size + 2 ≤ b → W.heap[b]? = some (o x) → body.wpIn (Fence.wide.inRound l) n P (roundEnd M I (pre ++ [x]) W) (a₁ x b) W)
    (hdone : ∀ (D : Nat) (W : World), w.heap.size ≤ D → I xs W → W.heap[D]? = some (.deferred (some [])) → Kept M w W → Q .normal { a with defers := { target := .collected D, args := #[] } :: a.defers } W) :
    (Code.rangeFunc g ps assign body).wpIn Fence.wide n P Q a w := by
  refine wpIn_rangeFunc (fun fn hfn => ?_)
  let rec₀ : LoopState → Loop := fun st => { state := st, pending := none, fn, tmps := a.tmps, params := ps, assign, body, defers := w.heap.size }
  obtain ⟨W1, hW1⟩ : ∃ W1, (w.alloc (.deferred (some []))).alloc (.loop (rec₀ .ready)) = W1 := ⟨_, rfl⟩
  have hz : W1.heap.size = w.heap.size + 1 + 1 := by rw [← hW1]; simp
  have hB1 : Below w.heap.size w W1 := by rw [← hW1]; exact below1.alloc (by simp) _
  have hL : W1.heap[w.heap.size + 1]? = some (.loop (rec₀ .ready)) := by
    rw [← hW1]; have := World.alloc_heap_new (w.alloc (.deferred (some []))) (.loop (rec₀ .ready)); rwa [World.size_alloc] at this
  have hD : W1.heap[w.heap.size]? = some (.deferred (some [])) := by
    rw [← hW1]; exact (Below.heap_alloc _ _ _ (by simp)).trans (World.alloc_heap_new w _)
  refine ⟨w.heap.size + 1, [{ target := .collected w.heap.size, args := #[] }], W1, { target := .fn (.func gf) lb, args := #[.func (.yield (w.heap.size + 1)) #[] #[]] }, W1, gf,
    #[.func (.yield (w.heap.size + 1)) #[] #[]] ++ lb, W1, by rw [← hW1]; exact run_enterLoop_outer _ _ _ _ _, by simp only [resolve, hg]; simp [go_sem], fun _ _ => trivial, (by simp [invoke, go_sem, eg]), (fun h => by cases h), ?_⟩
  -- what is carried through the rounds: the body's own word, the loop's record and its block for deferred calls
  have key := hseq (w.heap.size + 1) (fun pre W => I pre W ∧ (w.heap.size + 2 ≤ W.heap.size ∧ W.heap[w.heap.size + 1]? = some (.loop (rec₀ .ready))) ∧ W.heap[w.heap.size]? = some (.deferred (some []))) W1
    (hb0.trans (hB1.mono hb0.size)) (fun k hk => by have := hM k hk; omega)
    (fun s X Y ⟨h1, ⟨h4, h2⟩, h3⟩ hb => ⟨hI s X Y h1 (hb.mono (by omega)), ⟨Nat.le_trans h4 hb.size, (hb.block _ (by omega)).trans h2⟩, (hb.block _ (by omega)).trans h3⟩) ?_ ⟨hI _ _ _ h0 hB1, ⟨by omega, hL⟩, hD⟩
  · refine callsIn_wide.2 (key.mono ?_)
    rintro e W2 ⟨⟨v, rfl⟩, ⟨hi, ⟨_, hl⟩, hd⟩, hk⟩
    refine ⟨none, _, run_endLoop hl (by simp [rec₀]), ?_⟩
    refine hdone _ _ (Nat.le_refl _) (hI _ _ _ hi (below_putObj _ (by omega))) ((World.putObj_heap_other (by omega)).trans hd) ?_
    have hk2 : Kept M w W2 := (Kept.of_below hB1).trans hk
    exact ⟨hk2.os, hk2.tape, hk2.output, by simpa [World.putObj] using hk2.size, fun k hk3 hm => (World.putObj_heap_other (by omega)).trans (hk2.block k hk3 hm)⟩
  · rintro pre x W m ⟨hi, ⟨hle, hl⟩, hd⟩ hpre
    have hlt : w.heap.size + 1 < W.heap.size := (Array.getElem?_eq_some_iff.1 hl).1
    have hlo : (W.alloc (o x)).heap[w.heap.size + 1]? = some (.loop (rec₀ .ready)) := (Below.heap_alloc _ _ _ hlt).trans hl
    refine ⟨fn, _, assign, body, run_yield hl (by simpa [rec₀] using hps x), round_any (roundIn_of_wpIn (n := n) hfn (hassign _ x W _ ⟨_, run_beginRound hlo rfl, ?_⟩))⟩
    have hkA : Kept M W (W.alloc (o x)) := Kept.of_below (Below.refl _ _ |>.alloc (Nat.le_refl _) _)
    have hiA := hI _ _ _ hi ((Below.refl w.heap.size W).alloc (by omega) (o x))
    have hdA : (W.alloc (o x)).heap[w.heap.size]? = some (.deferred (some [])) := (Below.heap_alloc _ _ _ (by omega)).trans hd
    have hbA : (W.alloc (o x)).heap[W.heap.size]? = some (o x) := World.alloc_heap_new W _
    have hzA : (W.alloc (o x)).heap.size = W.heap.size + 1 := by simp
    generalize hVA : W.alloc (o x) = VA at hlo hkA hiA hdA hbA hzA ⊢
    have hl2 : (VA.putObj (w.heap.size + 1) (.loop (rec₀ .busy))).heap[w.heap.size + 1]? = some (.loop (rec₀ .busy)) := World.putObj_heap_same (by omega)
    have hz2 : (VA.putObj (w.heap.size + 1) (.loop (rec₀ .busy))).heap.size = VA.heap.size := by simp [World.putObj]
    refine wpIn_mono (hbody _ pre x W.heap.size (VA.putObj (w.heap.size + 1) (.loop (rec₀ .busy))) (hI _ _ _ hiA (below_putObj _ (by omega))) hpre (by omega) ((World.putObj_heap_other (by omega)).trans hbA)) ?_
    rintro e a3 W3 hp
    cases e with
    | normal =>
      obtain ⟨hk3, hi3⟩ := hp
      have hnm : ∀ k, w.heap.size ≤ k → ¬ M k := fun k hk hm => by have := hM k hm; omega
      have hl3 : W3.heap[w.heap.size + 1]? = some (.loop (rec₀ .busy)) := hk3.row hl2 (hnm _ (by omega))
      have hd3 : W3.heap[w.heap.size]? = some (.deferred (some [])) := hk3.row ((World.putObj_heap_other (by omega)).trans hdA) (hnm _ (by omega))
      have hz3 := hk3.size
      refine ⟨_, _, run_endRound none hl3, rfl, ⟨hI _ _ _ hi3 (below_putObj _ (by omega)), ⟨by simp [World.putObj]; omega, World.putObj_heap_same (Array.getElem?_eq_some_iff.1 hl3).1⟩, (World.putObj_heap_other (by omega)).trans hd3⟩, ?_⟩
      refine ⟨hk3.os.trans hkA.os, hk3.tape.trans hkA.tape, hk3.output.trans hkA.output, by simp [World.putObj]; omega, fun k hk hm => ?_⟩
      by_cases he : k = w.heap.size + 1
      · subst he
        rw [hl]
        exact World.putObj_heap_same (Array.getElem?_eq_some_iff.1 hl3).1
      · exact (World.putObj_heap_other he).trans ((hk3.block k (by omega) hm).trans ((World.putObj_heap_other he).trans (hkA.block k hk hm)))
    | ret => exact hp.elim
    | exit id => exact hp.elim
    | goto t => exact hp.elim
    | panic ch => exact hp.elim
    | outgrown => exact hp.elim

/-- loads and stores by their run equations, in a fenced walk and in a plain one -/
theorem wpListIn_load_of {F : Fence} {n : Nat} {P : Program} {ops : Array Oper} {rest : List Oper} {o : Oper} {a : Act} {Q : Exit → Act → World → Prop} {w : World} (hg : o.guard = none) (ty : TypeId) (x : Operand) (ho : o.op = .load ty x) (v : Value)
    (hl : (Instr.loadAt ty (a.eval x)).run P w = .ok v w) (h : wpListIn F n P ops Q rest (a.put o.dst v) w) : wpListIn F n P ops Q (o :: rest) a w := by
  refine wpListIn_plain hg fun K hK => ?_
  unfold Oper.wpIn
  refine ⟨by simp [Oper.about, ho], ?_⟩
  rw [Oper.semAt_plain F _ _ (by rw [ho]; intro c hc; cases hc)]
  simp only [execOp, ho, Sem.run_bind, hl, Result.andThen_ok, Sem.run_pure, Oper.uponIn_value]
  exact hK _ _ h
theorem wpListIn_store_of {F : Fence} {n : Nat} {P : Program} {ops : Array Oper} {rest : List Oper} {o : Oper} {a : Act} {Q : Exit → Act → World → Prop} {w w' : World} (hg : o.guard = none) (ty : TypeId) (x y : Operand) (ho : o.op = .store ty x y)
    (hl : (Instr.storeAt ty (a.eval x) (a.eval y)).run P w = .ok () w') (h : wpListIn F n P ops Q rest (a.put o.dst undef) w') : wpListIn F n P ops Q (o :: rest) a w := by
  refine wpListIn_plain hg fun K hK => ?_
  unfold Oper.wpIn
  refine ⟨by simp [Oper.about, ho], ?_⟩
  rw [Oper.semAt_plain F _ _ (by rw [ho]; intro c hc; cases hc)]
  simp only [execOp, ho, Sem.run_bind, hl, Result.andThen_ok, Sem.run_pure, Oper.uponIn_skip]
  exact hK _ _ h
theorem wpList_load_of {P : Program} {ops : Array Oper} {rest : List Oper} {o : Oper} {a : Act} {Q : Exit → Act → World → Prop} {w : World} (hg : o.guard = none) (ty : TypeId) (x : Operand) (ho : o.op = .load ty x) (v : Value)
    (hl : (Instr.loadAt ty (a.eval x)).run P w = .ok v w) (h : wpList P ops Q rest (a.put o.dst v) w) : wpList P ops Q (o :: rest) a w :=
  wpList_plain hg fun _ hK => by
    unfold Oper.wp execOp
    simp only [ho, Sem.run_bind, hl, Result.andThen_ok, Sem.run_pure]
    exact hK _ _ h
theorem wpList_store_of {P : Program} {ops : Array Oper} {rest : List Oper} {o : Oper} {a : Act} {Q : Exit → Act → World → Prop} {w w' : World} (hg : o.guard = none) (ty : TypeId) (x y : Operand) (ho : o.op = .store ty x y)
    (hl : (Instr.storeAt ty (a.eval x) (a.eval y)).run P w = .ok () w') (h : wpList P ops Q rest (a.put o.dst undef) w') : wpList P ops Q (o :: rest) a w :=
  wpList_plain hg fun _ hK => by
    unfold Oper.wp execOp
    simp only [ho, Sem.run_bind, hl, Result.andThen_ok, Sem.run_pure]
    exact hK _ _ h
theorem inWide {P : Program} {f : FuncId} {args : Array Value} {w : World} {R : Ending → World → Prop} {n : Nat} (h : Calls P f args w R) : CallsIn Fence.wide n P f args w R := callsIn_wide.2 h
theorem range_pre {k n : Nat} (h : k < n) : (List.range k ++ [k]) <+: List.range n := by
  rw [← List.range_succ]
  have e : n = (k + 1) + (n - (k + 1)) := by omega
  rw [e, List.range_add]
  exact ⟨_, rfl⟩
/-- a place -/
abbrev ptv (i : Nat) : Value := .agg #[.int .i64 ((i : Int) % 8), .int .i64 ((i : Int) / 8)]
set_option maxRecDepth 100000 in
set_option maxHeartbeats 2000000 in
theorem places_seq (M : Nat → Prop) (w : World) : SeqAll Tryz.prog 162 #[] (fun i : Nat => #[.int .i64 i, ptv i]) M (List.range 64) w := by
  intro l J W hW hMW hJ hY h0
  clear hW
  refine (callsIn_wide (n := 5)).1 ?_
  refine callsIn_of_wp Tryz.func162 rfl trivial ?_ rfl
  simp only [Tryz.ntmps162, List.size_toArray, List.length_cons, List.length_nil, Nat.reduceAdd, Nat.reduceSub, Array.replicate_succ, Array.replicate_zero, List.push_toArray, List.append_toArray, List.nil_append, List.cons_append]
  gi_wp2
  gi_loopw [3] (fun i wr => ∃ k : Nat, k ≤ 64 ∧ i = .int .i64 k ∧ J (List.range k) wr ∧ Hid (Kept M W wr)) (fun i _ => 64 - (intOf i).toNat)
  case atStart => exact ⟨0, by omega, rfl, h0, Kept.refl _ _⟩
  case round =>
    obtain ⟨k, hk, rfl, hJk, HK⟩ := hrel
    by_cases hlt : k < 64
    · have hpre := range_pre hlt
      have hY1 := fun m => hY _ k wr m hJk hpre
      have HA : Hid (∀ m, YieldAt Fence.wide m Tryz.prog l #[.int .i64 k, ptv k] wr fun e W' => e = .returned (.bool true) ∧ J (List.range k ++ [k]) W' ∧ Kept M wr W') := hY1
      clear hpre hY1
      obtain ⟨fn, tmps, assign, body, hy, hR⟩ := HA.out 3
      gi_wp2
      refine (round_any hR).mono ?_
      rintro e W3 ⟨rfl, hJ3, hk3⟩
      have HJ3 := Lib.hid hJ3
      have HK3 : Hid (Kept M W W3) := HK.out.trans hk3
      clear hJ3 hk3 hJk hR hy
      gi_wp2
      go_roundw
      case rel => exact ⟨k + 1, by omega, by go_num, by rw [List.range_succ]; exact HJ3.out, HK3⟩
      case measure => simp [intOf]; omega
    · obtain rfl : k = 64 := by omega
      gi_wp2
      go_end0
      exact ⟨⟨_, rfl⟩, hJk, HK.out⟩
end Go.Proofs.YtfncldaodbfakaaGreat.T
