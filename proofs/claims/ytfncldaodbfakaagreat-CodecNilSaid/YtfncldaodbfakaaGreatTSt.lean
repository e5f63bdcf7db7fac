/-
  A tile as a value and in memory.
-/
import Derived.Test.YtfncldaodbfakaaGreatComb
import Derived.Test.YtfncldaodbfakaaGreatMath
import Derived.Deep.MidRow
import Derived.Laws.Tables
import Derived.Laws.StructEq
namespace Go.Proofs.YtfncldaodbfakaaGreat.T
open Go.RowKit
variable {W w w' : World} {L : List (Nat × Obj)}

/-- the cells of a pixel -/
def pl (p : Px) : List Value := [.int .u8 p.r, .int .u8 p.g, .int .u8 p.b, .int .u8 p.a]
theorem pl_len (p : Px) : (pl p).length = 4 := rfl
theorem pl_v (p : Px) : Value.agg (pl p).toArray = p.v := rfl
/-- the cells of the pixels below n -/
def fl (n : Nat) (f : Nat → Px) : List Value := (List.range n).flatMap fun i => pl (f i)
theorem fl_succ (n : Nat) (f : Nat → Px) : fl (n + 1) f = fl n f ++ pl (f n) := by
  unfold fl; rw [List.range_succ, List.flatMap_append]; simp
theorem fl_len (n : Nat) (f : Nat → Px) : (fl n f).length = 4 * n := by
  induction n with
  | zero => rfl
  | succ n ih => rw [fl_succ, List.length_append, ih, pl_len]; omega
theorem fl_get (n : Nat) (f : Nat → Px) (i j : Nat) (hi : i < n) (hj : j < 4) : (fl n f)[4 * i + j]? = (pl (f i))[j]? := by
  induction n with
  | zero => omega
  | succ n ih =>
    rw [fl_succ]
    by_cases h : i < n
    · rw [List.getElem?_append_left (by rw [fl_len]; omega)]
      exact ih h
    · obtain rfl : i = n := by omega
      rw [List.getElem?_append_right (by rw [fl_len]; omega), fl_len]
      congr 1
      omega
/-- the cells of a tile whose pixel number i is f i -/
def tc (f : Nat → Px) : Array Value := (fl 64 f).toArray
theorem tc_size (f : Nat → Px) : (tc f).size = 256 := by unfold tc; rw [List.size_toArray, fl_len]
theorem tc_get (f : Nat → Px) (i j : Nat) (hi : i < 64) (hj : j < 4) : (tc f)[4 * i + j]? = (pl (f i))[j]? := by
  unfold tc; rw [List.getElem?_toArray]; exact fl_get 64 f i j hi hj
theorem tc_ext {f g : Nat → Px} (h : ∀ i, i < 64 → f i = g i) : tc f = tc g := by
  unfold tc fl
  congr 1
  rw [List.flatMap_def, List.flatMap_def]
  congr 1
  exact List.map_congr_left fun i hi => by rw [h i (by simpa using hi)]
theorem px_of_pl {p q : Px} (h : ∀ j, j < 4 → (pl p)[j]? = (pl q)[j]?) : p = q := by
  have h0 := h 0 (by omega); have h1 := h 1 (by omega); have h2 := h 2 (by omega); have h3 := h 3 (by omega)
  cases p; cases q
  simp [pl] at h0 h1 h2 h3
  simp [h0, h1, h2, h3]
theorem tc_inj {f g : Nat → Px} (h : tc f = tc g) (i : Nat) (hi : i < 64) : f i = g i :=
  px_of_pl fun j hj => by rw [← tc_get f i j hi hj, ← tc_get g i j hi hj, h]
theorem tc_of {cs : Array Value} (f : Nat → Px) (hs : cs.size = 256) (h : ∀ i j, i < 64 → j < 4 → cs[4 * i + j]? = (pl (f i))[j]?) : cs = tc f := by
  apply Array.ext_getElem?
  intro k
  by_cases hk : k < 256
  · have e : k = 4 * (k / 4) + k % 4 := by omega
    rw [e, h _ _ (by omega) (by omega), tc_get f _ _ (by omega) (by omega)]
  · rw [Array.getElem?_eq_none (by omega), Array.getElem?_eq_none (by rw [tc_size]; omega)]
theorem pl_one (p : Px) : (pl p).toArray.all (·.oneCell') = true := by simp [pl]; exact ⟨rfl, rfl, rfl, rfl⟩
theorem tc_one (f : Nat → Px) : (tc f).all (·.oneCell') = true := by
  unfold tc
  apply all_oneCell_toArray
  intro v hv
  unfold fl at hv
  obtain ⟨i, _, hi⟩ := List.mem_flatMap.1 hv
  simp [pl] at hi
  rcases hi with rfl | rfl | rfl | rfl <;> rfl
/-- a tile as a value, and in memory -/
abbrev tv (f : Nat → Px) : Value := .agg (tc f)
abbrev tob (f : Nat → Px) : Obj := .cells (tc f) 38
/-- the tile f with the pixel number i replaced -/
def upd (f : Nat → Px) (i : Nat) (p : Px) : Nat → Px := fun k => if k = i then p else f k
theorem upd_self (f : Nat → Px) (i : Nat) (p : Px) : upd f i p i = p := if_pos rfl
theorem upd_other (f : Nat → Px) {i k : Nat} (p : Px) (h : k ≠ i) : upd f i p k = f k := if_neg h
theorem set4 (cs : Array Value) (hs : cs.size = 256) (f : Nat → Px) (hg : ∀ i j, i < 64 → j < 4 → cs[4 * i + j]? = (pl (f i))[j]?) (i : Nat) (hi : i < 64) (p : Px) :
    (((cs.setIfInBounds (4 * i) (.int .u8 p.r)).setIfInBounds (4 * i + 1) (.int .u8 p.g)).setIfInBounds (4 * i + 1 + 1) (.int .u8 p.b)).setIfInBounds (4 * i + 1 + 1 + 1) (.int .u8 p.a) = tc (upd f i p) := by
  refine tc_of _ (by simp [hs]) fun k j hk hj => ?_
  rw [Array.getElem?_setIfInBounds, Array.getElem?_setIfInBounds, Array.getElem?_setIfInBounds, Array.getElem?_setIfInBounds]
  simp only [Array.size_setIfInBounds, hs]
  by_cases e : k = i
  · subst e
    rw [upd_self]
    have : j = 0 ∨ j = 1 ∨ j = 2 ∨ j = 3 := by omega
    rcases this with rfl | rfl | rfl | rfl
    · rw [if_neg (by omega), if_neg (by omega), if_neg (by omega), if_pos (by omega), if_pos (by omega)]; rfl
    · rw [if_neg (by omega), if_neg (by omega), if_pos (by omega), if_pos (by omega)]; rfl
    · rw [if_neg (by omega), if_pos (by omega), if_pos (by omega)]; rfl
    · rw [if_pos (by omega), if_pos (by omega)]; rfl
  · rw [upd_other _ _ e, if_neg (by omega), if_neg (by omega), if_neg (by omega), if_neg (by omega)]
    exact hg k j hk hj
theorem setCells_row (w : World) (b : Nat) (f : Nat → Px) (i : Nat) (p : Px) (hi : i < 64) (h : w.heap[b]? = some (tob f)) : w.setCells b (4 * i) (pl p) = w.setRow b (tc (upd f i p)) := by
  have hg := fun i j hi hj => tc_get f i j hi hj
  have hs := tc_size f
  have h : w.heap[b]? = some (.cells (tc f) 38) := h
  rw [← set4 (tc f) hs f hg i hi p]
  generalize tc f = cs at *
  simp only [pl, World.setCells]
  rw [setCell_eq_setRow w b (4 * i) cs _ (0, 0) _ h]
  have h1 := setRow_heap w b cs (cs.setIfInBounds (4 * i) (.int .u8 p.r)) _ (0, 0) h
  rw [setCell_eq_setRow _ b _ _ _ (0, 0) _ h1, setRow_setRow]
  have h2 := setRow_heap w b cs ((cs.setIfInBounds (4 * i) (.int .u8 p.r)).setIfInBounds (4 * i + 1) (.int .u8 p.g)) _ (0, 0) h
  rw [setCell_eq_setRow _ b _ _ _ (0, 0) _ h2, setRow_setRow]
  have h3 := setRow_heap w b cs (((cs.setIfInBounds (4 * i) (.int .u8 p.r)).setIfInBounds (4 * i + 1) (.int .u8 p.g)).setIfInBounds (4 * i + 1 + 1) (.int .u8 p.b)) _ (0, 0) h
  rw [setCell_eq_setRow _ b _ _ _ (0, 0) _ h3, setRow_setRow]

theorem range_px {b : Nat} {f : Nat → Px} {i : Nat} (h : w.heap[b]? = some (tob f)) (hi : i < 64) : w.rangeAt b (4 * i) (pl (f i)) := fun j v hv => by
  rw [cell_of_row w b (4 * i + j) _ _ (0, 0) h, tc_get f i j hi (by have := (List.getElem?_eq_some_iff.1 hv).1; simpa [pl_len] using this)]
  exact hv
theorem there_row {b : Nat} {cs : Array Value} {t : TypeId} {o n : Nat} (h : w.heap[b]? = some (.cells cs t)) (hn : o + n ≤ cs.size) : w.there b o n := fun j hj => by
  refine ⟨?_, frozen_of_row _ _ _ _ _ h⟩
  rw [cell_of_row w b (o + j) _ _ (0, 0) h, Array.getElem?_eq_getElem (by omega)]; rfl
set_option maxRecDepth 100000 in
theorem load_px (b : Nat) (f : Nat → Px) (i : Nat) (hi : i < 64) (w : World) (h : w.heap[b]? = some (tob f)) : (Instr.loadAt 36 (.pointer (some ⟨b, 4 * i, none⟩))).run Tryz.prog w = .ok (f i).v w :=
  run_loadAt_mid w b (4 * i) 36 (pl (f i)) _ (range_px h hi) Tryz.underlying36 rfl (by kernel_rfl)
theorem info_px : (Tryz.prog.info? 36).map (·.size) = some 4 := by kernel_rfl
theorem info_tile : (Tryz.prog.info? 38).map (·.size) = some 256 := by kernel_rfl
theorem store_px (b : Nat) (f : Nat → Px) (i : Nat) (p : Px) (hi : i < 64) (w : World) (h : w.heap[b]? = some (tob f)) : (Instr.storeAt 36 (.pointer (some ⟨b, 4 * i, none⟩)) p.v).run Tryz.prog w = .ok () (w.setRow b (tc (upd f i p))) := by
  rw [← setCells_row w b f i p hi h]
  exact run_storeAt_mid w b (4 * i) 36 (pl p).toArray (there_row h (by rw [tc_size]; simp [pl]; omega)) info_px (pl_one p)
theorem range_tile {b : Nat} {f : Nat → Px} (h : w.heap[b]? = some (tob f)) : w.rangeAt b 0 (tc f).toList := fun j v hv => by
  rw [Nat.zero_add, cell_of_row w b j _ _ (0, 0) h]; simpa using hv
theorem load_tile (b : Nat) (f : Nat → Px) (w : World) (h : w.heap[b]? = some (tob f)) : (Instr.loadAt 38 (.pointer (some ⟨b, 0, none⟩))).run Tryz.prog w = .ok (tv f) w := by
  have := run_loadAt_mid w b 0 38 (tc f).toList _ (range_tile h) Tryz.underlying38 rfl (by rw [info_tile, Array.length_toList, tc_size])
  simpa using this
theorem store_tile (b : Nat) (f g : Nat → Px) (w : World) (h : w.heap[b]? = some (tob f)) : (Instr.storeAt 38 (.pointer (some ⟨b, 0, none⟩)) (tv g)).run Tryz.prog w = .ok () (w.setRow b (tc g)) := by
  simp only [Instr.storeAt, Instr.sureAddr, Sem.run_bind, Sem.run_pure, Result.andThen_ok, run_storeVar_row w b _ 38 _ _ h (by rw [info_tile, tc_size]) (by rw [tc_size, tc_size]) (tc_one g)]
set_option maxRecDepth 100000 in
theorem index_px (b i : Nat) (hi : i < 64) (w : World) : (Instr.indexAt 38 (.pointer (some ⟨b, 0, none⟩)) (.int .i64 i)).run Tryz.prog w = .ok (.pointer (some ⟨b, 4 * i, none⟩)) w := by
  have hs : (sizeOf 36).run Tryz.prog w = .ok 4 w := by kernel_rfl
  have h2 : 0 ≤ (i : Int) ∧ (i : Int) < (64 : Nat) := ⟨by omega, by omega⟩
  have ha : (⟨b, 0, none⟩ : Addr).add (i * 4) = ⟨b, 4 * i, none⟩ := by rw [Addr.add_mid, Nat.zero_add, Nat.mul_comm]
  simp only [Instr.indexAt, asIntOf, Instr.sureAddr, Sem.run_bind, Sem.run_pure, Result.andThen_ok, run_underlying Tryz.underlying38, hs, if_pos h2, Int.toNat_natCast, ha]
/-- the transparent tile -/
def z0 : Nat → Px := fun _ => zp
set_option maxRecDepth 100000 in
theorem zero_tile (w : World) : (zeroValue 38).run Tryz.prog w = .ok (tv z0) w := by kernel_rfl

/-- blocks of one's own that hold tiles -/
theorem St.tile (h : St W L w) {b : Nat} {f : Nat → Px} (hm : (b, tob f) ∈ L) : w.heap[b]? = some (tob f) := h.row hm
theorem St.rowset {b : Nat} {cs ds : Array Value} {t : TypeId} (h : St W ((b, .cells cs t) :: L) w) (hb : W.heap.size ≤ b) (hL : ∀ x ∈ L, x.1 ≠ b) : St W ((b, .cells ds t) :: L) (w.setRow b ds) := by
  refine ⟨h.below.trans ⟨rfl, rfl, rfl, by simp [World.setRow], fun k hk => setRow_other w b k ds (by omega)⟩, fun x hx => ?_⟩
  rcases List.mem_cons.1 hx with rfl | hx
  · exact setRow_heap w b cs ds t (0, 0) (h.row (b := b) (o := .cells cs t) (by simp))
  · rw [setRow_other w b x.1 ds (hL x hx)]
    exact h.rows x (List.mem_cons_of_mem _ hx)
end Go.Proofs.YtfncldaodbfakaaGreat.T
