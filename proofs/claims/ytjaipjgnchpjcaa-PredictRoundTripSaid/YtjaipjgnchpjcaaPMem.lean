/-
  A plane as a value and in memory; loads, stores and indices of it.
-/
import Derived.Test.YtjaipjgnchpjcaaTOps
namespace Go.Proofs.Ytjaipjgnchpjcaa.P
open Go.RowKit T
variable {W w w' : World} {L : List (Nat × Obj)}

/-- the cells of a plane whose value number i is f i -/
def pc (f : Nat → Int) : Array Value := ((List.range 64).map fun i => Value.int .u8 (f i)).toArray
theorem pc_size (f : Nat → Int) : (pc f).size = 64 := by unfold pc; simp
theorem pc_get (f : Nat → Int) (i : Nat) (hi : i < 64) : (pc f)[i]? = some (.int .u8 (f i)) := by
  unfold pc; rw [List.getElem?_toArray, List.getElem?_map, List.getElem?_range hi]; rfl
theorem pc_of {cs : Array Value} (f : Nat → Int) (hs : cs.size = 64) (h : ∀ i, i < 64 → cs[i]? = some (.int .u8 (f i))) : cs = pc f := by
  apply Array.ext_getElem?
  intro k
  by_cases hk : k < 64
  · rw [h k hk, pc_get f k hk]
  · rw [Array.getElem?_eq_none (by omega), Array.getElem?_eq_none (by rw [pc_size]; omega)]
theorem pc_ext {f g : Nat → Int} (h : ∀ i, i < 64 → f i = g i) : pc f = pc g := pc_of _ (pc_size f) fun i hi => by rw [pc_get f i hi, h i hi]
theorem pc_inj {f g : Nat → Int} (h : pc f = pc g) (i : Nat) (hi : i < 64) : f i = g i := by
  have h1 := pc_get f i hi
  rw [h, pc_get g i hi] at h1
  simpa using h1.symm
theorem pc_one (f : Nat → Int) : (pc f).all (·.oneCell') = true := by
  unfold pc
  apply all_oneCell_toArray
  intro v hv
  obtain ⟨i, _, hi⟩ := List.mem_map.1 hv
  rw [← hi]; rfl
/-- a plane as a value, and in memory -/
abbrev pv (f : Nat → Int) : Value := .agg (pc f)
abbrev pob (f : Nat → Int) : Obj := .cells (pc f) 59
def zn : Nat → Int := fun _ => 0
theorem info_pl : (Try.prog.info? 59).map (·.size) = some 64 := by kernel_rfl
set_option maxRecDepth 100000 in
theorem zero_pl (w : World) : (zeroValue 59).run Try.prog w = .ok (pv zn) w := by kernel_rfl
theorem load_pl (b : Nat) (f : Nat → Int) (w : World) (h : w.heap[b]? = some (pob f)) : (Instr.loadAt 59 (ptrB b)).run Try.prog w = .ok (pv f) w := by
  have := run_loadAt_mid w b 0 59 (pc f).toList _ (fun j v hv => by rw [Nat.zero_add, cell_of_row w b j _ _ (0, 0) h]; simpa using hv) Try.underlying59 rfl (by rw [info_pl, Array.length_toList, pc_size])
  simpa using this
theorem store_pl (b : Nat) (f g : Nat → Int) (w : World) (h : w.heap[b]? = some (pob f)) : (Instr.storeAt 59 (ptrB b) (pv g)).run Try.prog w = .ok () (w.setRow b (pc g)) := by
  simp only [Instr.storeAt, Instr.sureAddr, Sem.run_bind, Sem.run_pure, Result.andThen_ok, run_storeVar_row w b _ 59 _ _ h (by rw [info_pl, pc_size]) (by rw [pc_size, pc_size]) (pc_one g)]
set_option maxRecDepth 100000 in
theorem index_pl (b i : Nat) (hi : i < 64) (w : World) : (Instr.indexAt 59 (.pointer (some ⟨b, 0, none⟩)) (.int .i64 i)).run Try.prog w = .ok (.pointer (some ⟨b, i, none⟩)) w := by
  have hs : (sizeOf 5).run Try.prog w = .ok 1 w := by kernel_rfl
  have h2 : 0 ≤ (i : Int) ∧ (i : Int) < (64 : Nat) := ⟨by omega, by omega⟩
  have ha : (⟨b, 0, none⟩ : Addr).add (i * 1) = ⟨b, i, none⟩ := by rw [Addr.add_mid, Nat.zero_add, Nat.mul_one]
  simp only [Instr.indexAt, asIntOf, Instr.sureAddr, Sem.run_bind, Sem.run_pure, Result.andThen_ok, run_underlying Try.underlying59, hs, if_pos h2, Int.toNat_natCast, ha]
theorem part_u8 {cs : Array Value} {i : Nat} {v : Value} (h : cs[i]? = some v) (w : World) : (part 5 cs i).run Try.prog w = .ok v w := by
  have ht : (isAgg 5).run Try.prog w = .ok false w := by kernel_rfl
  unfold part
  simp only [Sem.run_bind, ht, Result.andThen_ok, Bool.false_eq_true, if_false, h, Sem.run_pure]
set_option maxRecDepth 100000 in
theorem index_pv (f : Nat → Int) (i : Nat) (hi : i < 64) (w : World) : (Instr.index 59 (pv f) (.int .i64 (i : Int))).run Try.prog w = .ok (.int .u8 (f i)) w := by
  have h2 : 0 ≤ (i : Int) ∧ (i : Int) < (64 : Nat) := ⟨by omega, by omega⟩
  have hg := pc_get f i hi
  have hs : (sizeOf 5).run Try.prog w = .ok 1 w := by kernel_rfl
  simp only [Instr.index, asIntOf, Sem.run_bind, Sem.run_pure, Result.andThen_ok, run_underlying Try.underlying59, hs, if_pos h2, Int.toNat_natCast, Nat.mul_one, part_u8 hg]
/-- the plane f with the value number i replaced -/
def ups (f : Nat → Int) (i : Nat) (x : Int) : Nat → Int := fun k => if k = i then x else f k
theorem pc_set (f : Nat → Int) (i : Nat) (x : Int) (hi : i < 64) : (pc f).setIfInBounds i (.int .u8 x) = pc (ups f i x) := by
  refine pc_of _ (by simp [pc_size]) fun k hk => ?_
  rw [Array.getElem?_setIfInBounds]
  unfold ups
  by_cases h : i = k
  · subst h
    rw [if_pos rfl, if_pos (by rw [pc_size]; exact hi), if_pos rfl]
  · rw [if_neg h, pc_get f k hk, if_neg (by omega)]
/-- the plane f of which the first n values are those of g -/
def ct (f g : Nat → Int) (n : Nat) : Nat → Int := fun k => if k < n then g k else f k
theorem ct_zero (f g : Nat → Int) : ct f g 0 = f := by funext k; simp [ct]
theorem ct_all (f g : Nat → Int) : pc (ct f g 64) = pc g := pc_ext fun _ hi => if_pos hi
theorem ct_succ (f g : Nat → Int) (n : Nat) : ups (ct f g n) n (g n) = ct f g (n + 1) := by
  funext k
  unfold ups ct
  by_cases h : k = n
  · subst h; rw [if_pos rfl, if_pos (by omega)]
  · rw [if_neg h]; by_cases h2 : k < n
    · rw [if_pos h2, if_pos (by omega)]
    · rw [if_neg h2, if_neg (by omega)]
theorem ct_at (f g : Nat → Int) (n k : Nat) (h : k < n) : ct f g n k = g k := if_pos h
theorem St.setp {b i : Nat} {f : Nat → Int} (x : Int) (h : St W ((b, pob f) :: L) w) (hi : i < 64) (hb : W.heap.size ≤ b) (hL : ∀ x ∈ L, x.1 ≠ b) : St W ((b, pob (ups f i x)) :: L) (w.setCell ⟨b, i, none⟩ (.int .u8 x)) := by
  rw [setCell_eq_setRow w b i (pc f) 59 (0, 0) _ (h.row (List.mem_cons_self ..)), pc_set f i x hi]
  exact St.rowset h hb hL
theorem St.pl (h : St W L w) {b : Nat} {f : Nat → Int} (hm : (b, pob f) ∈ L) : w.heap[b]? = some (pob f) := h.row hm
theorem St.pcell (h : St W L w) {b : Nat} {f : Nat → Int} (hm : (b, pob f) ∈ L) {i : Nat} (hi : i < 64) : w.cell? ⟨b, i, none⟩ = some (.int .u8 (f i)) := (h.cell hm i).trans (pc_get f i hi)
end Go.Proofs.Ytjaipjgnchpjcaa.P
