/-
  A square of four tiles: as a value, in memory, built of its parts; the closure that gives its pixels.
-/
import Derived.Test.YtjaipjgnchpjcaaTMean
namespace Go.Proofs.Ytjaipjgnchpjcaa.T
open Go.RowKit Go.Shelf
variable {W w w' : World} {L : List (Nat × Obj)}

theorem fold_set (off : Nat) : ∀ (l : List Value) (s : Nat) (cs : Array Value) (k : Nat), off + s + l.length ≤ cs.size →
    ((l.zipIdx s).foldl (fun cs p => cs.setIfInBounds (off + p.2) p.1) cs)[k]? = if off + s ≤ k ∧ k < off + s + l.length then l[k - (off + s)]? else cs[k]?
  | [], s, cs, k, _ => by simp; omega
  | v :: l, s, cs, k, h => by
    rw [List.length_cons] at h
    rw [List.zipIdx_cons, List.foldl_cons, fold_set off l (s + 1) _ k (by rw [Array.size_setIfInBounds]; omega), Array.getElem?_setIfInBounds]
    simp only [List.length_cons]
    by_cases h1 : k = off + s
    · subst h1
      rw [if_neg (by omega), if_pos rfl, if_pos (by omega), if_pos (by omega), Nat.sub_self]; rfl
    · by_cases h2 : off + s ≤ k ∧ k < off + s + (l.length + 1)
      · rw [if_pos h2, if_pos (by omega), show k - (off + s) = (k - (off + (s + 1))) + 1 by omega, List.getElem?_cons_succ]
      · rw [if_neg h2, if_neg (by omega), if_neg (by omega)]
theorem fold_arr (off : Nat) (v cs : Array Value) (k : Nat) (h : off + v.size ≤ cs.size) :
    (v.zipIdx.foldl (fun cs (c, j) => cs.setIfInBounds (off + j) c) cs)[k]? = if off ≤ k ∧ k < off + v.size then v[k - off]? else cs[k]? := by
  rw [← Array.foldl_toList, Array.toList_zipIdx]
  have := fold_set off v.toList 0 cs k (by rw [Array.length_toList]; omega)
  rw [Nat.add_zero, Array.length_toList, Array.getElem?_toList] at this
  exact this
theorem fold_size (off : Nat) (v cs : Array Value) : (v.zipIdx.foldl (fun cs (c, j) => cs.setIfInBounds (off + j) c) cs).size = cs.size := by
  rw [← Array.foldl_toList]
  generalize v.zipIdx.toList = l
  induction l generalizing cs with
  | nil => rfl
  | cons a l ih => rw [List.foldl_cons, ih, Array.size_setIfInBounds]
/-- the cells of n pixels -/
def fc (n : Nat) (f : Nat → Px) : Array Value := (fl n f).toArray
theorem fc_size (n : Nat) (f : Nat → Px) : (fc n f).size = 4 * n := by unfold fc; rw [List.size_toArray, fl_len]
theorem fc_get (n : Nat) (f : Nat → Px) (i j : Nat) (hi : i < n) (hj : j < 4) : (fc n f)[4 * i + j]? = (pl (f i))[j]? := by
  unfold fc; rw [List.getElem?_toArray]; exact fl_get n f i j hi hj
theorem fc_of {n : Nat} {cs : Array Value} (f : Nat → Px) (hs : cs.size = 4 * n) (h : ∀ i j, i < n → j < 4 → cs[4 * i + j]? = (pl (f i))[j]?) : cs = fc n f := by
  apply Array.ext_getElem?
  intro k
  by_cases hk : k < 4 * n
  · have e : k = 4 * (k / 4) + k % 4 := by omega
    rw [e, h _ _ (by omega) (by omega), fc_get n f _ _ (by omega) (by omega)]
  · rw [Array.getElem?_eq_none (by omega), Array.getElem?_eq_none (by rw [fc_size]; omega)]
theorem tc_fc (f : Nat → Px) : tc f = fc 64 f := rfl
/-- two runs of m pixels, one behind the other -/
def app (m : Nat) (f g : Nat → Px) : Nat → Px := fun k => if k < m then f k else g (k - m)
theorem fill2 (place : Nat → Option (Nat × Nat)) (m : Nat) (f g : Nat → Px) (z : Array Value) (hz : z.size = 4 * (m + m)) (h0 : place 0 = some (0, 4 * m)) (h1 : place 1 = some (4 * m, 4 * m)) :
    Instr.fill place z [(0, .agg (fc m f)), (1, .agg (fc m g))] = some (fc (m + m) (app m f g)) := by
  have c0 : (Value.agg (fc m f)).cells = fc m f := rfl
  have c1 : (Value.agg (fc m g)).cells = fc m g := rfl
  simp only [Instr.fill, h0, h1, c0, c1, fc_size, fold_size, hz]
  rw [if_neg (by first | (simp; done) | (simp; omega)), if_neg (by first | (simp; done) | (simp; omega))]
  refine congrArg some (fc_of _ (by rw [fold_size, fold_size, hz]) fun i j hi hj => ?_)
  rw [fold_arr _ _ _ _ (by rw [fold_size, hz, fc_size]; omega), fold_arr _ _ _ _ (by rw [hz, fc_size]; omega), fc_size, fc_size]
  unfold app
  by_cases h : i < m
  · rw [if_neg (by omega), if_pos (by omega), if_pos h, Nat.sub_zero]
    exact fc_get m f i j h hj
  · rw [if_pos (by omega), if_neg h, show 4 * i + j - 4 * m = 4 * (i - m) + j by omega]
    exact fc_get m g (i - m) j (by omega) hj
theorem wpList_build_of {P : Program} {ops : Array Oper} {rest : List Oper} {o : Oper} {a : Act} {Q : Exit → Act → World → Prop} {w : World} (hg : o.guard = none) (t : TypeId) (parts : Array (Nat × Operand)) (ho : o.op = .build t parts) (v : Value)
    (hl : (Instr.build t (parts.map fun (i, x) => (i, a.eval x))).run P w = .ok v w) (h : wpList P ops Q rest (a.put o.dst v) w) : wpList P ops Q (o :: rest) a w :=
  wpList_plain hg fun _ hK => by
    unfold Oper.wp execOp
    simp only [ho, Sem.run_bind, hl, Result.andThen_ok, Sem.run_pure]
    exact hK _ _ h
theorem fc_one (n : Nat) (f : Nat → Px) : (fc n f).all (·.oneCell') = true := by
  unfold fc
  apply all_oneCell_toArray
  intro v hv
  unfold fl at hv
  obtain ⟨i, _, hi⟩ := List.mem_flatMap.1 hv
  simp [pl] at hi
  rcases hi with rfl | rfl | rfl | rfl <;> rfl
theorem range_fc {b n : Nat} {f : Nat → Px} {t : TypeId} {i : Nat} (h : w.heap[b]? = some (.cells (fc n f) t)) (hi : i < n) : w.rangeAt b (4 * i) (pl (f i)) := fun j v hv => by
  rw [cell_of_row w b (4 * i + j) _ _ (0, 0) h, fc_get n f i j hi (by have := (List.getElem?_eq_some_iff.1 hv).1; simpa [pl_len] using this)]
  exact hv
abbrev Q4' (V : World) (b o : Nat) (p : Px) : Prop :=
  V.cell? ⟨b, o, none⟩ = some (.int .u8 p.r) ∧ V.cell? ⟨b, o + 1, none⟩ = some (.int .u8 p.g) ∧ V.cell? ⟨b, o + 2, none⟩ = some (.int .u8 p.b) ∧ V.cell? ⟨b, o + 3, none⟩ = some (.int .u8 p.a)
theorem q4_fc {b n : Nat} {f : Nat → Px} {t : TypeId} {i : Nat} (h : w.heap[b]? = some (.cells (fc n f) t)) (hi : i < n) : Q4' w b (4 * i) (f i) :=
  ⟨range_fc h hi 0 _ rfl, range_fc h hi 1 _ rfl, range_fc h hi 2 _ rfl, range_fc h hi 3 _ rfl⟩
set_option maxRecDepth 100000 in
theorem index_at {t e : TypeId} {n s : Nat} (ht : Try.prog.underlying t = some (.array n e)) (hs : ∀ w, (sizeOf e).run Try.prog w = .ok s w) (b o i : Nat) (x : Int) (hx : x = i) (hi : i < n) (w : World) :
    (Instr.indexAt t (.pointer (some ⟨b, o, none⟩)) (.int .i64 x)).run Try.prog w = .ok (.pointer (some ⟨b, o + i * s, none⟩)) w := by
  subst hx
  have h2 : 0 ≤ (i : Int) ∧ (i : Int) < (n : Nat) := ⟨by omega, by omega⟩
  simp only [Instr.indexAt, asIntOf, Instr.sureAddr, Sem.run_bind, Sem.run_pure, Result.andThen_ok, run_underlying ht, hs, if_pos h2, Int.toNat_natCast, Addr.add_mid]
theorem size_px (w : World) : (sizeOf 23).run Try.prog w = .ok 4 w := by kernel_rfl
theorem size_tile (w : World) : (sizeOf 25).run Try.prog w = .ok 256 w := by kernel_rfl
/-- the number of the pixel at (x, y) of a square of four tiles -/
def num (x y : Nat) : Nat := 128 * (y / 8) + (64 * (x / 8) + (8 * (y % 8) + x % 8))
theorem num_lt {x y : Nat} (hx : x < 16) (hy : y < 16) : num x y < 256 := by unfold num; omega
end Go.Proofs.Ytjaipjgnchpjcaa.T
