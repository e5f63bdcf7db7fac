/-
  The mean of four pixels (contract of tile's mean). A square of four tiles: as a value, in memory, built of its parts; the closure that gives its pixels. Halve of tile (contract). Laws over single operations; a tile of which the first pixels are replaced. Halve of tile (contract). What the contracts of the reference share.
-/
import Derived.Test.YtfncldaodbfakaaGreatTGen
import Derived.Test.YtfncldaodbfakaaGreatRefMean
namespace Go.Proofs.YtfncldaodbfakaaGreat.T
open Go.RowKit Go.Shelf
variable {W w w' : World} {L : List (Nat × Obj)}

/-- the sums of the first k pixels -/
def ma (P : Nat → Px) : Nat → Int
  | 0 => 0
  | k + 1 => ma P k + cnt 1 * (P k).a
def mx (P : Nat → Px) : Nat → Int
  | 0 => 0
  | k + 1 => mx P k + cnt 1 * (P k).a * (P k).r
def my (P : Nat → Px) : Nat → Int
  | 0 => 0
  | k + 1 => my P k + cnt 1 * (P k).a * (P k).g
def mz (P : Nat → Px) : Nat → Int
  | 0 => 0
  | k + 1 => mz P k + cnt 1 * (P k).a * (P k).b
theorem cnt_one : cnt 1 = 1 := by decide
theorem mb_of (P : Nat → Px) (k : Nat) (hk : k ≤ 4) (hP : ∀ j, j < 4 → Pc (P j)) : Mb k (ma P k) (mx P k) (my P k) (mz P k) := by
  induction k with
  | zero => simp [Mb, ma, mx, my, mz]
  | succ k ih =>
    have h := hP k (by omega)
    have := (ih (by omega)).add (k := 1) (by omega) h.1 h.2.1 h.2.2.1 h.2.2.2
    rw [show (k : Int) + cnt 1 = ((k + 1 : Nat) : Int) by rw [cnt_one]; omega] at this
    exact this
/-- the mean of four pixels -/
def m4 (P : Nat → Px) : Px := mpx 4 (ma P 4) (mx P 4) (my P 4) (mz P 4)
theorem m4_congr {P Q : Nat → Px} (h : ∀ j, j < 4 → P j = Q j) : m4 P = m4 Q := by
  simp only [m4, ma, mx, my, mz, h 0 (by omega), h 1 (by omega), h 2 (by omega), h 3 (by omega)]
/-- four pixels in memory -/
abbrev po4 (P : Nat → Px) : Obj := .cells (fl 4 P).toArray 36
theorem load_px4 (b : Nat) (P : Nat → Px) (i : Nat) (hi : i < 4) (w : World) (h : w.heap[b]? = some (po4 P)) : (Instr.loadAt 36 (.pointer (some ⟨b, 4 * i, none⟩))).run Tryz.prog w = .ok (P i).v w :=
  run_loadAt_mid w b (4 * i) 36 (pl (P i)) _ (fun j v hv => by
    rw [cell_of_row w b (4 * i + j) _ _ (0, 0) h, ← hv, ← fl_get 4 P i j hi (by have := (List.getElem?_eq_some_iff.1 hv).1; simpa [pl_len] using this)]
    exact List.getElem?_toArray) Tryz.underlying36 rfl (by kernel_rfl)
end Go.Proofs.YtfncldaodbfakaaGreat.T

namespace Go.Proofs.YtfncldaodbfakaaGreat.T
open Go.RowKit Go.Shelf
variable {W w w' : World} {L : List (Nat × Obj)}

theorem fold_set (off : Nat) : ∀ (l : List Value) (s : Nat) (cs : Array Value) (k : Nat), off + s + l.length ≤ cs.size →
    ((l.zipIdx s).foldl (fun cs p => cs.setIfInBounds (off + p.2) p.1) cs)[k]? = if off + s ≤ k ∧ k < off + s + l.length then l[k - (off + s)]? else cs[k]?
  | [], s, cs, k, _ => by simp; omega
  | v :: l, s, cs, k, h => by
    rw [List.length_cons] at h
    rw [List.zipIdx_cons, List.foldl_cons, fold_set off l (s + 1) _ k (by rw [Array.size_setIfInBounds]; omega), Array.getElem?_setIfInBounds]
    simp only [List.length_cons]
    by_cases h1 : k = off + s
    · subst h1
      rw [if_neg (by omega), if_pos rfl, if_pos (by omega), if_pos (by omega), Nat.sub_self]; rfl
    · by_cases h2 : off + s ≤ k ∧ k < off + s + (l.length + 1)
      · rw [if_pos h2, if_pos (by omega), show k - (off + s) = (k - (off + (s + 1))) + 1 by omega, List.getElem?_cons_succ]
      · rw [if_neg h2, if_neg (by omega), if_neg (by omega)]
theorem fold_arr (off : Nat) (v cs : Array Value) (k : Nat) (h : off + v.size ≤ cs.size) :
    (v.zipIdx.foldl (fun cs (c, j) => cs.setIfInBounds (off + j) c) cs)[k]? = if off ≤ k ∧ k < off + v.size then v[k - off]? else cs[k]? := by
  rw [← Array.foldl_toList, Array.toList_zipIdx]
  have := fold_set off v.toList 0 cs k (by rw [Array.length_toList]; omega)
  rw [Nat.add_zero, Array.length_toList, Array.getElem?_toList] at this
  exact this
theorem fold_size (off : Nat) (v cs : Array Value) : (v.zipIdx.foldl (fun cs (c, j) => cs.setIfInBounds (off + j) c) cs).size = cs.size := by
  rw [← Array.foldl_toList]
  generalize v.zipIdx.toList = l
  induction l generalizing cs with
  | nil => rfl
  | cons a l ih => rw [List.foldl_cons, ih, Array.size_setIfInBounds]
/-- the cells of n pixels -/
def fc (n : Nat) (f : Nat → Px) : Array Value := (fl n f).toArray
theorem fc_size (n : Nat) (f : Nat → Px) : (fc n f).size = 4 * n := by unfold fc; rw [List.size_toArray, fl_len]
theorem fc_get (n : Nat) (f : Nat → Px) (i j : Nat) (hi : i < n) (hj : j < 4) : (fc n f)[4 * i + j]? = (pl (f i))[j]? := by
  unfold fc; rw [List.getElem?_toArray]; exact fl_get n f i j hi hj
theorem fc_of {n : Nat} {cs : Array Value} (f : Nat → Px) (hs : cs.size = 4 * n) (h : ∀ i j, i < n → j < 4 → cs[4 * i + j]? = (pl (f i))[j]?) : cs = fc n f := by
  apply Array.ext_getElem?
  intro k
  by_cases hk : k < 4 * n
  · have e : k = 4 * (k / 4) + k % 4 := by omega
    rw [e, h _ _ (by omega) (by omega), fc_get n f _ _ (by omega) (by omega)]
  · rw [Array.getElem?_eq_none (by omega), Array.getElem?_eq_none (by rw [fc_size]; omega)]
theorem tc_fc (f : Nat → Px) : tc f = fc 64 f := rfl
/-- two runs of m pixels, one behind the other -/
def app (m : Nat) (f g : Nat → Px) : Nat → Px := fun k => if k < m then f k else g (k - m)
theorem fill2 (place : Nat → Option (Nat × Nat)) (m : Nat) (f g : Nat → Px) (z : Array Value) (hz : z.size = 4 * (m + m)) (h0 : place 0 = some (0, 4 * m)) (h1 : place 1 = some (4 * m, 4 * m)) :
    Instr.fill place z [(0, .agg (fc m f)), (1, .agg (fc m g))] = some (fc (m + m) (app m f g)) := by
  have c0 : (Value.agg (fc m f)).cells = fc m f := rfl
  have c1 : (Value.agg (fc m g)).cells = fc m g := rfl
  simp only [Instr.fill, h0, h1, c0, c1, fc_size, fold_size, hz]
  rw [if_neg (by first | (simp; done) | (simp; omega)), if_neg (by first | (simp; done) | (simp; omega))]
  refine congrArg some (fc_of _ (by rw [fold_size, fold_size, hz]) fun i j hi hj => ?_)
  rw [fold_arr _ _ _ _ (by rw [fold_size, hz, fc_size]; omega), fold_arr _ _ _ _ (by rw [hz, fc_size]; omega), fc_size, fc_size]
  unfold app
  by_cases h : i < m
  · rw [if_neg (by omega), if_pos (by omega), if_pos h, Nat.sub_zero]
    exact fc_get m f i j h hj
  · rw [if_pos (by omega), if_neg h, show 4 * i + j - 4 * m = 4 * (i - m) + j by omega]
    exact fc_get m g (i - m) j (by omega) hj
theorem wpList_build_of {P : Program} {ops : Array Oper} {rest : List Oper} {o : Oper} {a : Act} {Q : Exit → Act → World → Prop} {w : World} (hg : o.guard = none) (t : TypeId) (parts : Array (Nat × Operand)) (ho : o.op = .build t parts) (v : Value)
    (hl : (Instr.build t (parts.map fun (i, x) => (i, a.eval x))).run P w = .ok v w) (h : wpList P ops Q rest (a.put o.dst v) w) : wpList P ops Q (o :: rest) a w :=
  wpList_plain hg fun _ hK => by
    unfold Oper.wp execOp
    simp only [ho, Sem.run_bind, hl, Result.andThen_ok, Sem.run_pure]
    exact hK _ _ h
theorem fc_one (n : Nat) (f : Nat → Px) : (fc n f).all (·.oneCell') = true := by
  unfold fc
  apply all_oneCell_toArray
  intro v hv
  unfold fl at hv
  obtain ⟨i, _, hi⟩ := List.mem_flatMap.1 hv
  simp [pl] at hi
  rcases hi with rfl | rfl | rfl | rfl <;> rfl
theorem range_fc {b n : Nat} {f : Nat → Px} {t : TypeId} {i : Nat} (h : w.heap[b]? = some (.cells (fc n f) t)) (hi : i < n) : w.rangeAt b (4 * i) (pl (f i)) := fun j v hv => by
  rw [cell_of_row w b (4 * i + j) _ _ (0, 0) h, fc_get n f i j hi (by have := (List.getElem?_eq_some_iff.1 hv).1; simpa [pl_len] using this)]
  exact hv
abbrev Q4' (V : World) (b o : Nat) (p : Px) : Prop :=
  V.cell? ⟨b, o, none⟩ = some (.int .u8 p.r) ∧ V.cell? ⟨b, o + 1, none⟩ = some (.int .u8 p.g) ∧ V.cell? ⟨b, o + 2, none⟩ = some (.int .u8 p.b) ∧ V.cell? ⟨b, o + 3, none⟩ = some (.int .u8 p.a)
theorem q4_fc {b n : Nat} {f : Nat → Px} {t : TypeId} {i : Nat} (h : w.heap[b]? = some (.cells (fc n f) t)) (hi : i < n) : Q4' w b (4 * i) (f i) :=
  ⟨range_fc h hi 0 _ rfl, range_fc h hi 1 _ rfl, range_fc h hi 2 _ rfl, range_fc h hi 3 _ rfl⟩
set_option maxRecDepth 100000 in
theorem index_at {t e : TypeId} {n s : Nat} (ht : Tryz.prog.underlying t = some (.array n e)) (hs : ∀ w, (sizeOf e).run Tryz.prog w = .ok s w) (b o i : Nat) (x : Int) (hx : x = i) (hi : i < n) (w : World) :
    (Instr.indexAt t (.pointer (some ⟨b, o, none⟩)) (.int .i64 x)).run Tryz.prog w = .ok (.pointer (some ⟨b, o + i * s, none⟩)) w := by
  subst hx
  have h2 : 0 ≤ (i : Int) ∧ (i : Int) < (n : Nat) := ⟨by omega, by omega⟩
  simp only [Instr.indexAt, asIntOf, Instr.sureAddr, Sem.run_bind, Sem.run_pure, Result.andThen_ok, run_underlying ht, hs, if_pos h2, Int.toNat_natCast, Addr.add_mid]
theorem size_px (w : World) : (sizeOf 36).run Tryz.prog w = .ok 4 w := by kernel_rfl
theorem size_tile (w : World) : (sizeOf 38).run Tryz.prog w = .ok 256 w := by kernel_rfl
/-- the number of the pixel at (x, y) of a square of four tiles -/
def num (x y : Nat) : Nat := 128 * (y / 8) + (64 * (x / 8) + (8 * (y % 8) + x % 8))
theorem num_lt {x y : Nat} (hx : x < 16) (hy : y < 16) : num x y < 256 := by unfold num; omega
end Go.Proofs.YtfncldaodbfakaaGreat.T

namespace Go.Proofs.YtfncldaodbfakaaGreat.T
open Go.RowKit Go.Shelf
variable {W w w' : World} {L : List (Nat × Obj)}

/-- the four pixels of a square that make the pixel number i -/
def four (G : Nat → Px) (i : Nat) : Nat → Px := fun j => G (num (2 * (i % 8) + j % 2) (2 * (i / 8) + j / 2))
end Go.Proofs.YtfncldaodbfakaaGreat.T

namespace Go.Proofs.YtfncldaodbfakaaGreat.T
open Go.RowKit Go.Shelf

theorem wpList_build2 {P : Program} {ops : Array Oper} {rest : List Oper} {o : Oper} {a : Act} {Q : Exit → Act → World → Prop} {w : World} (hg : o.guard = none) (t : TypeId) (x y : Operand) (ho : o.op = .build t #[(0, x), (1, y)]) (v x' y' : Value) (hx : a.eval x = x') (hy : a.eval y = y')
    (hl : (Instr.build t #[(0, x'), (1, y')]).run P w = .ok v w) (h : wpList P ops Q rest (a.put o.dst v) w) : wpList P ops Q (o :: rest) a w :=
  wpList_build_of hg t _ ho v (by subst hx hy; simpa using hl) h
theorem wpList_alloc_of {P : Program} {ops : Array Oper} {rest : List Oper} {o : Oper} {a : Act} {Q : Exit → Act → World → Prop} {w : World} (hg : o.guard = none) (t : TypeId) (ho : o.op = .alloc t) (cs : Array Value) (hz : (zeroValue t).run P w = .ok (.agg cs) w)
    (h : wpList P ops Q rest (a.put o.dst (.pointer (some ⟨w.heap.size, 0, none⟩))) (w.alloc (.cells cs t))) : wpList P ops Q (o :: rest) a w :=
  wpList_plain hg fun _ hK => by
    have hn : (newVar t (.agg cs)).run P w = .ok ⟨w.heap.size, 0, none⟩ (w.alloc (.cells cs t)) := rfl
    unfold Oper.wp execOp
    simp only [ho, Instr.alloc, Sem.run_bind, hz, hn, Result.andThen_ok, Sem.run_pure]
    exact hK _ _ h
theorem wpList_build0 {P : Program} {ops : Array Oper} {rest : List Oper} {o : Oper} {a : Act} {Q : Exit → Act → World → Prop} {w : World} (hg : o.guard = none) (t : TypeId) (ho : o.op = .build t #[]) (v : Value)
    (hl : (Instr.build t #[]).run P w = .ok v w) (h : wpList P ops Q rest (a.put o.dst v) w) : wpList P ops Q (o :: rest) a w :=
  wpList_build_of hg t _ ho v (by simpa using hl) h
theorem wp_store_of {P : Program} {o : Oper} {a : Act} {w w' : World} {K : Act → World → Prop} {Q : Exit → Act → World → Prop} (ty : TypeId) (x y : Operand) (ho : o.op = .store ty x y)
    (hl : (Instr.storeAt ty (a.eval x) (a.eval y)).run P w = .ok () w') (h : K (a.put o.dst undef) w') : o.wp P a w K Q := by
  unfold Oper.wp execOp
  simp only [ho, Sem.run_bind, hl, Result.andThen_ok, Sem.run_pure]
  exact h
theorem wp_load_of {P : Program} {o : Oper} {a : Act} {w : World} {K : Act → World → Prop} {Q : Exit → Act → World → Prop} (ty : TypeId) (x : Operand) (ho : o.op = .load ty x) (v : Value)
    (hl : (Instr.loadAt ty (a.eval x)).run P w = .ok v w) (h : K (a.put o.dst v) w) : o.wp P a w K Q := by
  unfold Oper.wp execOp
  simp only [ho, Sem.run_bind, hl, Result.andThen_ok, Sem.run_pure]
  exact h
theorem wp_build0 {P : Program} {o : Oper} {a : Act} {w : World} {K : Act → World → Prop} {Q : Exit → Act → World → Prop} (t : TypeId) (ho : o.op = .build t #[]) (v : Value)
    (hl : (Instr.build t #[]).run P w = .ok v w) (h : K (a.put o.dst v) w) : o.wp P a w K Q := by
  unfold Oper.wp execOp
  have hl' : (Instr.build t ((#[] : Array (Nat × Operand)).map fun (i, x) => (i, a.eval x))).run P w = .ok v w := by simpa using hl
  simp only [ho, Sem.run_bind, hl', Result.andThen_ok, Sem.run_pure]
  exact h
theorem yields_load {P : Program} {ops : Array Oper} {S : World → Prop} {o : Oper} {a : Act} (hw : Region.wanted o (yielded ops a.tmps) = true) (ty : TypeId) (x : Operand) (ho : o.op = .load ty x) (v : Value)
    (hl : ∀ w, S w → (Instr.loadAt ty (a.eval x)).run P w = .ok v w) : YieldsIf P ops S o v a :=
  .inl ⟨hw, fun w hw' => by
    unfold execOp
    simp only [ho, Sem.run_bind, hl w hw', Result.andThen_ok, Sem.run_pure]⟩
theorem yields_bin {P : Program} {ops : Array Oper} {S : World → Prop} {o : Oper} {a : Act} (hw : Region.wanted o (yielded ops a.tmps) = true) (bop : BinOp) (t : TypeId) (x y : Operand) (t' : TypeId) (ho : o.op = .binOp bop t x y t') (xs ys : Array Value) (hx : a.eval x = .agg xs) (hy : a.eval y = .agg ys)
    (hm : P.eqGuardType P.depth t = false) (v : Value) (hl : ∀ w, (Go.binOp bop t (.agg xs) (.agg ys)).run P w = .ok v w) : YieldsIf P ops S o v a :=
  .inl ⟨hw, fun w _ => by
    unfold execOp
    simp only [ho, hx, hy, Sem.run_bind, run_eqGuard_agg _ bop t x y xs ys hm, hl w, Result.andThen_ok, Sem.run_pure]⟩
theorem yields_build0 {P : Program} {ops : Array Oper} {S : World → Prop} {o : Oper} {a : Act} (hw : Region.wanted o (yielded ops a.tmps) = true) (t : TypeId) (ho : o.op = .build t #[]) (v : Value)
    (hl : ∀ w, (Instr.build t #[]).run P w = .ok v w) : YieldsIf P ops S o v a :=
  .inl ⟨hw, fun w _ => by
    unfold execOp
    have hl' : (Instr.build t ((#[] : Array (Nat × Operand)).map fun (i, x) => (i, a.eval x))).run P w = .ok v w := by simpa using hl w
    simp only [ho, Sem.run_bind, hl', Result.andThen_ok, Sem.run_pure]⟩
theorem wpList_bin_of {P : Program} {ops : Array Oper} {rest : List Oper} {o : Oper} {a : Act} {Q : Exit → Act → World → Prop} {w : World} (hg : o.guard = none) (bop : BinOp) (t : TypeId) (x y : Operand) (t' : TypeId) (ho : o.op = .binOp bop t x y t') (xs ys : Array Value) (hx : a.eval x = .agg xs) (hy : a.eval y = .agg ys)
    (hm : P.eqGuardType P.depth t = false) (v : Value) (hl : (Go.binOp bop t (.agg xs) (.agg ys)).run P w = .ok v w) (h : wpList P ops Q rest (a.put o.dst v) w) : wpList P ops Q (o :: rest) a w :=
  wpList_plain hg fun _ hK => by
    unfold Oper.wp execOp
    simp only [ho, hx, hy, Sem.run_bind, run_eqGuard_agg _ bop t x y xs ys hm, hl, Result.andThen_ok, Sem.run_pure]
    exact hK _ _ h
theorem guard_tile : Tryz.prog.eqGuardType Tryz.prog.depth 38 = false := by kernel_rfl
theorem guard_px : Tryz.prog.eqGuardType Tryz.prog.depth 36 = false := by kernel_rfl
set_option maxRecDepth 100000 in
theorem built0 (w : World) : (Instr.build 38 #[]).run Tryz.prog w = .ok (tv z0) w := run_build w 38 _ _ (by kernel_rfl)
theorem built0p (w : World) : (Instr.build 36 #[]).run Tryz.prog w = .ok zp.v w := run_build w 36 _ _ (by kernel_rfl)
/-- the tile f with the first n pixels of g -/
def pt (f g : Nat → Px) (n : Nat) : Nat → Px := fun k => if k < n then g k else f k
theorem pt_zero (f g : Nat → Px) : pt f g 0 = f := by funext k; simp [pt]
theorem pt_succ (f g : Nat → Px) (n : Nat) : upd (pt f g n) n (g n) = pt f g (n + 1) := by
  funext k
  unfold upd pt
  by_cases h : k = n
  · subst h; rw [if_pos rfl, if_pos (by omega)]
  · rw [if_neg h]; by_cases h2 : k < n
    · rw [if_pos h2, if_pos (by omega)]
    · rw [if_neg h2, if_neg (by omega)]
theorem pt_all (f g : Nat → Px) : tc (pt f g 64) = tc g := tc_ext fun _ hi => if_pos hi
theorem pt_at (f g : Nat → Px) (k : Nat) : pt f g k k = f k := if_neg (by omega)
end Go.Proofs.YtfncldaodbfakaaGreat.T

namespace Go.Proofs.YtfncldaodbfakaaGreat.T
open Go.RowKit Go.Shelf
variable {W w w' : World} {L : List (Nat × Obj)}

/-- the pixels of a square of four tiles -/
def sqG (a b c d : Nat → Px) : Nat → Px := app 128 (app 64 a b) (app 64 c d)
end Go.Proofs.YtfncldaodbfakaaGreat.T

namespace Go.Proofs.YtfncldaodbfakaaGreat.T
open Go.RowKit Go.Shelf

theorem load_all {b : Nat} {f g : Nat → Px} {w : World} (h : w.heap[b]? = some (tob (pt f g 64))) : (Instr.loadAt 38 (.pointer (some ⟨b, 0, none⟩))).run Tryz.prog w = .ok (tv g) w := by
  have e : tob (pt f g 64) = tob g := congrArg (fun c => Obj.cells c 38) (pt_all f g)
  rw [e] at h
  exact load_tile b g w h
end Go.Proofs.YtfncldaodbfakaaGreat.T
