/-
  The methods of no file; validTiles and Crop of the empty raster.
-/
import Derived.Test.YtfncldaodbfakaaGreatZSane
import Derived.Test.YtfncldaodbfakaaGreatTSt
import Derived.Laws.ResultCell
namespace Go.Proofs.YtfncldaodbfakaaGreat.Z
open Go.RowKit Go.Shelf T
set_option maxRecDepth 100000
variable {V W w w' : World} {L : List (Nat × Obj)} {b : Nat} {q : Option Addr}

theorem wl_alloc {P : Program} {ops : Array Oper} {rest : List Oper} {o : Oper} {a : Act} {Q : Exit → Act → World → Prop} {w : World} (hg : o.guard = none) (t : TypeId) (ho : o.op = .alloc t) (cs : Array Value) (hz : (zeroValue t).run P w = .ok (.agg cs) w)
    (h : wpList P ops Q rest (a.put o.dst (.pointer (some ⟨w.heap.size, 0, none⟩))) (w.alloc (.cells cs t))) : wpList P ops Q (o :: rest) a w :=
  wpList_plain hg fun K hK => by
    have hn : (newVar t (.agg cs)).run P w = .ok ⟨w.heap.size, 0, none⟩ (w.alloc (.cells cs t)) := rfl
    unfold Oper.wp execOp
    simp only [ho, Instr.alloc, Sem.run_bind, hz, hn, Result.andThen_ok, Sem.run_pure]
    exact hK _ _ h
theorem wl_store {P : Program} {ops : Array Oper} {rest : List Oper} {o : Oper} {a : Act} {Q : Exit → Act → World → Prop} {w w' : World} (hg : o.guard = none) (ty : TypeId) (x y : Operand) (ho : o.op = .store ty x y)
    (hl : (Instr.storeAt ty (a.eval x) (a.eval y)).run P w = .ok () w') (h : wpList P ops Q rest (a.put o.dst undef) w') : wpList P ops Q (o :: rest) a w :=
  wpList_plain hg fun K hK => by
    unfold Oper.wp execOp
    simp only [ho, Sem.run_bind, hl, Result.andThen_ok, Sem.run_pure]
    exact hK _ _ h
theorem wl_build0 {P : Program} {ops : Array Oper} {rest : List Oper} {o : Oper} {a : Act} {Q : Exit → Act → World → Prop} {w : World} (hg : o.guard = none) (t : TypeId) (ho : o.op = .build t #[]) (v : Value)
    (hl : (Instr.build t #[]).run P w = .ok v w) (h : wpList P ops Q rest (a.put o.dst v) w) : wpList P ops Q (o :: rest) a w :=
  wpList_plain hg fun K hK => by
    unfold Oper.wp execOp
    have hl' : (Instr.build t ((#[] : Array (Nat × Operand)).map fun (i, x) => (i, a.eval x))).run P w = .ok v w := by simpa using hl
    simp only [ho, Sem.run_bind, hl', Result.andThen_ok, Sem.run_pure]
    exact hK _ _ h
theorem bel_row {B b : Nat} (h : Below B w w') (hb : B ≤ b) (cs : Array Value) : Below B w (w'.setRow b cs) :=
  h.trans ⟨rfl, rfl, rfl, by simp [World.setRow], fun k hk => setRow_other w' b k cs (by omega)⟩
theorem built_t0 (w : World) : (Instr.build 38 #[]).run Tryz.prog w = .ok (tv z0) w := run_build w 38 _ _ (by kernel_rfl)
theorem res_tile {fn : Func} {p u : Tmp} (h : fn.results = #[.cell p 38, .tmp u]) (tmps : Array Value) (w : World) (g : Nat) (f : Nat → Px) (v : Value) (hp : tmps.getD p undef = .pointer (some ⟨g, 0, none⟩)) (hu : tmps.getD u undef = v) (hrow : w.heap[g]? = some (tob f)) :
    (results fn tmps).run Tryz.prog w = .ok (.tuple #[tv f, v]) w := by
  rw [results_cell_tmp h, hp, hu]
  have ha : (asAddr (.pointer (some ⟨g, 0, none⟩))).run Tryz.prog w = .ok ⟨g, 0, none⟩ w := rfl
  rw [ha]
  simp only [Result.andThen_ok]
  rw [run_loadVar_row w g 38 38 (tc f) (0, 0) _ hrow Tryz.underlying38 rfl (by rw [info_tile, tc_size])]
  rfl
abbrev pz (n : Int) : Value := .agg #[.int .i64 n, .int .i64 0]
theorem tileN (n : Int) (w : World) : Calls Tryz.prog 21 #[.pointer none, pz n] w fun e w' => e = .returned (.tuple #[tv z0, .int .i64 1]) ∧ Below w.heap.size w w' := by
  have hs := ((St.start w).alloc (.cells #[.int .i64 n, .int .i64 0] 40)).alloc (tob z0)
  rw [World.size_alloc] at hs
  have HR := Lib.hid (hs.row (List.mem_cons_self ..))
  have HB := Lib.hid hs.below
  clear hs
  go_enter Tryz.func21, Tryz.ntmps21
  go_wp2_with (first
    | (refine wl_alloc rfl 38 rfl _ (zero_tile _) ?_)
    | (refine wl_build0 rfl 38 rfl _ (built_t0 _) ?_)
    | (refine wl_store rfl 38 _ _ rfl (store_tile _ z0 z0 _ HR.out) ?_))
  exact bodyPost_ret (res_tile rfl _ _ (w.heap.size + 1) z0 (.int .i64 1) rfl rfl (setRow_heap _ _ _ _ _ _ HR.out)) rfl ⟨rfl, bel_row HB.out (by omega) _⟩
theorem previewN (n : Int) (w : World) : Calls Tryz.prog 30 #[.pointer none, pz n] w fun e w' => e = .returned (.tuple #[tv z0, .int .i64 1]) ∧ Below w.heap.size w w' := by
  have hs := ((St.start w).alloc (.cells #[.int .i64 n, .int .i64 0] 40)).alloc (tob z0)
  rw [World.size_alloc] at hs
  have HR := Lib.hid (hs.row (List.mem_cons_self ..))
  have HB := Lib.hid hs.below
  clear hs
  go_enter Tryz.func30, Tryz.ntmps30
  go_wp2_with (first
    | (refine wl_alloc rfl 38 rfl _ (zero_tile _) ?_)
    | (refine wl_build0 rfl 38 rfl _ (built_t0 _) ?_)
    | (refine wl_store rfl 38 _ _ rfl (store_tile _ z0 z0 _ HR.out) ?_))
  exact bodyPost_ret (res_tile rfl _ _ (w.heap.size + 1) z0 (.int .i64 1) rfl rfl (setRow_heap _ _ _ _ _ _ HR.out)) rfl ⟨rfl, bel_row HB.out (by omega) _⟩
abbrev r0 : Value := .agg #[.slice none 0 0]
theorem collectN (F : Value) (w : World) : Calls Tryz.prog 66 #[.pointer none, F] w fun e w' => e = .returned (.tuple #[r0, .int .i64 1]) ∧ Below w.heap.size w w' := by
  have hs := (St.start w).alloc (.cells #[.slice none 0 0] 26)
  have HB := Lib.hid hs.below
  have c0 := hs.cell (List.mem_cons_self ..) 0
  clear hs
  go_enter Tryz.func66, Tryz.ntmps66
  go_wp2_with (refine wl_build0 rfl 26 rfl _ (built_r0 _) ?_)
  exact bodyPost_ret (v := .tuple #[r0, .int .i64 1]) (by simp [results, Tryz.results66, go_sem, *]) rfl ⟨rfl, by first | exact HB.out | exact HB.out.setCell (p := ⟨w.heap.size, 0, none⟩) (Nat.le_refl _) _⟩
theorem allN (w : World) : Calls Tryz.prog 19 #[.pointer none] w fun e w' => e = .returned (.tuple #[r0, .int .i64 1]) ∧ Below w.heap.size w w' := by
  have hs := (St.start w).alloc (.cells #[.slice none 0 0] 26)
  go_enter Tryz.func19, Tryz.ntmps19
  go_wp2_with (go_at_call 66; with_reducible refine (hs.call (collectN _ _)).mono ?_; rintro e w1 ⟨rfl, h1⟩; have c1 := h1.cell (List.mem_cons_self ..) 0; have f1 := h1.frozen (List.mem_cons_self ..) 0)
  exact bodyPost_ret (v := .tuple #[r0, .int .i64 1]) (by simp [results, Tryz.results19, go_sem, *]) rfl ⟨rfl, h1.below.setCell (p := ⟨w.heap.size, 0, none⟩) (Nat.le_refl _) _⟩
theorem validT0 (w : World) : Calls Tryz.prog 72 #[r0] w fun e w' => e = .returned (.slice none 0 0) ∧ Below w.heap.size w w' := by
  have hs := (St.start w).alloc (.cells #[.slice none 0 0] 26)
  have c0 := hs.cell (List.mem_cons_self ..) 0
  go_enter Tryz.func72, Tryz.ntmps72
  go_wp2_with (go_at_call 49; with_reducible refine (hs.call (valid0 _)).mono ?_; rintro e w1 ⟨rfl, h1⟩; have c1 := h1.cell (List.mem_cons_self ..) 0)
  go_ret
  exact ⟨rfl, h1.below⟩
abbrev rc (x y z u : Int) : Value := .agg #[.int .i64 x, .int .i64 y, .int .i64 z, .int .i64 u]
theorem built_r1 (w : World) : (Instr.build 26 #[(0, .slice none 0 0)]).run Tryz.prog w = .ok (.agg #[.slice none 0 0]) w := run_build w 26 _ _ (by kernel_rfl)
theorem crop0 (x y z u : Int) (w : World) : Calls Tryz.prog 23 #[r0, rc x y z u] w fun e w' => e = .returned r0 ∧ Below w.heap.size w w' := by
  have hs := (((St.start w).alloc (.cells #[.slice none 0 0] 26)).alloc (.cells #[.int .i64 x, .int .i64 y, .int .i64 z, .int .i64 u] 49)).alloc (.cells #[.slice none 0 0] 26)
  simp only [World.size_alloc] at hs
  have c0 := hs.cell (b := w.heap.size) (cs := #[.slice none 0 0]) (t := 26) (by simp) 0
  go_enter Tryz.func23, Tryz.ntmps23
  go_upto_region 3 with (go_at_call 72; with_reducible refine (hs.call (validT0 _)).mono ?_; rintro e w1 ⟨rfl, h1⟩)
  clear hs c0
  have c1 := h1.cell (b := w.heap.size + 1 + 1) (cs := #[.slice none 0 0]) (t := 26) (by simp) 0
  have f1 := h1.frozen (b := w.heap.size + 1 + 1) (cs := #[.slice none 0 0]) (t := 26) (by simp) 0
  have H1 := Lib.hid h1.below
  clear h1
  go_loopw [5, 13] (fun v i wr => v = .slice none 0 0 ∧ i = .int .i64 0 ∧ wr = w1) (fun _ _ _ => 0)
  case atStart => exact ⟨rfl, rfl, rfl⟩
  case round =>
    obtain ⟨rfl, rfl, rfl⟩ := hrel
    have HB := Lib.hid built_r1
    go_wp2_with (rw [HB.out])
    exact bodyPost_ret (v := r0) (by simp [results, Tryz.results23, go_sem, *]) rfl ⟨rfl, H1.out.setCell (p := ⟨w.heap.size + 1 + 1, 0, none⟩) (show w.heap.size ≤ w.heap.size + 1 + 1 by omega) _⟩
theorem readN (x y z u : Int) (w : World) : Calls Tryz.prog 20 #[.pointer none, rc x y z u] w fun e w' => e = .returned (.tuple #[r0, .int .i64 1]) ∧ Below w.heap.size w w' := by
  have hs := ((St.start w).alloc (.cells #[.int .i64 x, .int .i64 y, .int .i64 z, .int .i64 u] 49)).alloc (.cells #[.slice none 0 0] 26)
  simp only [World.size_alloc] at hs
  go_enter Tryz.func20, Tryz.ntmps20
  go_upto_region 2 with (go_at_call 66; with_reducible refine (hs.call (collectN _ _)).mono ?_; rintro e w1 ⟨rfl, h1⟩)
  have h2 := h1.alloc (.cells #[.slice none 0 0] 26)
  have c0 := h2.cell (b := w1.heap.size) (cs := #[.slice none 0 0]) (t := 26) (by simp) 0
  have d0 : (w1.alloc (.cells #[.slice none 0 0] 26)).cell? ⟨w.heap.size, 0, none⟩ = some (.int .i64 x) := h2.cell (b := w.heap.size) (cs := #[.int .i64 x, .int .i64 y, .int .i64 z, .int .i64 u]) (t := 49) (by simp) 0
  have d1 : (w1.alloc (.cells #[.slice none 0 0] 26)).cell? ⟨w.heap.size, 1, none⟩ = some (.int .i64 y) := h2.cell (b := w.heap.size) (cs := #[.int .i64 x, .int .i64 y, .int .i64 z, .int .i64 u]) (t := 49) (by simp) 1
  have d2 : (w1.alloc (.cells #[.slice none 0 0] 26)).cell? ⟨w.heap.size, 2, none⟩ = some (.int .i64 z) := h2.cell (b := w.heap.size) (cs := #[.int .i64 x, .int .i64 y, .int .i64 z, .int .i64 u]) (t := 49) (by simp) 2
  have d3 : (w1.alloc (.cells #[.slice none 0 0] 26)).cell? ⟨w.heap.size, 3, none⟩ = some (.int .i64 u) := h2.cell (b := w.heap.size) (cs := #[.int .i64 x, .int .i64 y, .int .i64 z, .int .i64 u]) (t := 49) (by simp) 3
  clear hs h1
  generalize w1.alloc (.cells #[.slice none 0 0] 26) = w2 at *
  generalize w1.heap.size = b2 at *
  go_wp2_with (go_at_call 23; with_reducible refine (h2.call (crop0 _ _ _ _ _)).mono ?_; rintro e w3 ⟨rfl, h3⟩; have c3 := h3.cell (b := w.heap.size + 1) (cs := #[.slice none 0 0]) (t := 26) (by simp) 0; have f3 := h3.frozen (b := w.heap.size + 1) (cs := #[.slice none 0 0]) (t := 26) (by simp) 0)
  exact bodyPost_ret (v := .tuple #[r0, .int .i64 1]) (by simp [results, Tryz.results20, go_sem, *]) rfl ⟨rfl, h3.below.setCell (p := ⟨w.heap.size + 1, 0, none⟩) (show w.heap.size ≤ w.heap.size + 1 by omega) _⟩
end Go.Proofs.YtfncldaodbfakaaGreat.Z
