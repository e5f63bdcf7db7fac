/-
  Bytes of a tile (contract).
-/
import Derived.Test.YtfncldaodbfakaaGreatTRead
import Derived.Test.YtfncldaodbfakaaGreatTGen
import Derived.Test.YtfncldaodbfakaaGreatFen
import Derived.Laws.OwnMore
import Derived.Great.BuildSlice
namespace Go.Proofs.YtfncldaodbfakaaGreat.T
open Go.RowKit Go.Shelf
attribute [local go_sem] Oper.semAt_some
variable {W w w' V : World} {L : List (Nat × Obj)}

abbrev sl4 (b k : Nat) : Value := .slice (some ⟨b + 1, 0, none⟩) (4 * k) 256
abbrev so4 (b k : Nat) : Obj := .cells #[sl4 b k] 84
/-- the bytes of the first k pixels lie in block b + 1, and block b + 2 holds their slice -/
structure BI (w : World) (b k : Nat) (f : Nat → Px) (V : World) : Prop where
  st : St w [(b, tob f)] V
  cell : V.heap[b + 1 + 1]? = some (so4 b k)
  own : V.ownsRow (b + 1) 5 1 (sl4 b k) (4 * k) ((bys k f).map bcell)
theorem alloc_row {n : Nat} {o o' : Obj} (h : V.heap[n]? = some o) : (V.alloc o').heap[n]? = some o := (Below.heap_alloc _ _ _ (Array.getElem?_eq_some_iff.1 h).1).trans h
theorem gr_row {n g : Nat} {o : Obj} (hg : V.grownBy w (some g)) (hn : n ≠ g) (h : V.heap[n]? = some o) : w.heap[n]? = some o := (hg.block n (Array.getElem?_eq_some_iff.1 h).1 (fun e => hn (by cases e; rfl))).trans h
theorem ld_bs {b k : Nat} (h : V.heap[b + 1 + 1]? = some (so4 b k)) : (Instr.loadAt 84 (.pointer (some ⟨b + 1 + 1, 0, none⟩))).run Tryz.prog V = .ok (sl4 b k) V := by
  have ht : (isAgg 84).run Tryz.prog V = .ok false V := by kernel_rfl
  have hc : V.cell? ⟨b + 1 + 1, 0, none⟩ = some (sl4 b k) := cell_of_row V _ 0 #[sl4 b k] _ (0, 0) h
  simp only [Instr.loadAt, Instr.sureAddr, loadVar, Sem.run_bind, Sem.run_pure, Result.andThen_ok, ht, run_load, hc, Bool.false_eq_true, if_false]
theorem St.grown1 {g : Nat} (h : St W L w) (hg : w.grownBy w' (some g)) (hL : ∀ x ∈ L, x.1 ≠ g) (hW : W.heap.size ≤ g) : St W L w' := by
  refine ⟨h.below.trans ⟨hg.os, hg.tape, hg.output, hg.size, fun k hk => hg.block k (by have := h.below.size; omega) (fun e => by cases e; omega)⟩, fun x hx => gr_row hg (hL x hx) (h.rows x hx)⟩
theorem wp_app4f {o : Oper} {a : Act} {K : Act → World → Prop} {Q : Exit → Act → World → Prop} (s x : Operand)
    (ho : o.op = .call { callee := .builtin .append, args := #[s, x], argTypes := #[84, 84] }) (b : Nat) (W : World) (k : Nat) (f : Nat → Px) (hk : k < 64) (hpc : Pc (f k))
    (hs : a.eval s = sl4 b k) (hown : W.ownsRow (b + 1) 5 1 (sl4 b k) (4 * k) ((bys k f).map bcell)) (hx : a.eval x = .slice (some ⟨W.heap.size, 0, none⟩) 4 4)
    (h : ∀ w', w'.ownsRow (b + 1) 5 1 (sl4 b (k + 1)) (4 * (k + 1)) ((bys (k + 1) f).map bcell) → (W.alloc (.cells (pl (f k)).toArray 5)).grownBy w' (some (b + 1)) → K (a.put o.dst (sl4 b (k + 1))) w') : o.wp Tryz.prog a (W.alloc (.cells (pl (f k)).toArray 5)) K Q := by
  obtain ⟨i0, hi, hz0, hz1, hz2⟩ := info_parts infoB
  obtain ⟨w', hr, ho1, hg1⟩ := run_append_fits (P := Tryz.prog) (W.alloc (.cells (pl (f k)).toArray 5)) (b + 1) 84 o.type 5 i0 1 Tryz.underlying84 hi hz1 (b + 1) (4 * k) 256 _ (World.ownsRow.alloc hown _) ⟨W.heap.size, 0, none⟩ 4 4 ((pb (f k)).map bcell) (by rfl) (by
    intro j u hj
    rw [pb_cells _ hpc] at hj
    have hadd : (⟨W.heap.size, 0, none⟩ : Addr).add j = ⟨W.heap.size, j, none⟩ := by unfold Addr.add; split <;> simp_all
    rw [hadd, cell_of_row _ _ j _ _ (0, 0) (World.alloc_heap_new W _)]
    rw [← hj]; exact List.getElem?_toArray) (by intro u hu; simp at hu; obtain ⟨b, _, rfl⟩ := hu; rfl) (by omega)
  rw [← List.map_append, ← bys_succ] at ho1
  unfold Oper.wp execOp
  simp only [ho, resolve, invoke, builtin, Sem.run_bind, Sem.run_pure, Result.andThen_ok, List.map_toArray, List.map_cons, List.map_nil, hs, hx, hr]
  exact h w' ho1 hg1
theorem st_bs {b k m : Nat} (h : V.heap[b + 1 + 1]? = some (so4 b k)) : (Instr.storeAt 84 (.pointer (some ⟨b + 1 + 1, 0, none⟩)) (sl4 b m)).run Tryz.prog V = .ok () (V.setRow (b + 1 + 1) #[sl4 b m]) := by
  simp only [Instr.storeAt, Instr.sureAddr, Sem.run_bind, Sem.run_pure, Result.andThen_ok, run_storeVar_one (P := Tryz.prog) V _ _ 84 _ (sl4 b m) h (by kernel_rfl) rfl]
theorem St.setU {b : Nat} {cs : Array Value} (h : St W L w) (hb : W.heap.size ≤ b) (hL : ∀ x ∈ L, x.1 ≠ b) : St W L (w.setRow b cs) :=
  ⟨h.below.trans ⟨rfl, rfl, rfl, by simp [World.setRow], fun k hk => setRow_other w b k cs (by omega)⟩, fun x hx => by rw [setRow_other w b x.1 cs (hL x hx)]; exact h.rows x hx⟩
theorem St.keep {B : Nat} (h : St W L w) (hb : Below B w w') (hL : ∀ x ∈ L, x.1 < B) (hB : W.heap.size ≤ B) : St W L w' :=
  ⟨h.below.trans (hb.mono hB), fun x hx => (hb.block x.1 (hL x hx)).trans (h.rows x hx)⟩
theorem own_below {n B g k cap : Nat} {t : TypeId} {xs : List Value} {W W' : World} (h : W.ownsRow B t 1 (.slice (some ⟨g, 0, none⟩) k cap) k xs) (hb : Below n W W') (hg : g < n) : W'.ownsRow B t 1 (.slice (some ⟨g, 0, none⟩) k cap) k xs := by
  obtain ⟨hl, ⟨hv, _⟩ | ⟨g', cap', cur, hv, hB, hh, h1, h2, h3, h4⟩⟩ := h
  · cases hv
  · obtain ⟨rfl, rfl⟩ : g = g' ∧ cap = cap' := by simpa using hv
    exact ⟨hl, .inr ⟨g, cap, cur, rfl, hB, (hb.block g hg).trans hh, h1, h2, h3, h4⟩⟩
theorem own_set {n B g k cap : Nat} {t : TypeId} {xs : List Value} {cs : Array Value} (h : w.ownsRow B t 1 (.slice (some ⟨g, 0, none⟩) k cap) k xs) (hg : g ≠ n) : (w.setRow n cs).ownsRow B t 1 (.slice (some ⟨g, 0, none⟩) k cap) k xs := by
  obtain ⟨hl, ⟨hv, _⟩ | ⟨g', cap', cur, hv, hB, hh, h1, h2, h3, h4⟩⟩ := h
  · cases hv
  · obtain ⟨rfl, rfl⟩ : g = g' ∧ cap = cap' := by simpa using hv
    exact ⟨hl, .inr ⟨g, cap, cur, rfl, hB, (setRow_other w n g cs hg).trans hh, h1, h2, h3, h4⟩⟩
abbrev mk256 : Array Value := madeCells (Value.int .u8 0).cells (256 * 1)
theorem wpListIn_make256 {F : Fence} {n : Nat} {ops : Array Oper} {rest : List Oper} {o : Oper} {a : Act} {Q : Exit → Act → World → Prop} (hg : o.guard = none) (ho : o.op = .makeSlice 84 (.const (.int .i64 0)) (.const (.int .i64 256)))
    (h : wpListIn F n Tryz.prog ops Q rest (a.put o.dst (.slice (some ⟨w.heap.size, 0, none⟩) 0 256)) (w.alloc (.cells mk256 5))) : wpListIn F n Tryz.prog ops Q (o :: rest) a w := by
  obtain ⟨i0, hi, hz0, hz1, hz2⟩ := info_parts infoB
  have hr := run_make (P := Tryz.prog) w 84 5 i0 _ Tryz.underlying84 hi hz0 .i64 .i64 0 256 (by omega) (by omega) (by rw [hz2]; omega) (by omega)
  rw [hz1] at hr
  refine wpListIn_plain hg fun K hK => ?_
  unfold Oper.wpIn
  refine ⟨by simp [Oper.about, ho], ?_⟩
  rw [Oper.semAt_plain F _ _ (by rw [ho]; intro c hc; cases hc)]
  simp only [execOp, ho, Act.eval, Sem.run_bind, hr, Result.andThen_ok, Sem.run_pure, Oper.uponIn_value]
  exact hK _ _ h
theorem bytes_start {b : Nat} {f : Nat → Px} (h : St w [(b, tob f)] V) (hb : V.heap.size = b + 1) : BI w b 0 f (((V.alloc (.cells mk256 5)).alloc (so4 b 0))) := by
  have h1 := (h.alloc (.cells mk256 5)).tl
  have h2 := (h1.alloc (so4 b 0)).tl
  refine ⟨h2, ?_, World.ownsRow.alloc ?_ _⟩
  · have := World.alloc_heap_new (V.alloc (.cells mk256 5)) (so4 b 0)
    rwa [World.size_alloc, hb] at this
  · have := World.ownsRow_made (base := b + 1) (size := 1) (e := 5) V mk256 256 (by omega) (by unfold maxLen; omega) (by simp [size_madeCells])
    rwa [hb] at this
theorem bytes_end {b k : Nat} {f : Nat → Px} {o : Obj} {l : List Nat} {a : Act} {v5 : World} (h5 : St w [(b, tob f)] (v5.setRow (b + 1 + 1) #[sl4 b (k + 1)])) (hc : v5.heap[b + 1 + 1]? = some (so4 b k)) (ho : v5.ownsRow (b + 1) 5 1 (sl4 b (k + 1)) (4 * (k + 1)) ((bys (k + 1) f).map bcell))
    (hg : (V.drew.alloc o).grownBy v5 (some (b + 1))) (hl : l.length = k + 1) :
    roundEnd (fun k => k = b + 1 ∨ k = b + 1 + 1) (fun (pre : List Nat) V => BI w b pre.length f V) l V .normal a (v5.setRow (b + 1 + 1) #[sl4 b (k + 1)]) := by
  have hk0 : Kept (fun k => k = b + 1 ∨ k = b + 1 + 1) V (V.drew.alloc o) := ⟨rfl, rfl, rfl, by simp, fun k hk _ => Below.heap_alloc _ _ _ hk⟩
  have hk1 : Kept (fun k => k = b + 1 ∨ k = b + 1 + 1) V v5 := hk0.trans (Kept.of_grown hg (fun k e => by cases e; exact .inl rfl))
  have hk2 : Kept (fun k => k = b + 1 ∨ k = b + 1 + 1) v5 (v5.setRow (b + 1 + 1) #[sl4 b (k + 1)]) := ⟨rfl, rfl, rfl, by simp [World.setRow], fun j _ hm => setRow_other v5 _ _ _ (fun e => hm (.inr e))⟩
  refine ⟨hk1.trans hk2, ?_⟩
  show BI w b l.length f _
  rw [hl]
  refine ⟨h5, setRow_heap _ _ _ _ _ _ hc, own_set ho (by omega)⟩
set_option maxRecDepth 100000 in
set_option maxHeartbeats 4000000 in
theorem bytes_any (f : Nat → Px) (w : World) (hf : ∀ i, i < 64 → Pc (f i)) : Calls Tryz.prog 152 #[tv f] w fun e w' => e = .returned (.string (str (bys 64 f))) ∧ Below w.heap.size w w' := by
  obtain ⟨b, hb⟩ : ∃ b, b = w.heap.size := ⟨_, rfl⟩
  have hs := (St.start w).alloc (tob f)
  obtain ⟨W1, hW1⟩ : ∃ W1, W1 = ((w.alloc (tob f)).alloc (.cells mk256 5)).alloc (so4 b 0) := ⟨_, rfl⟩
  rw [← hb] at hs
  have h0 := bytes_start hs (by simp [hb])
  rw [← hW1] at h0
  have hz : W1.heap.size = b + 3 := by rw [hW1]; simp [hb]
  have HP := Lib.hid hf
  have HW := Lib.hid hW1
  have HB := Lib.hid hb
  clear hf hs hW1 hb
  refine (callsIn_wide (n := 6)).1 ?_
  refine callsIn_of_wp_marks Tryz.func152 rfl trivial ?_ rfl
  simp only [Tryz.ntmps152, List.size_toArray, List.length_cons, List.length_nil, Nat.reduceAdd, Nat.reduceSub, Array.replicate_succ, Array.replicate_zero, List.push_toArray, List.append_toArray, List.nil_append, List.cons_append]
  gi_wp2_with (gi_at_make; refine wpListIn_make256 rfl rfl ?_)
  rw [← HB.out]
  have e1 : ((w.alloc (Obj.cells (tc f) 38)).alloc (Obj.cells mk256 5)).alloc (Obj.cells #[Value.slice (some ⟨b + 1, 0, none⟩) 0 256] 84) = W1 := HW.out.symm
  rw [e1]
  clear e1
  have hIa : Abd W1.heap.size (fun (pre : List Nat) V => BI w b pre.length f V) := fun s A B h hb =>
    ⟨St.keep (B := W1.heap.size) h.st hb (by simp; omega) (by have := HB.out; omega), (hb.block _ (by omega)).trans h.cell, own_below h.own hb (by omega)⟩
  refine range_all (gf := 162) (lb := #[]) rfl (enters_of Tryz.func162 (by kernel_rfl) rfl) (places_seq (fun k => k = b + 1 ∨ k = b + 1 + 1) W1) (Below.refl _ _) (fun k hk => by omega) (fun _ => rfl)
    _ hIa h0
    (fun x => { tmps := #[tv f, .pointer (some ⟨b, 0, none⟩), .string ⟨#[]⟩, .pointer (some ⟨b + 1 + 1, 0, none⟩), .int .i64 x, .slice (some ⟨b + 1, 0, none⟩) 0 256, .int .i64 x, ptv x, undef, undef, undef, undef, undef, undef, undef, undef, undef, undef, undef, undef, undef, undef, undef, undef, undef, undef, undef, undef, undef], defers := [] }) ?assign ?body ?done
  case assign =>
    intro l' x V K hK
    gi_wp2
    exact hK
  case body =>
    rintro l' pre x V hI hpre hle
    obtain ⟨rfl, hlt⟩ := pre_of hpre
    have hln : (pre ++ [pre.length]).length = pre.length + 1 := by simp
    generalize pre ++ [pre.length] = pre' at *
    generalize pre.length = k at *
    have hix := index_px b k hlt
    have h2 := hI.st
    have HC := Lib.hid hI.cell
    have HO := Lib.hid hI.own
    have HR : Hid (b + 1 + 1 < V.heap.size) := Lib.hid (by omega)
    clear hIa h0 hpre hI
    refine wpIn_block ?_
    refine wpIn_region_held (S := fun V9 => St w [(b, tob f)] V9) (by kernel_rfl) (by kernel_rfl) ?_ (fun hHeld => ?_)
    · first | exact h2.drew | exact h2.drew.tl
    have h20 := h2.drew
    refine wpAnyH_take (i := 1) (oi := { dst := some 9, op := Op.move (Operand.tmp 4), type := 3, pos := "bytes.go:17", after := #[], guard := none }) (v := ?_) rfl (by kernel_rfl) (by kernel_rfl) (by kernel_rfl) (fun _ _ _ h => h) (Or.inl ⟨by kernel_rfl, ?_⟩) (by assumption) ?_
    rotate_left 1
    focus (intro w hSw; (try dsimp only at hSw); go_simp; (try with_reducible rfl))
    try simp only [Act.put, List.setIfInBounds_toArray, List.set_cons_zero, List.set_cons_succ]
    refine wpAnyH_take (i := 2) (oi := { dst := some 10, op := Op.indexAddr 38 (Operand.tmp 1) (Operand.tmp 9), type := 0, pos := "bytes.go:17", after := #[{ on := 1, ground := Ground.data }], guard := none }) (v := ?_) rfl (by kernel_rfl) (by kernel_rfl) (by kernel_rfl) (fun _ _ _ h => h) (Or.inl ⟨by kernel_rfl, ?_⟩) (by assumption) ?_
    rotate_left 1
    focus (intro w hSw; (try dsimp only at hSw); go_simp; (try with_reducible rfl))
    try simp only [Act.put, List.setIfInBounds_toArray, List.set_cons_zero, List.set_cons_succ]
    refine wpAnyH_take (i := 3) (oi := { dst := some 11, op := Op.fieldAddr 36 (Operand.tmp 10) 0, type := 0, pos := "bytes.go:17", after := #[{ on := 2, ground := Ground.data }], guard := none }) (v := ?_) rfl (by kernel_rfl) (by kernel_rfl) (by kernel_rfl) (fun _ _ _ h => h) (Or.inl ⟨by kernel_rfl, ?_⟩) (by assumption) ?_
    rotate_left 1
    focus (intro w hSw; (try dsimp only at hSw); go_simp; (try with_reducible rfl))
    try simp only [Act.put, List.setIfInBounds_toArray, List.set_cons_zero, List.set_cons_succ]
    refine wpAnyH_take (i := 4) (oi := { dst := some 12, op := Op.load 5 (Operand.tmp 11), type := 5, pos := "bytes.go:17", after := #[{ on := 3, ground := Ground.data }], guard := none }) rfl (by kernel_rfl) (by kernel_rfl) (by kernel_rfl) (fun _ _ _ h => h) (yields_load (by kernel_rfl) 5 (.tmp 11) rfl (.int .u8 (f k).r) (fun V hV => ld_u8 V (St.q4 hV (b := b) (f := f) (by simp) k hlt).1)) (by assumption) ?_
    try simp only [Act.put, List.setIfInBounds_toArray, List.set_cons_zero, List.set_cons_succ]
    refine wpAnyH_take (i := 5) (oi := { dst := some 13, op := Op.move (Operand.tmp 4), type := 3, pos := "bytes.go:17", after := #[], guard := none }) (v := ?_) rfl (by kernel_rfl) (by kernel_rfl) (by kernel_rfl) (fun _ _ _ h => h) (Or.inl ⟨by kernel_rfl, ?_⟩) (by assumption) ?_
    rotate_left 1
    focus (intro w hSw; (try dsimp only at hSw); go_simp; (try with_reducible rfl))
    try simp only [Act.put, List.setIfInBounds_toArray, List.set_cons_zero, List.set_cons_succ]
    refine wpAnyH_take (i := 6) (oi := { dst := some 14, op := Op.indexAddr 38 (Operand.tmp 1) (Operand.tmp 13), type := 0, pos := "bytes.go:17", after := #[{ on := 5, ground := Ground.data }], guard := none }) (v := ?_) rfl (by kernel_rfl) (by kernel_rfl) (by kernel_rfl) (fun _ _ _ h => h) (Or.inl ⟨by kernel_rfl, ?_⟩) (by assumption) ?_
    rotate_left 1
    focus (intro w hSw; (try dsimp only at hSw); go_simp; (try with_reducible rfl))
    try simp only [Act.put, List.setIfInBounds_toArray, List.set_cons_zero, List.set_cons_succ]
    refine wpAnyH_take (i := 7) (oi := { dst := some 15, op := Op.fieldAddr 36 (Operand.tmp 14) 1, type := 0, pos := "bytes.go:17", after := #[{ on := 6, ground := Ground.data }], guard := none }) (v := ?_) rfl (by kernel_rfl) (by kernel_rfl) (by kernel_rfl) (fun _ _ _ h => h) (Or.inl ⟨by kernel_rfl, ?_⟩) (by assumption) ?_
    rotate_left 1
    focus (intro w hSw; (try dsimp only at hSw); go_simp; (try with_reducible rfl))
    try simp only [Act.put, List.setIfInBounds_toArray, List.set_cons_zero, List.set_cons_succ]
    refine wpAnyH_take (i := 8) (oi := { dst := some 16, op := Op.load 5 (Operand.tmp 15), type := 5, pos := "bytes.go:17", after := #[{ on := 7, ground := Ground.data }], guard := none }) rfl (by kernel_rfl) (by kernel_rfl) (by kernel_rfl) (fun _ _ _ h => h) (yields_load (by kernel_rfl) 5 (.tmp 15) rfl (.int .u8 (f k).g) (fun V hV => ld_u8 V (St.q4 hV (b := b) (f := f) (by simp) k hlt).2.1)) (by assumption) ?_
    try simp only [Act.put, List.setIfInBounds_toArray, List.set_cons_zero, List.set_cons_succ]
    refine wpAnyH_take (i := 9) (oi := { dst := some 17, op := Op.move (Operand.tmp 4), type := 3, pos := "bytes.go:17", after := #[], guard := none }) (v := ?_) rfl (by kernel_rfl) (by kernel_rfl) (by kernel_rfl) (fun _ _ _ h => h) (Or.inl ⟨by kernel_rfl, ?_⟩) (by assumption) ?_
    rotate_left 1
    focus (intro w hSw; (try dsimp only at hSw); go_simp; (try with_reducible rfl))
    try simp only [Act.put, List.setIfInBounds_toArray, List.set_cons_zero, List.set_cons_succ]
    refine wpAnyH_take (i := 10) (oi := { dst := some 18, op := Op.indexAddr 38 (Operand.tmp 1) (Operand.tmp 17), type := 0, pos := "bytes.go:17", after := #[{ on := 9, ground := Ground.data }], guard := none }) (v := ?_) rfl (by kernel_rfl) (by kernel_rfl) (by kernel_rfl) (fun _ _ _ h => h) (Or.inl ⟨by kernel_rfl, ?_⟩) (by assumption) ?_
    rotate_left 1
    focus (intro w hSw; (try dsimp only at hSw); go_simp; (try with_reducible rfl))
    try simp only [Act.put, List.setIfInBounds_toArray, List.set_cons_zero, List.set_cons_succ]
    refine wpAnyH_take (i := 11) (oi := { dst := some 19, op := Op.fieldAddr 36 (Operand.tmp 18) 2, type := 0, pos := "bytes.go:17", after := #[{ on := 10, ground := Ground.data }], guard := none }) (v := ?_) rfl (by kernel_rfl) (by kernel_rfl) (by kernel_rfl) (fun _ _ _ h => h) (Or.inl ⟨by kernel_rfl, ?_⟩) (by assumption) ?_
    rotate_left 1
    focus (intro w hSw; (try dsimp only at hSw); go_simp; (try with_reducible rfl))
    try simp only [Act.put, List.setIfInBounds_toArray, List.set_cons_zero, List.set_cons_succ]
    refine wpAnyH_take (i := 12) (oi := { dst := some 20, op := Op.load 5 (Operand.tmp 19), type := 5, pos := "bytes.go:17", after := #[{ on := 11, ground := Ground.data }], guard := none }) rfl (by kernel_rfl) (by kernel_rfl) (by kernel_rfl) (fun _ _ _ h => h) (yields_load (by kernel_rfl) 5 (.tmp 19) rfl (.int .u8 (f k).b) (fun V hV => ld_u8 V (St.q4 hV (b := b) (f := f) (by simp) k hlt).2.2.1)) (by assumption) ?_
    try simp only [Act.put, List.setIfInBounds_toArray, List.set_cons_zero, List.set_cons_succ]
    refine wpAnyH_take (i := 13) (oi := { dst := some 21, op := Op.move (Operand.tmp 4), type := 3, pos := "bytes.go:17", after := #[], guard := none }) (v := ?_) rfl (by kernel_rfl) (by kernel_rfl) (by kernel_rfl) (fun _ _ _ h => h) (Or.inl ⟨by kernel_rfl, ?_⟩) (by assumption) ?_
    rotate_left 1
    focus (intro w hSw; (try dsimp only at hSw); go_simp; (try with_reducible rfl))
    try simp only [Act.put, List.setIfInBounds_toArray, List.set_cons_zero, List.set_cons_succ]
    refine wpAnyH_take (i := 14) (oi := { dst := some 22, op := Op.indexAddr 38 (Operand.tmp 1) (Operand.tmp 21), type := 0, pos := "bytes.go:17", after := #[{ on := 13, ground := Ground.data }], guard := none }) (v := ?_) rfl (by kernel_rfl) (by kernel_rfl) (by kernel_rfl) (fun _ _ _ h => h) (Or.inl ⟨by kernel_rfl, ?_⟩) (by assumption) ?_
    rotate_left 1
    focus (intro w hSw; (try dsimp only at hSw); go_simp; (try with_reducible rfl))
    try simp only [Act.put, List.setIfInBounds_toArray, List.set_cons_zero, List.set_cons_succ]
    refine wpAnyH_take (i := 15) (oi := { dst := some 23, op := Op.fieldAddr 36 (Operand.tmp 22) 3, type := 0, pos := "bytes.go:17", after := #[{ on := 14, ground := Ground.data }], guard := none }) (v := ?_) rfl (by kernel_rfl) (by kernel_rfl) (by kernel_rfl) (fun _ _ _ h => h) (Or.inl ⟨by kernel_rfl, ?_⟩) (by assumption) ?_
    rotate_left 1
    focus (intro w hSw; (try dsimp only at hSw); go_simp; (try with_reducible rfl))
    try simp only [Act.put, List.setIfInBounds_toArray, List.set_cons_zero, List.set_cons_succ]
    refine wpAnyH_take (i := 16) (oi := { dst := some 24, op := Op.load 5 (Operand.tmp 23), type := 5, pos := "bytes.go:17", after := #[{ on := 15, ground := Ground.data }], guard := none }) rfl (by kernel_rfl) (by kernel_rfl) (by kernel_rfl) (fun _ _ _ h => h) (yields_load (by kernel_rfl) 5 (.tmp 23) rfl (.int .u8 (f k).a) (fun V hV => ld_u8 V (St.q4 hV (b := b) (f := f) (by simp) k hlt).2.2.2)) (by assumption) ?_
    try simp only [Act.put, List.setIfInBounds_toArray, List.set_cons_zero, List.set_cons_succ]
    refine wpAnyH_ready (rs := [0, 17]) (by kernel_rfl) (by simp) (AllReadyH.cons (o := { dst := some 8, op := Op.load 84 (Operand.tmp 3), type := 84, pos := "bytes.go:17", after := #[], guard := none }) rfl (fun K hK => ?_) (AllReadyH.cons (o := { dst := some 25, op := Op.buildSlice 84 4 #[(0, Operand.tmp 12), (1, Operand.tmp 16), (2, Operand.tmp 20), (3, Operand.tmp 24)], type := 84, pos := "bytes.go:17", after := #[{ on := 4, ground := Ground.data }, { on := 8, ground := Ground.data }, { on := 12, ground := Ground.data }, { on := 16, ground := Ground.data }], guard := none }) rfl (fun K hK => ?_) AllReadyH.nil))
    · refine wp_load_of 84 (.tmp 3) rfl _ (ld_bs (HC.out)) ?_
      have h21r3 := h20
      refine hK.out _ _ ?_ (fun hHeld => ?_)
      · (first | exact h21r3 | exact h21r3.tl)
      clear hK K
      try simp only [Act.put, List.setIfInBounds_toArray, List.set_cons_zero, List.set_cons_succ]
      refine wpAnyH_ready (rs := [17]) (by kernel_rfl) (by simp) (AllReadyH.cons (o := { dst := some 25, op := Op.buildSlice 84 4 #[(0, Operand.tmp 12), (1, Operand.tmp 16), (2, Operand.tmp 20), (3, Operand.tmp 24)], type := 84, pos := "bytes.go:17", after := #[{ on := 4, ground := Ground.data }, { on := 8, ground := Ground.data }, { on := 12, ground := Ground.data }, { on := 16, ground := Ground.data }], guard := none }) rfl (fun K hK => ?_) AllReadyH.nil)
      go_simp
      have h22r3 := h21r3.alloc (.cells (pl (f k)).toArray 5)
      refine hK.out _ _ ?_ (fun hHeld => ?_)
      · (first | exact h22r3 | exact h22r3.tl)
      clear hK K
      try simp only [Act.put, List.setIfInBounds_toArray, List.set_cons_zero, List.set_cons_succ]
      refine wpAnyH_ready (rs := [18]) (by kernel_rfl) (by simp) (AllReadyH.cons (o := { dst := some 26, op := Op.call { callee := Callee.builtin Builtin.append, args := #[Operand.tmp 8, Operand.tmp 25], argTypes := #[84, 84] }, type := 84, pos := "bytes.go:17", after := #[{ on := 0, ground := Ground.data }, { on := 17, ground := Ground.data }], guard := none }) rfl (fun K hK => ?_) AllReadyH.nil)
      refine wp_app4f (.tmp 8) (.tmp 25) rfl b V.drew k f hlt (HP.out k hlt) rfl HO.out rfl ?_
      intro v5 ho5 hg5
      have h23r3 := St.grown1 h22r3 hg5 (by have := HR.out; simp; omega) (by have := HB.out; omega)
      refine hK.out _ _ ?_ (fun hHeld => ?_)
      · (first | exact h23r3 | exact h23r3.tl)
      clear hK K
      try simp only [Act.put, List.setIfInBounds_toArray, List.set_cons_zero, List.set_cons_succ]
      refine wpAnyH_ready (rs := [19]) (by kernel_rfl) (by simp) (AllReadyH.cons (o := { dst := none, op := Op.store 84 (Operand.tmp 3) (Operand.tmp 26), type := 0, pos := "bytes.go:17", after := #[{ on := 18, ground := Ground.data }, { on := 18, ground := Ground.chain }, { on := 0, ground := Ground.phase }, { on := 1, ground := Ground.phase }, { on := 2, ground := Ground.phase }, { on := 3, ground := Ground.phase }, { on := 4, ground := Ground.phase }, { on := 5, ground := Ground.phase }, { on := 6, ground := Ground.phase }, { on := 7, ground := Ground.phase }, { on := 8, ground := Ground.phase }, { on := 9, ground := Ground.phase }, { on := 10, ground := Ground.phase }, { on := 11, ground := Ground.phase }, { on := 12, ground := Ground.phase }, { on := 13, ground := Ground.phase }, { on := 14, ground := Ground.phase }, { on := 15, ground := Ground.phase }, { on := 16, ground := Ground.phase }, { on := 17, ground := Ground.phase }, { on := 18, ground := Ground.phase }], guard := none }) rfl (fun K hK => ?_) AllReadyH.nil)
      refine wp_store_of 84 (.tmp 3) (.tmp 26) rfl (st_bs (gr_row hg5 (by omega) (alloc_row HC.out))) ?_
      have h24r3 := St.setU h23r3 (b := b + 1 + 1) (cs := #[sl4 b (k + 1)]) (by have := HB.out; omega) (by have := HR.out; simp; omega)
      refine hK.out _ _ ?_ (fun hHeld => ?_)
      · (first | exact h24r3 | exact h24r3.tl)
      clear hK K
      try simp only [Act.put]
      refine wpAnyH_done (by kernel_rfl) ?_ _
      have h5 := h24r3
      exact bytes_end (V := V) (a := ⟨#[], []⟩) h5.tl (gr_row hg5 (by omega) (alloc_row HC.out)) ho5 hg5 hln
    · go_simp
      have h25r3 := h20.alloc (.cells (pl (f k)).toArray 5)
      refine hK.out _ _ ?_ (fun hHeld => ?_)
      · (first | exact h25r3 | exact h25r3.tl)
      clear hK K
      try simp only [Act.put, List.setIfInBounds_toArray, List.set_cons_zero, List.set_cons_succ]
      refine wpAnyH_ready (rs := [0]) (by kernel_rfl) (by simp) (AllReadyH.cons (o := { dst := some 8, op := Op.load 84 (Operand.tmp 3), type := 84, pos := "bytes.go:17", after := #[], guard := none }) rfl (fun K hK => ?_) AllReadyH.nil)
      refine wp_load_of 84 (.tmp 3) rfl _ (ld_bs ((alloc_row HC.out))) ?_
      have h26r3 := h25r3
      refine hK.out _ _ ?_ (fun hHeld => ?_)
      · (first | exact h26r3 | exact h26r3.tl)
      clear hK K
      try simp only [Act.put, List.setIfInBounds_toArray, List.set_cons_zero, List.set_cons_succ]
      refine wpAnyH_ready (rs := [18]) (by kernel_rfl) (by simp) (AllReadyH.cons (o := { dst := some 26, op := Op.call { callee := Callee.builtin Builtin.append, args := #[Operand.tmp 8, Operand.tmp 25], argTypes := #[84, 84] }, type := 84, pos := "bytes.go:17", after := #[{ on := 0, ground := Ground.data }, { on := 17, ground := Ground.data }], guard := none }) rfl (fun K hK => ?_) AllReadyH.nil)
      refine wp_app4f (.tmp 8) (.tmp 25) rfl b V.drew k f hlt (HP.out k hlt) rfl HO.out rfl ?_
      intro v5 ho5 hg5
      have h27r3 := St.grown1 h26r3 hg5 (by have := HR.out; simp; omega) (by have := HB.out; omega)
      refine hK.out _ _ ?_ (fun hHeld => ?_)
      · (first | exact h27r3 | exact h27r3.tl)
      clear hK K
      try simp only [Act.put, List.setIfInBounds_toArray, List.set_cons_zero, List.set_cons_succ]
      refine wpAnyH_ready (rs := [19]) (by kernel_rfl) (by simp) (AllReadyH.cons (o := { dst := none, op := Op.store 84 (Operand.tmp 3) (Operand.tmp 26), type := 0, pos := "bytes.go:17", after := #[{ on := 18, ground := Ground.data }, { on := 18, ground := Ground.chain }, { on := 0, ground := Ground.phase }, { on := 1, ground := Ground.phase }, { on := 2, ground := Ground.phase }, { on := 3, ground := Ground.phase }, { on := 4, ground := Ground.phase }, { on := 5, ground := Ground.phase }, { on := 6, ground := Ground.phase }, { on := 7, ground := Ground.phase }, { on := 8, ground := Ground.phase }, { on := 9, ground := Ground.phase }, { on := 10, ground := Ground.phase }, { on := 11, ground := Ground.phase }, { on := 12, ground := Ground.phase }, { on := 13, ground := Ground.phase }, { on := 14, ground := Ground.phase }, { on := 15, ground := Ground.phase }, { on := 16, ground := Ground.phase }, { on := 17, ground := Ground.phase }, { on := 18, ground := Ground.phase }], guard := none }) rfl (fun K hK => ?_) AllReadyH.nil)
      refine wp_store_of 84 (.tmp 3) (.tmp 26) rfl (st_bs (gr_row hg5 (by omega) (alloc_row HC.out))) ?_
      have h28r3 := St.setU h27r3 (b := b + 1 + 1) (cs := #[sl4 b (k + 1)]) (by have := HB.out; omega) (by have := HR.out; simp; omega)
      refine hK.out _ _ ?_ (fun hHeld => ?_)
      · (first | exact h28r3 | exact h28r3.tl)
      clear hK K
      try simp only [Act.put]
      refine wpAnyH_done (by kernel_rfl) ?_ _
      have h5 := h28r3
      exact bytes_end (V := V) (a := ⟨#[], []⟩) h5.tl (gr_row hg5 (by omega) (alloc_row HC.out)) ho5 hg5 hln

  case done =>
    rintro D V hD hI hdef hk
    rw [List.length_range] at hI
    have hcv := owns_conv (B := b + 1) (w := V) (v := sl4 b 64) (p := bys 64 f) (by have := hI.own; unfold OwnsB; rw [bys_len]; exact this)
    have hcell : V.cell? ⟨b + 1 + 1, 0, none⟩ = some (sl4 b 64) := cell_of_row V _ 0 #[sl4 b 64] _ (0, 0) hI.cell
    have hB2 : Below w.heap.size w V := hI.st.below
    have HB2 := Lib.hid hB2
    clear hIa h0 hI hk hB2
    gi_wp2
    exact ⟨by simp, .inl ⟨_, _, rfl, run_takeDeferred hdef, _, results_tmp rfl _ _ _, rfl, HB2.out.trans (below_putObj _ (by have := HB.out; omega))⟩⟩
end Go.Proofs.YtfncldaodbfakaaGreat.T
