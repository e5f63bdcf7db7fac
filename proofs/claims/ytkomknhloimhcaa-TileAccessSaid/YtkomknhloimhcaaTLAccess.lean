/-
  For every tile, pixel and position, Get, Set, Fill, Zero, Solid and Clean return what the reference returns.
-/
import Derived.Test.YtkomknhloimhcaaTLaw
import Derived.Test.YtkomknhloimhcaaTLay
import Derived.Test.YtkomknhloimhcaaTRefClean
import Derived.Test.YtkomknhloimhcaaTSolid
namespace Go.Proofs.Ytkomknhloimhcaa.T.TLAccess
open Go.ChangeShapes Go.WideShapes Go.ChangeAt Go.RowKit Go.Shelf

/-- three tiles -/
def G3 (a b c : Nat → Px) : Nat → Px := fun k => if k < 64 then a k else if k < 128 then b (k - 64) else c (k - 128)
theorem fill3 (place : Nat → Option (Nat × Nat)) (f0 f1 f2 : Nat → Px) (z : Array Value) (hz : z.size = 768) (h0 : place 0 = some (0, 256)) (h1 : place 1 = some (256, 256)) (h2 : place 2 = some (512, 256)) :
    Instr.fill place z [(0, .agg (fc 64 f0)), (1, .agg (fc 64 f1)), (2, .agg (fc 64 f2))] = some (fc 192 (G3 f0 f1 f2)) := by
  have c0 : (Value.agg (fc 64 f0)).cells = fc 64 f0 := rfl
  have c1 : (Value.agg (fc 64 f1)).cells = fc 64 f1 := rfl
  have c2 : (Value.agg (fc 64 f2)).cells = fc 64 f2 := rfl
  simp only [Instr.fill, h0, h1, h2, c0, c1, c2, fc_size, fold_size, hz]
  rw [if_neg (by first | (simp; done) | (simp; omega)), if_neg (by first | (simp; done) | (simp; omega)), if_neg (by first | (simp; done) | (simp; omega))]
  refine congrArg some (fc_of _ (by rw [fold_size, fold_size, fold_size, hz]) fun i j hi hj => ?_)
  rw [fold_arr _ _ _ _ (by rw [fold_size, fold_size, hz, fc_size]; omega), fold_arr _ _ _ _ (by rw [fold_size, hz, fc_size]; omega), fold_arr _ _ _ _ (by rw [hz, fc_size]; omega), fc_size, fc_size, fc_size]
  unfold G3
  by_cases a0 : i < 64
  · rw [if_neg (by omega), if_neg (by omega), if_pos (by omega), if_pos a0, Nat.sub_zero]
    exact fc_get 64 f0 i j a0 hj
  · by_cases a1 : i < 128
    · rw [if_neg (by omega), if_pos (by omega), if_neg a0, if_pos a1, show 4 * i + j - 256 = 4 * (i - 64) + j by omega]
      exact fc_get 64 f1 (i - 64) j (by omega) hj
    · rw [if_pos (by omega), if_neg a0, if_neg a1, show 4 * i + j - 512 = 4 * (i - 128) + j by omega]
      exact fc_get 64 f2 (i - 128) j (by omega) hj
set_option maxRecDepth 100000 in
theorem built3 (a b c : Nat → Px) (w : World) : (Instr.build 29 #[(0, tv a), (1, tv b), (2, tv c)]).run Try.prog w = .ok (.agg (fc 192 (G3 a b c))) w := by
  refine run_build w 29 _ _ ?_
  have hi : (Try.prog.info? 29).map (fun i => (i.zero.map fun z => z.cells.size)) = some (some 768) := by kernel_rfl
  have he : (Try.prog.info? 25).map (·.size) = some 256 := info_tile
  unfold Program.built
  rw [Try.underlying29]
  cases h1 : Try.prog.info? 29 with
  | none => rw [h1] at hi; simp at hi
  | some it =>
    cases h2 : Try.prog.info? 25 with
    | none => rw [h2] at he; simp at he
    | some ie =>
      rw [h1] at hi; rw [h2] at he
      simp only [Option.map_some, Option.some.injEq] at hi he
      cases h3 : it.zero with
      | none => rw [h3] at hi; simp at hi
      | some z =>
        rw [h3] at hi
        simp only [Option.map_some, Option.some.injEq] at hi
        simp only [h3]
        rw [h2]
        show Instr.fill (fun i => some (i * ie.size, ie.size)) z.cells [(0, tv a), (1, tv b), (2, tv c)] = some (fc 192 (G3 a b c))
        rw [he]
        exact fill3 _ a b c z.cells hi rfl rfl rfl
theorem yields_build3 {P : Program} {ops : Array Oper} {S : World → Prop} {o : Oper} {a : Act} (hw : Region.wanted o (yielded ops a.tmps) = true) (t : TypeId) (x y z : Operand) (ho : o.op = .build t #[(0, x), (1, y), (2, z)]) (v x' y' z' : Value) (hx : a.eval x = x') (hy : a.eval y = y') (hz : a.eval z = z')
    (hl : ∀ w, (Instr.build t #[(0, x'), (1, y'), (2, z')]).run P w = .ok v w) : YieldsIf P ops S o v a :=
  .inl ⟨hw, fun w _ => by
    unfold execOp
    have hl' : (Instr.build t ((#[(0, x), (1, y), (2, z)] : Array (Nat × Operand)).map fun (i, x) => (i, a.eval x))).run P w = .ok v w := by subst hx hy hz; simpa using hl w
    simp only [ho, Sem.run_bind, hl', Result.andThen_ok, Sem.run_pure]⟩
theorem yields_neqb {P : Program} {ops : Array Oper} {S : World → Prop} {o : Oper} {a : Act} (hw : Region.wanted o (yielded ops a.tmps) = true) (t : TypeId) (x y : Operand) (t' : TypeId) (ho : o.op = .binOp .neq t x y t') (z : Bool) (hx : a.eval x = .bool z) (hy : a.eval y = .bool z)
    (hl : ∀ w, (Go.binOp .neq t (.bool z) (.bool z)).run P w = .ok (.bool false) w) : YieldsIf P ops S o (.bool false) a :=
  .inl ⟨hw, fun w _ => by
    unfold execOp
    simp only [ho, hx, hy, eqGuard_at_bool, Sem.run_bind, Sem.run_pure, hl w, Result.andThen_ok]⟩
abbrev t3 (G : Nat → Px) : Obj := .cells (fc 192 G) 29
abbrev p2o (x y : Int) : Obj := .cells #[.int .i64 x, .int .i64 y] 26
set_option maxRecDepth 100000 in
theorem zero_t3 (w : World) : (zeroValue 29).run Try.prog w = .ok (.agg (fc 192 z0)) w := by kernel_rfl
theorem info_t3 : (Try.prog.info? 29).map (·.size) = some 768 := by kernel_rfl
theorem store_t3 (b : Nat) (f g : Nat → Px) (w : World) (h : w.heap[b]? = some (t3 f)) : (Instr.storeAt 29 (ptrB b) (.agg (fc 192 g))).run Try.prog w = .ok () (w.setRow b (fc 192 g)) := by
  simp only [Instr.storeAt, Instr.sureAddr, Sem.run_bind, Sem.run_pure, Result.andThen_ok, run_storeVar_row w b _ 29 _ _ h (by rw [info_t3, fc_size]) (by rw [fc_size, fc_size]) (fc_one 192 g)]
theorem load_t3 (b q : Nat) (G : Nat → Px) (w : World) (hq : q < 3) (h : w.heap[b]? = some (t3 G)) : (Instr.loadAt 25 (.pointer (some ⟨b, 256 * q, none⟩))).run Try.prog w = .ok (tv (sub4 G q)) w := by
  have := run_loadAt_mid w b (256 * q) 25 (tc (sub4 G q)).toList _ (fun j v hv => by
    rw [cell_of_row w b (256 * q + j) _ _ (0, 0) h]
    have hj : j < 256 := by have := (List.getElem?_eq_some_iff.1 hv).1; rwa [Array.length_toList, tc_size] at this
    rw [Array.getElem?_toList] at hv
    rw [← hv, show 256 * q + j = 4 * (64 * q + j / 4) + j % 4 by omega, fc_get 192 G _ _ (by omega) (by omega)]
    have := tc_get (sub4 G q) (j / 4) (j % 4) (by omega) (by omega)
    rw [show 4 * (j / 4) + j % 4 = j by omega] at this
    exact this.symm) Try.underlying25 rfl (by rw [info_tile, Array.length_toList, tc_size])
  simpa using this
theorem ldc {L : List (Nat × Obj)} {W V : World} {b : Nat} {x y : Int} (h : St W L V) (hm : (b, p2o x y) ∈ L) : (Instr.loadAt 3 (.pointer (some ⟨b, 0, none⟩))).run Try.prog V = .ok (.int .i64 x) V ∧ (Instr.loadAt 3 (.pointer (some ⟨b, 1, none⟩))).run Try.prog V = .ok (.int .i64 y) V :=
  ⟨ld_cell agg_int V ((h.cell (cs := #[.int .i64 x, .int .i64 y]) hm 0).trans rfl), ld_cell agg_int V ((h.cell (cs := #[.int .i64 x, .int .i64 y]) hm 1).trans rfl)⟩
theorem zero_pxl (w : World) : (zeroValue 23).run Try.prog w = .ok (.agg (pl zp).toArray) w := by kernel_rfl
theorem zero_p2 (w : World) : (zeroValue 26).run Try.prog w = .ok (.agg #[.int .i64 0, .int .i64 0]) w := by kernel_rfl
theorem store_p2 (b : Nat) (x y x' y' : Int) (w : World) (h : w.heap[b]? = some (p2o x y)) : (Instr.storeAt 26 (ptrB b) (.agg #[.int .i64 x', .int .i64 y'])).run Try.prog w = .ok () (w.setRow b #[.int .i64 x', .int .i64 y']) := by
  have := run_storeVar_row (P := Try.prog) w b _ 26 _ #[.int .i64 x', .int .i64 y'] h (by kernel_rfl) rfl (by simp; exact ⟨rfl, rfl⟩)
  simp only [Instr.storeAt, Instr.sureAddr, Sem.run_bind, Sem.run_pure, Result.andThen_ok]
  exact this
theorem ix2 (b : Nat) (w : World) : (Instr.indexAt 26 (.pointer (some ⟨b, 0, none⟩)) (.int .i64 0)).run Try.prog w = .ok (.pointer (some ⟨b, 0, none⟩)) w ∧ (Instr.indexAt 26 (.pointer (some ⟨b, 0, none⟩)) (.int .i64 1)).run Try.prog w = .ok (.pointer (some ⟨b, 1, none⟩)) w :=
  ⟨index_at (t := 26) (n := 2) Try.underlying26 (fun w => (by kernel_rfl : (sizeOf 3).run Try.prog w = .ok 1 w)) b 0 0 0 rfl (by decide) w, index_at (t := 26) (n := 2) Try.underlying26 (fun w => (by kernel_rfl : (sizeOf 3).run Try.prog w = .ok 1 w)) b 0 1 1 rfl (by decide) w⟩

set_option maxHeartbeats 8000000 in
set_option maxRecDepth 100000 in
theorem walk (f : Nat → Px) (p : Px) (x y : Int) (w : World) (_hf : ∀ i, i < 64 → Pc (f i)) (_hp : Pc p) : Calls Try.prog 3 #[tv f, p.v, .agg #[.int .i64 x, .int .i64 y]] w fun e w' => e = .returned (.bool true) ∧ Below w.heap.size w w' := by
  have hs := (((St.start w).alloc (tob f)).alloc (pxo p)).alloc (p2o x y)
  simp only [World.size_alloc] at hs
  have HNB : Hid (∀ (V : World) (z : Bool), (Go.binOp .neq 4 (.bool z) (.bool z)).run Try.prog V = .ok (.bool false) V) := fun V z => by cases z <;> kernel_rfl
  have HNP := Lib.hid (fun q V => neqT (p := q) (q := q) rfl V)
  have HNT := Lib.hid (fun (g : Nat → Px) V => neqTT (f := g) (g := g) (fun _ _ => rfl) V)
  have HE := Lib.hid (eqlTT (f := fun _ => p) (g := fun _ => p) (fun _ _ => rfl))
  go_enter Try.func3, Try.ntmps3
  go_upto_region 2 with (go_at_call 11; (refine (St.call hs (sane_any _)).mono ?_); rintro e V1 ⟨rfl, h1⟩)
  clear hs
  have hzt := zero_tile
  go_cut [8] (fun v wx => ∃ b8, v = ptrB b8 ∧ St w ((b8, t3 (G3 f (fun _ => p) z0)) :: [(w.heap.size + 1 + 1, p2o x y), (w.heap.size + 1, pxo p), (w.heap.size, tob f)]) wx)
  case first =>
    refine wp_region_held_drew (S := fun V9 => St w [(w.heap.size + 1 + 1, p2o x y), (w.heap.size + 1, pxo p), (w.heap.size, tob f)] V9) (by kernel_rfl) ?_ (fun hHeld => ?_)
    · first | exact h1.drew | exact h1.drew.tl
    have h10 := h1.drew
    refine wpAnyH_take (i := 0) (oi := { dst := some 17, op := Op.load 25 (Operand.tmp 3), type := 25, pos := "law.go:25", after := #[], guard := none }) rfl (by kernel_rfl) (by kernel_rfl) (by kernel_rfl) (fun _ _ _ h => h) (yields_load (by kernel_rfl) 25 (.tmp 3) rfl (tv (f)) (fun V hV => ld (b := w.heap.size) (f := f) hV (by simp))) (by assumption) ?_
    try simp only [Act.put, List.setIfInBounds_toArray, List.set_cons_zero, List.set_cons_succ]
    refine wpAnyH_take (i := 1) (oi := { dst := some 18, op := Op.load 23 (Operand.tmp 4), type := 23, pos := "law.go:25", after := #[], guard := none }) rfl (by kernel_rfl) (by kernel_rfl) (by kernel_rfl) (fun _ _ _ h => h) (yields_load (by kernel_rfl) 23 (.tmp 4) rfl (p).v (fun V hV => ldp (b := w.heap.size + 1) (p := p) hV (by simp))) (by assumption) ?_
    try simp only [Act.put, List.setIfInBounds_toArray, List.set_cons_zero, List.set_cons_succ]
    refine wpAnyH_take (i := 3) (oi := { dst := some 20, op := Op.build 25 #[], type := 25, pos := "law.go:25", after := #[], guard := none }) rfl (by kernel_rfl) (by kernel_rfl) (by kernel_rfl) (fun _ _ _ h => h) (yields_build0 (by kernel_rfl) 25 rfl (tv z0) (fun V => built0 V)) (by assumption) ?_
    try simp only [Act.put, List.setIfInBounds_toArray, List.set_cons_zero, List.set_cons_succ]
    refine wpAnyH_ready (rs := [2, 5]) (by kernel_rfl) (by simp) (AllReadyH.cons (o := { dst := some 19, op := Op.call { callee := Callee.value (Operand.func 12), args := #[Operand.tmp 18], argTypes := #[23] }, type := 25, pos := "law.go:25", after := #[{ on := 1, ground := Ground.data }], guard := none }) rfl (fun K hK => ?_) (AllReadyH.cons (o := { dst := some 8, op := Op.alloc 29, type := 0, pos := "law.go:25", after := #[], guard := none }) rfl (fun K hK => ?_) AllReadyH.nil))
    · (go_simp; (go_at_call 12; (refine (St.call h10 (refFill_any p _)).mono ?_); rintro e V1r2 ⟨rfl, h11r2⟩))
      refine hK.out _ _ ?_ (fun hHeld => ?_)
      · (first | exact h11r2 | exact h11r2.tl)
      clear hK K
      try simp only [Act.put, List.setIfInBounds_toArray, List.set_cons_zero, List.set_cons_succ]
      refine wpAnyH_take (i := 4) (oi := { dst := some 21, op := Op.build 29 #[(0, Operand.tmp 17), (1, Operand.tmp 19), (2, Operand.tmp 20)], type := 29, pos := "law.go:25", after := #[{ on := 0, ground := Ground.data }, { on := 2, ground := Ground.data }, { on := 3, ground := Ground.data }], guard := none }) rfl (by kernel_rfl) (by kernel_rfl) (by kernel_rfl) (fun _ _ _ h => h) (yields_build3 (by kernel_rfl) 29 (.tmp 17) (.tmp 19) (.tmp 20) rfl _ _ _ _ rfl rfl rfl (fun V => built3 f (fun _ => p) z0 V)) (by assumption) ?_
      try simp only [Act.put, List.setIfInBounds_toArray, List.set_cons_zero, List.set_cons_succ]
      refine wpAnyH_ready (rs := [5]) (by kernel_rfl) (by simp) (AllReadyH.cons (o := { dst := some 8, op := Op.alloc 29, type := 0, pos := "law.go:25", after := #[], guard := none }) rfl (fun K hK => ?_) AllReadyH.nil)
      have hne2 := h11r2.ne
      have hle2 := h11r2.below.size
      have h12r2 := h11r2.alloc (t3 z0)
      refine wp_alloc_of 29 rfl _ (zero_t3 _) ?_
      refine hK.out _ _ ?_ (fun hHeld => ?_)
      · (first | exact h12r2 | exact h12r2.tl)
      clear hK K
      try simp only [Act.put, List.setIfInBounds_toArray, List.set_cons_zero, List.set_cons_succ]
      refine wpAnyH_ready (rs := [6]) (by kernel_rfl) (by simp) (AllReadyH.cons (o := { dst := none, op := Op.store 29 (Operand.tmp 8) (Operand.tmp 21), type := 0, pos := "law.go:25", after := #[{ on := 5, ground := Ground.data }, { on := 4, ground := Ground.data }, { on := 2, ground := Ground.chain }, { on := 0, ground := Ground.phase }, { on := 1, ground := Ground.phase }, { on := 2, ground := Ground.phase }, { on := 3, ground := Ground.phase }, { on := 4, ground := Ground.phase }, { on := 5, ground := Ground.phase }], guard := none }) rfl (fun K hK => ?_) AllReadyH.nil)
      have h13r2 := St.rowset (ds := fc 192 (G3 f (fun _ => p) z0)) h12r2 hle2 hne2
      refine wp_store_of 29 _ _ rfl (store_t3 _ z0 (G3 f (fun _ => p) z0) _ h12r2.hd) ?_
      refine hK.out _ _ ?_ (fun hHeld => ?_)
      · (first | exact h13r2 | exact h13r2.tl)
      clear hK K
      try simp only [Act.put]
      refine wpAnyH_done (by kernel_rfl) ?_ _
      go_wp2_with fail
      go_meet
      case rel => exact ⟨_, rfl, h13r2⟩
    · have hne2 := h10.ne
      have hle2 := h10.below.size
      have h14r2 := h10.alloc (t3 z0)
      refine wp_alloc_of 29 rfl _ (zero_t3 _) ?_
      refine hK.out _ _ ?_ (fun hHeld => ?_)
      · (first | exact h14r2 | exact h14r2.tl)
      clear hK K
      try simp only [Act.put, List.setIfInBounds_toArray, List.set_cons_zero, List.set_cons_succ]
      refine wpAnyH_ready (rs := [2]) (by kernel_rfl) (by simp) (AllReadyH.cons (o := { dst := some 19, op := Op.call { callee := Callee.value (Operand.func 12), args := #[Operand.tmp 18], argTypes := #[23] }, type := 25, pos := "law.go:25", after := #[{ on := 1, ground := Ground.data }], guard := none }) rfl (fun K hK => ?_) AllReadyH.nil)
      (go_simp; (go_at_call 12; (refine (St.call h14r2 (refFill_any p _)).mono ?_); rintro e V5r2 ⟨rfl, h15r2⟩))
      refine hK.out _ _ ?_ (fun hHeld => ?_)
      · (first | exact h15r2 | exact h15r2.tl)
      clear hK K
      try simp only [Act.put, List.setIfInBounds_toArray, List.set_cons_zero, List.set_cons_succ]
      refine wpAnyH_take (i := 4) (oi := { dst := some 21, op := Op.build 29 #[(0, Operand.tmp 17), (1, Operand.tmp 19), (2, Operand.tmp 20)], type := 29, pos := "law.go:25", after := #[{ on := 0, ground := Ground.data }, { on := 2, ground := Ground.data }, { on := 3, ground := Ground.data }], guard := none }) rfl (by kernel_rfl) (by kernel_rfl) (by kernel_rfl) (fun _ _ _ h => h) (yields_build3 (by kernel_rfl) 29 (.tmp 17) (.tmp 19) (.tmp 20) rfl _ _ _ _ rfl rfl rfl (fun V => built3 f (fun _ => p) z0 V)) (by assumption) ?_
      try simp only [Act.put, List.setIfInBounds_toArray, List.set_cons_zero, List.set_cons_succ]
      refine wpAnyH_ready (rs := [6]) (by kernel_rfl) (by simp) (AllReadyH.cons (o := { dst := none, op := Op.store 29 (Operand.tmp 8) (Operand.tmp 21), type := 0, pos := "law.go:25", after := #[{ on := 5, ground := Ground.data }, { on := 4, ground := Ground.data }, { on := 2, ground := Ground.chain }, { on := 0, ground := Ground.phase }, { on := 1, ground := Ground.phase }, { on := 2, ground := Ground.phase }, { on := 3, ground := Ground.phase }, { on := 4, ground := Ground.phase }, { on := 5, ground := Ground.phase }], guard := none }) rfl (fun K hK => ?_) AllReadyH.nil)
      have h16r2 := St.rowset (ds := fc 192 (G3 f (fun _ => p) z0)) h15r2 hle2 hne2
      refine wp_store_of 29 _ _ rfl (store_t3 _ z0 (G3 f (fun _ => p) z0) _ h15r2.hd) ?_
      refine hK.out _ _ ?_ (fun hHeld => ?_)
      · (first | exact h16r2 | exact h16r2.tl)
      clear hK K
      try simp only [Act.put]
      refine wpAnyH_done (by kernel_rfl) ?_ _
      go_wp2_with fail
      go_meet
      case rel => exact ⟨_, rfl, h16r2⟩
  case rest =>
    obtain ⟨b8, rfl, h2⟩ := hcut
    have H2 := Lib.hid h2
    clear h1 h2
    go_wp2
    go_loopw [9] (fun v wr => ∃ k : Nat, k ≤ 3 ∧ v = .int .i64 k ∧ Hid (St w ((b8, t3 (G3 f (fun _ => p) z0)) :: [(w.heap.size + 1 + 1, p2o x y), (w.heap.size + 1, pxo p), (w.heap.size, tob f)]) wr)) (fun i _ => 3 - (intOf i).toNat)
    case atStart => exact ⟨0, by omega, rfl, H2.out⟩
    case round =>
      obtain ⟨k, hk, rfl, HT⟩ := hrel
      by_cases hlt : k < 3
      · have hix := fun W => index_at (t := 29) (n := 3) Try.underlying29 size_tile b8 0 k k rfl hlt W
        rw [show 0 + k * 256 = 256 * k by omega] at hix
        obtain ⟨u, hu⟩ : ∃ u, u = sub4 (G3 f (fun _ => p) z0) k := ⟨_, rfl⟩
        have hl := load_t3 b8 k (G3 f (fun _ => p) z0) wr hlt (HT.out.row (b := b8) (o := t3 (G3 f (fun _ => p) z0)) (by simp))
        rw [← hu] at hl
        have HL := Lib.hid hl
        have hA := World.alloc_heap_new wr (tob z0)
        have h3 := (HT.out.alloc (tob z0)).newT u HT.out.below.size HT.out.ne
        have HA := Lib.hid hA
        have H3 := Lib.hid h3
        clear hl hu hA h3
        go_upto_region 7 with (first
          | (refine wpList_load_of rfl 25 _ rfl _ HL.out ?_)
          | (refine wpList_alloc_of rfl 25 rfl _ (zero_tile _) ?_)
          | (refine wpList_store_of rfl 25 _ _ rfl (store_tile _ z0 _ _ HA.out) ?_))
        generalize wr.heap.size = b10 at *
        generalize (wr.alloc (.cells (tc z0) 25)).setRow b10 (tc u) = W3 at H3 ⊢
        clear HA HL
        try simp only [Act.put, List.setIfInBounds_toArray, List.set_cons_zero, List.set_cons_succ]
        have HX := Lib.hid (St.call H3.out (solid_any u _))
        have HLU := Lib.hid (ld (b := b10) (f := u) H3.out (by simp))
        go_upto_region 8 with (first
          | (refine wpList_load_of rfl 25 _ rfl _ HLU.out ?_)
          | (go_at_call 13; (refine HX.out.mono ?_); rintro e U4 ⟨rfl, h⟩; have hA := World.alloc_heap_new U4 (pxo zp); have h2 := St.rowset (ds := (pl (sp u)).toArray) (h.alloc (pxo zp)) h.below.size h.ne; have H4 := Lib.hid h2; have HA := Lib.hid hA; clear h h2 hA)
          | (refine wpList_alloc_of rfl 23 rfl _ (zero_pxl _) ?_)
          | (refine wpList_store_of rfl 23 _ _ rfl (store_px0 _ zp (sp u) _ HA.out) ?_))
        generalize U4.heap.size = b11 at *
        generalize (U4.alloc (.cells (pl zp).toArray 23)).setRow b11 (pl (sp u)).toArray = X4 at H4 ⊢
        clear HA HX HLU
        try simp only [Act.put, List.setIfInBounds_toArray, List.set_cons_zero, List.set_cons_succ]
        have HX := Lib.hid (St.call H4.out (refSolid_any u _))
        have HLU := Lib.hid (ld (b := b10) (f := u) H4.out (by simp))
        go_upto_region 9 with (first
          | (refine wpList_load_of rfl 25 _ rfl _ HLU.out ?_)
          | (go_at_call 14; (refine HX.out.mono ?_); rintro e U5 ⟨rfl, h⟩; have hA := World.alloc_heap_new U5 (pxo zp); have h2 := St.rowset (ds := (pl (sp u)).toArray) (h.alloc (pxo zp)) h.below.size h.ne; have H5 := Lib.hid h2; have HA := Lib.hid hA; clear h h2 hA)
          | (refine wpList_alloc_of rfl 23 rfl _ (zero_pxl _) ?_)
          | (refine wpList_store_of rfl 23 _ _ rfl (store_px0 _ zp (sp u) _ HA.out) ?_))
        generalize U5.heap.size = b13 at *
        generalize (U5.alloc (.cells (pl zp).toArray 23)).setRow b13 (pl (sp u)).toArray = X5 at H5 ⊢
        clear HA HX HLU
        try simp only [Act.put, List.setIfInBounds_toArray, List.set_cons_zero, List.set_cons_succ]
        have H5 : Hid (St w ((b13, pxo (sp u)) :: ((b11, pxo (sp u)) :: ((b10, tob u) :: ((b8, t3 (G3 f (fun _ => p) z0)) :: [(w.heap.size + 1 + 1, p2o x y), (w.heap.size + 1, pxo p), (w.heap.size, tob f)])))) X5) := H5
        have hc0 := H5.out.cell (b := w.heap.size + 1 + 1) (cs := #[.int .i64 x, .int .i64 y]) (t := 26) (by simp) 0
        have hc1 := H5.out.cell (b := w.heap.size + 1 + 1) (cs := #[.int .i64 x, .int .i64 y]) (t := 26) (by simp) 1
        have hi0 := fun W => (ix2 (w.heap.size + 1 + 1) W).1
        have hi1 := fun W => (ix2 (w.heap.size + 1 + 1) W).2
        have hA := World.alloc_heap_new X5 (p2o 0 0)
        have h6 := St.rowset (ds := #[.int .i64 (bits .and .i64 x 7), .int .i64 (bits .and .i64 y 7)]) (H5.out.alloc (p2o 0 0)) H5.out.below.size H5.out.ne
        have HA := Lib.hid hA
        have H6 := Lib.hid h6
        clear hA h6
        go_upto_region 10 with (first
          | (refine wpList_alloc_of rfl 26 rfl _ (zero_p2 _) ?_)
          | (refine wpList_store_of rfl 26 _ _ rfl (store_p2 _ 0 0 (bits .and .i64 x 7) (bits .and .i64 y 7) _ HA.out) ?_))
        clear hc0 hc1
        generalize X5.heap.size = b15 at *
        generalize (X5.alloc (.cells #[.int .i64 0, .int .i64 0] 26)).setRow b15 #[.int .i64 (bits .and .i64 x 7), .int .i64 (bits .and .i64 y 7)] = X6 at H6 ⊢
        generalize bits .and .i64 x 7 = nx at *
        generalize bits .and .i64 y 7 = ny at *
        clear HA H3 H4 H5
        try simp only [Act.put, List.setIfInBounds_toArray, List.set_cons_zero, List.set_cons_succ]
        have hj0 := fun W => (ix2 b15 W).1
        have hj1 := fun W => (ix2 b15 W).2
        have h5 := H6.out
        refine wp_region_held_drew (S := fun V9 => St w ((b15, p2o nx ny) :: ((b13, pxo (sp u)) :: ((b11, pxo (sp u)) :: ((b10, tob u) :: ((b8, t3 (G3 f (fun _ => p) z0)) :: [(w.heap.size + 1 + 1, p2o x y), (w.heap.size + 1, pxo p), (w.heap.size, tob f)]))))) V9) (by kernel_rfl) ?_ (fun hHeld => ?_)
        · first | exact h5.drew | exact h5.drew.tl
        have h50 := h5.drew
        refine wpAnyH_take (i := 0) (oi := { dst := some 46, op := Op.load 25 (Operand.tmp 10), type := 25, pos := "law.go:31", after := #[], guard := none }) rfl (by kernel_rfl) (by kernel_rfl) (by kernel_rfl) (fun _ _ _ h => h) (yields_load (by kernel_rfl) 25 (.tmp 10) rfl (tv (u)) (fun V hV => ld (b := b10) (f := u) hV (by simp))) (by assumption) ?_
        try simp only [Act.put, List.setIfInBounds_toArray, List.set_cons_zero, List.set_cons_succ]
        refine wpAnyH_take (i := 2) (oi := { dst := some 48, op := Op.load 25 (Operand.tmp 10), type := 25, pos := "law.go:31", after := #[], guard := none }) rfl (by kernel_rfl) (by kernel_rfl) (by kernel_rfl) (fun _ _ _ h => h) (yields_load (by kernel_rfl) 25 (.tmp 10) rfl (tv (u)) (fun V hV => ld (b := b10) (f := u) hV (by simp))) (by assumption) ?_
        try simp only [Act.put, List.setIfInBounds_toArray, List.set_cons_zero, List.set_cons_succ]
        refine wpAnyH_ready (rs := [1]) (by kernel_rfl) (by simp) (AllReadyH.cons (o := { dst := some 47, op := Op.call { callee := Callee.value (Operand.func 15), args := #[Operand.tmp 46], argTypes := #[25] }, type := 4, pos := "law.go:31", after := #[{ on := 0, ground := Ground.data }], guard := none }) rfl (fun K hK => ?_) AllReadyH.nil)
        (go_simp; (go_at_call 15; (refine (St.call h50 (zero_any u _)).mono ?_); rintro e V1r10 ⟨rfl, h51r10⟩))
        refine hK.out _ _ ?_ (fun hHeld => ?_)
        · (first | exact h51r10 | exact h51r10.tl)
        clear hK K
        try simp only [Act.put, List.setIfInBounds_toArray, List.set_cons_zero, List.set_cons_succ]
        refine wpAnyH_ready (rs := [3]) (by kernel_rfl) (by simp) (AllReadyH.cons (o := { dst := some 49, op := Op.call { callee := Callee.value (Operand.func 16), args := #[Operand.tmp 48], argTypes := #[25] }, type := 4, pos := "law.go:31", after := #[{ on := 2, ground := Ground.data }, { on := 1, ground := Ground.chain }], guard := none }) rfl (fun K hK => ?_) AllReadyH.nil)
        (go_simp; (go_at_call 16; (refine (St.call h51r10 (refZero_any u _)).mono ?_); rintro e V2r10 ⟨rfl, h52r10⟩))
        refine hK.out _ _ ?_ (fun hHeld => ?_)
        · (first | exact h52r10 | exact h52r10.tl)
        clear hK K
        try simp only [Act.put, List.setIfInBounds_toArray, List.set_cons_zero, List.set_cons_succ]
        refine wpAnyH_take (i := 4) (oi := { dst := some 50, op := Op.binOp BinOp.neq 4 (Operand.tmp 47) (Operand.tmp 49) 4, type := 4, pos := "law.go:31", after := #[{ on := 1, ground := Ground.data }, { on := 3, ground := Ground.data }], guard := none }) rfl (by kernel_rfl) (by kernel_rfl) (by kernel_rfl) (fun _ _ _ h => h) (yields_neqb (by kernel_rfl) 4 (.tmp 47) (.tmp 49) 4 rfl (tz u) rfl rfl (fun V => HNB.out V (tz u))) (by assumption) ?_
        try simp only [Act.put, List.setIfInBounds_toArray, List.set_cons_zero, List.set_cons_succ]
        refine wpAnyH_take (i := 5) (oi := { dst := some 51, op := Op.move (Operand.tmp 50), type := 4, pos := "law.go:31", after := #[{ on := 4, ground := Ground.data }, { on := 3, ground := Ground.chain }], guard := none }) (v := ?_) rfl (by kernel_rfl) (by kernel_rfl) (by kernel_rfl) (fun _ _ _ h => h) (Or.inl ⟨by kernel_rfl, ?_⟩) (by assumption) ?_
        rotate_left 1
        focus (intro w hSw; (try dsimp only at hSw); go_simp; (try with_reducible rfl))
        try simp only [Act.put, List.setIfInBounds_toArray, List.set_cons_zero, List.set_cons_succ]
        refine wpAnyH_take (i := 6) (oi := { dst := some 52, op := Op.move (Operand.tmp 12), type := 4, pos := "law.go:31", after := #[{ on := 5, ground := Ground.guard }], guard := some (5, false) }) (v := ?_) rfl (by kernel_rfl) (by kernel_rfl) (by kernel_rfl) (fun _ _ _ h => h) (Or.inl ⟨by kernel_rfl, ?_⟩) (by assumption) ?_
        rotate_left 1
        focus (intro w hSw; (try dsimp only at hSw); go_simp; (try with_reducible rfl))
        try simp only [Act.put, List.setIfInBounds_toArray, List.set_cons_zero, List.set_cons_succ]
        refine wpAnyH_take (i := 7) (oi := { dst := some 53, op := Op.move (Operand.tmp 14), type := 4, pos := "law.go:31", after := #[{ on := 5, ground := Ground.guard }], guard := some (5, false) }) (v := ?_) rfl (by kernel_rfl) (by kernel_rfl) (by kernel_rfl) (fun _ _ _ h => h) (Or.inl ⟨by kernel_rfl, ?_⟩) (by assumption) ?_
        rotate_left 1
        focus (intro w hSw; (try dsimp only at hSw); go_simp; (try with_reducible rfl))
        try simp only [Act.put, List.setIfInBounds_toArray, List.set_cons_zero, List.set_cons_succ]
        refine wpAnyH_take (i := 8) (oi := { dst := some 54, op := Op.binOp BinOp.neq 4 (Operand.tmp 52) (Operand.tmp 53) 4, type := 4, pos := "law.go:31", after := #[{ on := 6, ground := Ground.data }, { on := 7, ground := Ground.data }, { on := 5, ground := Ground.guard }], guard := some (5, false) }) rfl (by kernel_rfl) (by kernel_rfl) (by kernel_rfl) (fun _ _ _ h => h) (yields_neqb (by kernel_rfl) 4 (.tmp 52) (.tmp 53) 4 rfl (sb u) rfl rfl (fun V => HNB.out V (sb u))) (by assumption) ?_
        try simp only [Act.put, List.setIfInBounds_toArray, List.set_cons_zero, List.set_cons_succ]
        refine wpAnyH_take (i := 9) (oi := { dst := some 55, op := Op.pick (Operand.tmp 51) (Operand.const (Value.bool true)) (Operand.tmp 54), type := 4, pos := "law.go:31", after := #[{ on := 5, ground := Ground.data }, { on := 8, ground := Ground.data }], guard := none }) (v := ?_) rfl (by kernel_rfl) (by kernel_rfl) (by kernel_rfl) (fun _ _ _ h => h) (Or.inl ⟨by kernel_rfl, ?_⟩) (by assumption) ?_
        rotate_left 1
        focus (intro w hSw; (try dsimp only at hSw); go_simp; (try with_reducible rfl))
        try simp only [Act.put, List.setIfInBounds_toArray, List.set_cons_zero, List.set_cons_succ]
        refine wpAnyH_take (i := 10) (oi := { dst := some 56, op := Op.move (Operand.tmp 55), type := 4, pos := "law.go:31", after := #[{ on := 9, ground := Ground.data }, { on := 5, ground := Ground.chain }], guard := none }) (v := ?_) rfl (by kernel_rfl) (by kernel_rfl) (by kernel_rfl) (fun _ _ _ h => h) (Or.inl ⟨by kernel_rfl, ?_⟩) (by assumption) ?_
        rotate_left 1
        focus (intro w hSw; (try dsimp only at hSw); go_simp; (try with_reducible rfl))
        try simp only [Act.put, List.setIfInBounds_toArray, List.set_cons_zero, List.set_cons_succ]
        refine wpAnyH_take (i := 11) (oi := { dst := some 57, op := Op.load 23 (Operand.tmp 11), type := 23, pos := "law.go:31", after := #[{ on := 10, ground := Ground.guard }], guard := some (10, false) }) rfl (by kernel_rfl) (by kernel_rfl) (by kernel_rfl) (fun _ _ _ h => h) (yields_load (by kernel_rfl) 23 (.tmp 11) rfl (sp u).v (fun V hV => ldp (b := b11) (p := sp u) hV (by simp))) (by assumption) ?_
        try simp only [Act.put, List.setIfInBounds_toArray, List.set_cons_zero, List.set_cons_succ]
        refine wpAnyH_take (i := 12) (oi := { dst := some 58, op := Op.load 23 (Operand.tmp 13), type := 23, pos := "law.go:31", after := #[{ on := 10, ground := Ground.guard }], guard := some (10, false) }) rfl (by kernel_rfl) (by kernel_rfl) (by kernel_rfl) (fun _ _ _ h => h) (yields_load (by kernel_rfl) 23 (.tmp 13) rfl (sp u).v (fun V hV => ldp (b := b13) (p := sp u) hV (by simp))) (by assumption) ?_
        try simp only [Act.put, List.setIfInBounds_toArray, List.set_cons_zero, List.set_cons_succ]
        refine wpAnyH_take (i := 13) (oi := { dst := some 59, op := Op.binOp BinOp.neq 23 (Operand.tmp 57) (Operand.tmp 58) 23, type := 4, pos := "law.go:31", after := #[{ on := 11, ground := Ground.data }, { on := 12, ground := Ground.data }, { on := 10, ground := Ground.guard }], guard := some (10, false) }) rfl (by kernel_rfl) (by kernel_rfl) (by kernel_rfl) (fun _ _ _ h => h) (yields_bin (by kernel_rfl) .neq 23 (.tmp 57) (.tmp 58) 23 rfl _ _ rfl rfl guard_px (.bool false) (fun V => HNP.out _ V)) (by assumption) ?_
        try simp only [Act.put, List.setIfInBounds_toArray, List.set_cons_zero, List.set_cons_succ]
        refine wpAnyH_take (i := 14) (oi := { dst := some 60, op := Op.pick (Operand.tmp 56) (Operand.const (Value.bool true)) (Operand.tmp 59), type := 4, pos := "law.go:31", after := #[{ on := 10, ground := Ground.data }, { on := 13, ground := Ground.data }], guard := none }) (v := ?_) rfl (by kernel_rfl) (by kernel_rfl) (by kernel_rfl) (fun _ _ _ h => h) (Or.inl ⟨by kernel_rfl, ?_⟩) (by assumption) ?_
        rotate_left 1
        focus (intro w hSw; (try dsimp only at hSw); go_simp; (try with_reducible rfl))
        try simp only [Act.put, List.setIfInBounds_toArray, List.set_cons_zero, List.set_cons_succ]
        refine wpAnyH_take (i := 15) (oi := { dst := some 61, op := Op.move (Operand.tmp 60), type := 4, pos := "law.go:31", after := #[{ on := 14, ground := Ground.data }, { on := 10, ground := Ground.chain }], guard := none }) (v := ?_) rfl (by kernel_rfl) (by kernel_rfl) (by kernel_rfl) (fun _ _ _ h => h) (Or.inl ⟨by kernel_rfl, ?_⟩) (by assumption) ?_
        rotate_left 1
        focus (intro w hSw; (try dsimp only at hSw); go_simp; (try with_reducible rfl))
        try simp only [Act.put, List.setIfInBounds_toArray, List.set_cons_zero, List.set_cons_succ]
        refine wpAnyH_take (i := 16) (oi := { dst := some 62, op := Op.load 25 (Operand.tmp 10), type := 25, pos := "law.go:31", after := #[{ on := 15, ground := Ground.guard }], guard := some (15, false) }) rfl (by kernel_rfl) (by kernel_rfl) (by kernel_rfl) (fun _ _ _ h => h) (yields_load (by kernel_rfl) 25 (.tmp 10) rfl (tv (u)) (fun V hV => ld (b := b10) (f := u) hV (by simp))) (by assumption) ?_
        try simp only [Act.put, List.setIfInBounds_toArray, List.set_cons_zero, List.set_cons_succ]
        refine wpAnyH_take (i := 18) (oi := { dst := some 64, op := Op.load 25 (Operand.tmp 10), type := 25, pos := "law.go:31", after := #[{ on := 15, ground := Ground.guard }], guard := some (15, false) }) rfl (by kernel_rfl) (by kernel_rfl) (by kernel_rfl) (fun _ _ _ h => h) (yields_load (by kernel_rfl) 25 (.tmp 10) rfl (tv (u)) (fun V hV => ld (b := b10) (f := u) hV (by simp))) (by assumption) ?_
        try simp only [Act.put, List.setIfInBounds_toArray, List.set_cons_zero, List.set_cons_succ]
        refine wpAnyH_ready (rs := [17]) (by kernel_rfl) (by simp) (AllReadyH.cons (o := { dst := some 63, op := Op.call { callee := Callee.value (Operand.func 17), args := #[Operand.tmp 62], argTypes := #[25] }, type := 25, pos := "law.go:31", after := #[{ on := 16, ground := Ground.data }, { on := 15, ground := Ground.chain }, { on := 15, ground := Ground.guard }], guard := some (15, false) }) rfl (fun K hK => ?_) AllReadyH.nil)
        (go_simp; (go_at_call 17; (refine (St.call h52r10 (tclean_any u _)).mono ?_); rintro e V3r10 ⟨rfl, h53r10⟩))
        refine hK.out _ _ ?_ (fun hHeld => ?_)
        · (first | exact h53r10 | exact h53r10.tl)
        clear hK K
        try simp only [Act.put, List.setIfInBounds_toArray, List.set_cons_zero, List.set_cons_succ]
        refine wpAnyH_ready (rs := [19]) (by kernel_rfl) (by simp) (AllReadyH.cons (o := { dst := some 65, op := Op.call { callee := Callee.value (Operand.func 18), args := #[Operand.tmp 64], argTypes := #[25] }, type := 25, pos := "law.go:31", after := #[{ on := 18, ground := Ground.data }, { on := 17, ground := Ground.chain }, { on := 15, ground := Ground.guard }], guard := some (15, false) }) rfl (fun K hK => ?_) AllReadyH.nil)
        (go_simp; (go_at_call 18; (refine (St.call h53r10 (refTClean_any u _)).mono ?_); rintro e V4r10 ⟨rfl, h54r10⟩))
        refine hK.out _ _ ?_ (fun hHeld => ?_)
        · (first | exact h54r10 | exact h54r10.tl)
        clear hK K
        try simp only [Act.put, List.setIfInBounds_toArray, List.set_cons_zero, List.set_cons_succ]
        refine wpAnyH_take (i := 20) (oi := { dst := some 66, op := Op.binOp BinOp.neq 25 (Operand.tmp 63) (Operand.tmp 65) 25, type := 4, pos := "law.go:31", after := #[{ on := 17, ground := Ground.data }, { on := 19, ground := Ground.data }, { on := 15, ground := Ground.guard }], guard := some (15, false) }) rfl (by kernel_rfl) (by kernel_rfl) (by kernel_rfl) (fun _ _ _ h => h) (yields_bin (by kernel_rfl) .neq 25 (.tmp 63) (.tmp 65) 25 rfl _ _ rfl rfl guard_tile (.bool false) (fun V => HNT.out _ V)) (by assumption) ?_
        try simp only [Act.put, List.setIfInBounds_toArray, List.set_cons_zero, List.set_cons_succ]
        refine wpAnyH_take (i := 21) (oi := { dst := some 67, op := Op.pick (Operand.tmp 61) (Operand.const (Value.bool true)) (Operand.tmp 66), type := 4, pos := "law.go:31", after := #[{ on := 15, ground := Ground.data }, { on := 20, ground := Ground.data }], guard := none }) (v := ?_) rfl (by kernel_rfl) (by kernel_rfl) (by kernel_rfl) (fun _ _ _ h => h) (Or.inl ⟨by kernel_rfl, ?_⟩) (by assumption) ?_
        rotate_left 1
        focus (intro w hSw; (try dsimp only at hSw); go_simp; (try with_reducible rfl))
        try simp only [Act.put, List.setIfInBounds_toArray, List.set_cons_zero, List.set_cons_succ]
        refine wpAnyH_take (i := 22) (oi := { dst := some 68, op := Op.move (Operand.tmp 67), type := 4, pos := "law.go:31", after := #[{ on := 21, ground := Ground.data }, { on := 19, ground := Ground.chain }], guard := none }) (v := ?_) rfl (by kernel_rfl) (by kernel_rfl) (by kernel_rfl) (fun _ _ _ h => h) (Or.inl ⟨by kernel_rfl, ?_⟩) (by assumption) ?_
        rotate_left 1
        focus (intro w hSw; (try dsimp only at hSw); go_simp; (try with_reducible rfl))
        try simp only [Act.put, List.setIfInBounds_toArray, List.set_cons_zero, List.set_cons_succ]
        refine wpAnyH_take (i := 23) (oi := { dst := some 69, op := Op.load 25 (Operand.tmp 10), type := 25, pos := "law.go:31", after := #[{ on := 22, ground := Ground.guard }], guard := some (22, false) }) rfl (by kernel_rfl) (by kernel_rfl) (by kernel_rfl) (fun _ _ _ h => h) (yields_load (by kernel_rfl) 25 (.tmp 10) rfl (tv (u)) (fun V hV => ld (b := b10) (f := u) hV (by simp))) (by assumption) ?_
        try simp only [Act.put, List.setIfInBounds_toArray, List.set_cons_zero, List.set_cons_succ]
        refine wpAnyH_take (i := 24) (oi := { dst := some 70, op := Op.indexAddr 26 (Operand.tmp 5) (Operand.const (Value.int IntKind.i64 0)), type := 0, pos := "law.go:31", after := #[{ on := 22, ground := Ground.guard }], guard := some (22, false) }) (v := ?_) rfl (by kernel_rfl) (by kernel_rfl) (by kernel_rfl) (fun _ _ _ h => h) (Or.inl ⟨by kernel_rfl, ?_⟩) (by assumption) ?_
        rotate_left 1
        focus (intro w hSw; (try dsimp only at hSw); go_simp; (try with_reducible rfl))
        try simp only [Act.put, List.setIfInBounds_toArray, List.set_cons_zero, List.set_cons_succ]
        refine wpAnyH_take (i := 25) (oi := { dst := some 71, op := Op.load 3 (Operand.tmp 70), type := 3, pos := "law.go:31", after := #[{ on := 24, ground := Ground.data }, { on := 22, ground := Ground.guard }], guard := some (22, false) }) rfl (by kernel_rfl) (by kernel_rfl) (by kernel_rfl) (fun _ _ _ h => h) (yields_load (by kernel_rfl) 3 (.tmp 70) rfl (.int .i64 x) (fun V hV => (ldc (b := w.heap.size + 1 + 1) (x := x) (y := y) hV (by simp)).1)) (by assumption) ?_
        try simp only [Act.put, List.setIfInBounds_toArray, List.set_cons_zero, List.set_cons_succ]
        refine wpAnyH_take (i := 26) (oi := { dst := some 72, op := Op.indexAddr 26 (Operand.tmp 5) (Operand.const (Value.int IntKind.i64 1)), type := 0, pos := "law.go:31", after := #[{ on := 22, ground := Ground.guard }], guard := some (22, false) }) (v := ?_) rfl (by kernel_rfl) (by kernel_rfl) (by kernel_rfl) (fun _ _ _ h => h) (Or.inl ⟨by kernel_rfl, ?_⟩) (by assumption) ?_
        rotate_left 1
        focus (intro w hSw; (try dsimp only at hSw); go_simp; (try with_reducible rfl))
        try simp only [Act.put, List.setIfInBounds_toArray, List.set_cons_zero, List.set_cons_succ]
        refine wpAnyH_take (i := 27) (oi := { dst := some 73, op := Op.load 3 (Operand.tmp 72), type := 3, pos := "law.go:31", after := #[{ on := 26, ground := Ground.data }, { on := 22, ground := Ground.guard }], guard := some (22, false) }) rfl (by kernel_rfl) (by kernel_rfl) (by kernel_rfl) (fun _ _ _ h => h) (yields_load (by kernel_rfl) 3 (.tmp 72) rfl (.int .i64 y) (fun V hV => (ldc (b := w.heap.size + 1 + 1) (x := x) (y := y) hV (by simp)).2)) (by assumption) ?_
        try simp only [Act.put, List.setIfInBounds_toArray, List.set_cons_zero, List.set_cons_succ]
        refine wpAnyH_take (i := 29) (oi := { dst := some 75, op := Op.load 25 (Operand.tmp 10), type := 25, pos := "law.go:31", after := #[{ on := 22, ground := Ground.guard }], guard := some (22, false) }) rfl (by kernel_rfl) (by kernel_rfl) (by kernel_rfl) (fun _ _ _ h => h) (yields_load (by kernel_rfl) 25 (.tmp 10) rfl (tv (u)) (fun V hV => ld (b := b10) (f := u) hV (by simp))) (by assumption) ?_
        try simp only [Act.put, List.setIfInBounds_toArray, List.set_cons_zero, List.set_cons_succ]
        refine wpAnyH_take (i := 30) (oi := { dst := some 76, op := Op.indexAddr 26 (Operand.tmp 5) (Operand.const (Value.int IntKind.i64 0)), type := 0, pos := "law.go:31", after := #[{ on := 22, ground := Ground.guard }], guard := some (22, false) }) (v := ?_) rfl (by kernel_rfl) (by kernel_rfl) (by kernel_rfl) (fun _ _ _ h => h) (Or.inl ⟨by kernel_rfl, ?_⟩) (by assumption) ?_
        rotate_left 1
        focus (intro w hSw; (try dsimp only at hSw); go_simp; (try with_reducible rfl))
        try simp only [Act.put, List.setIfInBounds_toArray, List.set_cons_zero, List.set_cons_succ]
        refine wpAnyH_take (i := 31) (oi := { dst := some 77, op := Op.load 3 (Operand.tmp 76), type := 3, pos := "law.go:31", after := #[{ on := 30, ground := Ground.data }, { on := 22, ground := Ground.guard }], guard := some (22, false) }) rfl (by kernel_rfl) (by kernel_rfl) (by kernel_rfl) (fun _ _ _ h => h) (yields_load (by kernel_rfl) 3 (.tmp 76) rfl (.int .i64 x) (fun V hV => (ldc (b := w.heap.size + 1 + 1) (x := x) (y := y) hV (by simp)).1)) (by assumption) ?_
        try simp only [Act.put, List.setIfInBounds_toArray, List.set_cons_zero, List.set_cons_succ]
        refine wpAnyH_take (i := 32) (oi := { dst := some 78, op := Op.indexAddr 26 (Operand.tmp 5) (Operand.const (Value.int IntKind.i64 1)), type := 0, pos := "law.go:31", after := #[{ on := 22, ground := Ground.guard }], guard := some (22, false) }) (v := ?_) rfl (by kernel_rfl) (by kernel_rfl) (by kernel_rfl) (fun _ _ _ h => h) (Or.inl ⟨by kernel_rfl, ?_⟩) (by assumption) ?_
        rotate_left 1
        focus (intro w hSw; (try dsimp only at hSw); go_simp; (try with_reducible rfl))
        try simp only [Act.put, List.setIfInBounds_toArray, List.set_cons_zero, List.set_cons_succ]
        refine wpAnyH_take (i := 33) (oi := { dst := some 79, op := Op.load 3 (Operand.tmp 78), type := 3, pos := "law.go:31", after := #[{ on := 32, ground := Ground.data }, { on := 22, ground := Ground.guard }], guard := some (22, false) }) rfl (by kernel_rfl) (by kernel_rfl) (by kernel_rfl) (fun _ _ _ h => h) (yields_load (by kernel_rfl) 3 (.tmp 78) rfl (.int .i64 y) (fun V hV => (ldc (b := w.heap.size + 1 + 1) (x := x) (y := y) hV (by simp)).2)) (by assumption) ?_
        try simp only [Act.put, List.setIfInBounds_toArray, List.set_cons_zero, List.set_cons_succ]
        refine wpAnyH_ready (rs := [28]) (by kernel_rfl) (by simp) (AllReadyH.cons (o := { dst := some 74, op := Op.call { callee := Callee.value (Operand.func 19), args := #[Operand.tmp 69, Operand.tmp 71, Operand.tmp 73], argTypes := #[25, 3, 3] }, type := 23, pos := "law.go:31", after := #[{ on := 23, ground := Ground.data }, { on := 25, ground := Ground.data }, { on := 27, ground := Ground.data }, { on := 22, ground := Ground.chain }, { on := 22, ground := Ground.guard }], guard := some (22, false) }) rfl (fun K hK => ?_) AllReadyH.nil)
        (go_simp; (go_at_call 19; (refine (St.call h54r10 (get_any u x y _)).mono ?_); rintro e V5r10 ⟨rfl, h55r10⟩))
        refine hK.out _ _ ?_ (fun hHeld => ?_)
        · (first | exact h55r10 | exact h55r10.tl)
        clear hK K
        try simp only [Act.put, List.setIfInBounds_toArray, List.set_cons_zero, List.set_cons_succ]
        refine wpAnyH_ready (rs := [34]) (by kernel_rfl) (by simp) (AllReadyH.cons (o := { dst := some 80, op := Op.call { callee := Callee.value (Operand.func 20), args := #[Operand.tmp 75, Operand.tmp 77, Operand.tmp 79], argTypes := #[25, 3, 3] }, type := 23, pos := "law.go:31", after := #[{ on := 29, ground := Ground.data }, { on := 31, ground := Ground.data }, { on := 33, ground := Ground.data }, { on := 28, ground := Ground.chain }, { on := 22, ground := Ground.guard }], guard := some (22, false) }) rfl (fun K hK => ?_) AllReadyH.nil)
        (go_simp; (go_at_call 20; (refine (St.call h55r10 (refGet_any u x y _)).mono ?_); rintro e V6r10 ⟨rfl, h56r10⟩))
        refine hK.out _ _ ?_ (fun hHeld => ?_)
        · (first | exact h56r10 | exact h56r10.tl)
        clear hK K
        try simp only [Act.put, List.setIfInBounds_toArray, List.set_cons_zero, List.set_cons_succ]
        refine wpAnyH_take (i := 35) (oi := { dst := some 81, op := Op.binOp BinOp.neq 23 (Operand.tmp 74) (Operand.tmp 80) 23, type := 4, pos := "law.go:31", after := #[{ on := 28, ground := Ground.data }, { on := 34, ground := Ground.data }, { on := 22, ground := Ground.guard }], guard := some (22, false) }) rfl (by kernel_rfl) (by kernel_rfl) (by kernel_rfl) (fun _ _ _ h => h) (yields_bin (by kernel_rfl) .neq 23 (.tmp 74) (.tmp 80) 23 rfl _ _ rfl rfl guard_px (.bool false) (fun V => HNP.out _ V)) (by assumption) ?_
        try simp only [Act.put, List.setIfInBounds_toArray, List.set_cons_zero, List.set_cons_succ]
        refine wpAnyH_take (i := 36) (oi := { dst := some 82, op := Op.pick (Operand.tmp 68) (Operand.const (Value.bool true)) (Operand.tmp 81), type := 4, pos := "law.go:31", after := #[{ on := 22, ground := Ground.data }, { on := 35, ground := Ground.data }], guard := none }) (v := ?_) rfl (by kernel_rfl) (by kernel_rfl) (by kernel_rfl) (fun _ _ _ h => h) (Or.inl ⟨by kernel_rfl, ?_⟩) (by assumption) ?_
        rotate_left 1
        focus (intro w hSw; (try dsimp only at hSw); go_simp; (try with_reducible rfl))
        try simp only [Act.put, List.setIfInBounds_toArray, List.set_cons_zero, List.set_cons_succ]
        refine wpAnyH_take (i := 37) (oi := { dst := some 83, op := Op.move (Operand.tmp 82), type := 4, pos := "law.go:31", after := #[{ on := 36, ground := Ground.data }, { on := 34, ground := Ground.chain }], guard := none }) (v := ?_) rfl (by kernel_rfl) (by kernel_rfl) (by kernel_rfl) (fun _ _ _ h => h) (Or.inl ⟨by kernel_rfl, ?_⟩) (by assumption) ?_
        rotate_left 1
        focus (intro w hSw; (try dsimp only at hSw); go_simp; (try with_reducible rfl))
        try simp only [Act.put, List.setIfInBounds_toArray, List.set_cons_zero, List.set_cons_succ]
        refine wpAnyH_take (i := 38) (oi := { dst := some 84, op := Op.load 25 (Operand.tmp 10), type := 25, pos := "law.go:31", after := #[{ on := 37, ground := Ground.guard }], guard := some (37, false) }) rfl (by kernel_rfl) (by kernel_rfl) (by kernel_rfl) (fun _ _ _ h => h) (yields_load (by kernel_rfl) 25 (.tmp 10) rfl (tv (u)) (fun V hV => ld (b := b10) (f := u) hV (by simp))) (by assumption) ?_
        try simp only [Act.put, List.setIfInBounds_toArray, List.set_cons_zero, List.set_cons_succ]
        refine wpAnyH_take (i := 39) (oi := { dst := some 85, op := Op.indexAddr 26 (Operand.tmp 15) (Operand.const (Value.int IntKind.i64 0)), type := 0, pos := "law.go:31", after := #[{ on := 37, ground := Ground.guard }], guard := some (37, false) }) (v := ?_) rfl (by kernel_rfl) (by kernel_rfl) (by kernel_rfl) (fun _ _ _ h => h) (Or.inl ⟨by kernel_rfl, ?_⟩) (by assumption) ?_
        rotate_left 1
        focus (intro w hSw; (try dsimp only at hSw); go_simp; (try with_reducible rfl))
        try simp only [Act.put, List.setIfInBounds_toArray, List.set_cons_zero, List.set_cons_succ]
        refine wpAnyH_take (i := 40) (oi := { dst := some 86, op := Op.load 3 (Operand.tmp 85), type := 3, pos := "law.go:31", after := #[{ on := 39, ground := Ground.data }, { on := 37, ground := Ground.guard }], guard := some (37, false) }) rfl (by kernel_rfl) (by kernel_rfl) (by kernel_rfl) (fun _ _ _ h => h) (yields_load (by kernel_rfl) 3 (.tmp 85) rfl (.int .i64 nx) (fun V hV => (ldc (b := b15) (x := nx) (y := ny) hV (by simp)).1)) (by assumption) ?_
        try simp only [Act.put, List.setIfInBounds_toArray, List.set_cons_zero, List.set_cons_succ]
        refine wpAnyH_take (i := 41) (oi := { dst := some 87, op := Op.indexAddr 26 (Operand.tmp 15) (Operand.const (Value.int IntKind.i64 1)), type := 0, pos := "law.go:31", after := #[{ on := 37, ground := Ground.guard }], guard := some (37, false) }) (v := ?_) rfl (by kernel_rfl) (by kernel_rfl) (by kernel_rfl) (fun _ _ _ h => h) (Or.inl ⟨by kernel_rfl, ?_⟩) (by assumption) ?_
        rotate_left 1
        focus (intro w hSw; (try dsimp only at hSw); go_simp; (try with_reducible rfl))
        try simp only [Act.put, List.setIfInBounds_toArray, List.set_cons_zero, List.set_cons_succ]
        refine wpAnyH_take (i := 42) (oi := { dst := some 88, op := Op.load 3 (Operand.tmp 87), type := 3, pos := "law.go:31", after := #[{ on := 41, ground := Ground.data }, { on := 37, ground := Ground.guard }], guard := some (37, false) }) rfl (by kernel_rfl) (by kernel_rfl) (by kernel_rfl) (fun _ _ _ h => h) (yields_load (by kernel_rfl) 3 (.tmp 87) rfl (.int .i64 ny) (fun V hV => (ldc (b := b15) (x := nx) (y := ny) hV (by simp)).2)) (by assumption) ?_
        try simp only [Act.put, List.setIfInBounds_toArray, List.set_cons_zero, List.set_cons_succ]
        refine wpAnyH_take (i := 44) (oi := { dst := some 90, op := Op.load 25 (Operand.tmp 10), type := 25, pos := "law.go:31", after := #[{ on := 37, ground := Ground.guard }], guard := some (37, false) }) rfl (by kernel_rfl) (by kernel_rfl) (by kernel_rfl) (fun _ _ _ h => h) (yields_load (by kernel_rfl) 25 (.tmp 10) rfl (tv (u)) (fun V hV => ld (b := b10) (f := u) hV (by simp))) (by assumption) ?_
        try simp only [Act.put, List.setIfInBounds_toArray, List.set_cons_zero, List.set_cons_succ]
        refine wpAnyH_take (i := 45) (oi := { dst := some 91, op := Op.indexAddr 26 (Operand.tmp 15) (Operand.const (Value.int IntKind.i64 0)), type := 0, pos := "law.go:31", after := #[{ on := 37, ground := Ground.guard }], guard := some (37, false) }) (v := ?_) rfl (by kernel_rfl) (by kernel_rfl) (by kernel_rfl) (fun _ _ _ h => h) (Or.inl ⟨by kernel_rfl, ?_⟩) (by assumption) ?_
        rotate_left 1
        focus (intro w hSw; (try dsimp only at hSw); go_simp; (try with_reducible rfl))
        try simp only [Act.put, List.setIfInBounds_toArray, List.set_cons_zero, List.set_cons_succ]
        refine wpAnyH_take (i := 46) (oi := { dst := some 92, op := Op.load 3 (Operand.tmp 91), type := 3, pos := "law.go:31", after := #[{ on := 45, ground := Ground.data }, { on := 37, ground := Ground.guard }], guard := some (37, false) }) rfl (by kernel_rfl) (by kernel_rfl) (by kernel_rfl) (fun _ _ _ h => h) (yields_load (by kernel_rfl) 3 (.tmp 91) rfl (.int .i64 nx) (fun V hV => (ldc (b := b15) (x := nx) (y := ny) hV (by simp)).1)) (by assumption) ?_
        try simp only [Act.put, List.setIfInBounds_toArray, List.set_cons_zero, List.set_cons_succ]
        refine wpAnyH_take (i := 47) (oi := { dst := some 93, op := Op.indexAddr 26 (Operand.tmp 15) (Operand.const (Value.int IntKind.i64 1)), type := 0, pos := "law.go:31", after := #[{ on := 37, ground := Ground.guard }], guard := some (37, false) }) (v := ?_) rfl (by kernel_rfl) (by kernel_rfl) (by kernel_rfl) (fun _ _ _ h => h) (Or.inl ⟨by kernel_rfl, ?_⟩) (by assumption) ?_
        rotate_left 1
        focus (intro w hSw; (try dsimp only at hSw); go_simp; (try with_reducible rfl))
        try simp only [Act.put, List.setIfInBounds_toArray, List.set_cons_zero, List.set_cons_succ]
        refine wpAnyH_take (i := 48) (oi := { dst := some 94, op := Op.load 3 (Operand.tmp 93), type := 3, pos := "law.go:31", after := #[{ on := 47, ground := Ground.data }, { on := 37, ground := Ground.guard }], guard := some (37, false) }) rfl (by kernel_rfl) (by kernel_rfl) (by kernel_rfl) (fun _ _ _ h => h) (yields_load (by kernel_rfl) 3 (.tmp 93) rfl (.int .i64 ny) (fun V hV => (ldc (b := b15) (x := nx) (y := ny) hV (by simp)).2)) (by assumption) ?_
        try simp only [Act.put, List.setIfInBounds_toArray, List.set_cons_zero, List.set_cons_succ]
        refine wpAnyH_ready (rs := [43]) (by kernel_rfl) (by simp) (AllReadyH.cons (o := { dst := some 89, op := Op.call { callee := Callee.value (Operand.func 19), args := #[Operand.tmp 84, Operand.tmp 86, Operand.tmp 88], argTypes := #[25, 3, 3] }, type := 23, pos := "law.go:31", after := #[{ on := 38, ground := Ground.data }, { on := 40, ground := Ground.data }, { on := 42, ground := Ground.data }, { on := 37, ground := Ground.chain }, { on := 37, ground := Ground.guard }], guard := some (37, false) }) rfl (fun K hK => ?_) AllReadyH.nil)
        (go_simp; (go_at_call 19; (refine (St.call h56r10 (get_any u nx ny _)).mono ?_); rintro e V7r10 ⟨rfl, h57r10⟩))
        refine hK.out _ _ ?_ (fun hHeld => ?_)
        · (first | exact h57r10 | exact h57r10.tl)
        clear hK K
        try simp only [Act.put, List.setIfInBounds_toArray, List.set_cons_zero, List.set_cons_succ]
        refine wpAnyH_ready (rs := [49]) (by kernel_rfl) (by simp) (AllReadyH.cons (o := { dst := some 95, op := Op.call { callee := Callee.value (Operand.func 20), args := #[Operand.tmp 90, Operand.tmp 92, Operand.tmp 94], argTypes := #[25, 3, 3] }, type := 23, pos := "law.go:31", after := #[{ on := 44, ground := Ground.data }, { on := 46, ground := Ground.data }, { on := 48, ground := Ground.data }, { on := 43, ground := Ground.chain }, { on := 37, ground := Ground.guard }], guard := some (37, false) }) rfl (fun K hK => ?_) AllReadyH.nil)
        (go_simp; (go_at_call 20; (refine (St.call h57r10 (refGet_any u nx ny _)).mono ?_); rintro e V8r10 ⟨rfl, h58r10⟩))
        refine hK.out _ _ ?_ (fun hHeld => ?_)
        · (first | exact h58r10 | exact h58r10.tl)
        clear hK K
        try simp only [Act.put, List.setIfInBounds_toArray, List.set_cons_zero, List.set_cons_succ]
        refine wpAnyH_take (i := 50) (oi := { dst := some 96, op := Op.binOp BinOp.neq 23 (Operand.tmp 89) (Operand.tmp 95) 23, type := 4, pos := "law.go:31", after := #[{ on := 43, ground := Ground.data }, { on := 49, ground := Ground.data }, { on := 37, ground := Ground.guard }], guard := some (37, false) }) rfl (by kernel_rfl) (by kernel_rfl) (by kernel_rfl) (fun _ _ _ h => h) (yields_bin (by kernel_rfl) .neq 23 (.tmp 89) (.tmp 95) 23 rfl _ _ rfl rfl guard_px (.bool false) (fun V => HNP.out _ V)) (by assumption) ?_
        try simp only [Act.put, List.setIfInBounds_toArray, List.set_cons_zero, List.set_cons_succ]
        refine wpAnyH_take (i := 51) (oi := { dst := some 97, op := Op.pick (Operand.tmp 83) (Operand.const (Value.bool true)) (Operand.tmp 96), type := 4, pos := "law.go:31", after := #[{ on := 37, ground := Ground.data }, { on := 50, ground := Ground.data }], guard := none }) (v := ?_) rfl (by kernel_rfl) (by kernel_rfl) (by kernel_rfl) (fun _ _ _ h => h) (Or.inl ⟨by kernel_rfl, ?_⟩) (by assumption) ?_
        rotate_left 1
        focus (intro w hSw; (try dsimp only at hSw); go_simp; (try with_reducible rfl))
        try simp only [Act.put, List.setIfInBounds_toArray, List.set_cons_zero, List.set_cons_succ]
        refine wpAnyH_done (by kernel_rfl) ?_ _
        have H7 := Lib.hid h58r10
        go_upto_region 12 with fail
        have h6 := H7.out
        refine wp_region_held_drew (S := fun V9 => St w ((b15, p2o nx ny) :: ((b13, pxo (sp u)) :: ((b11, pxo (sp u)) :: ((b10, tob u) :: ((b8, t3 (G3 f (fun _ => p) z0)) :: [(w.heap.size + 1 + 1, p2o x y), (w.heap.size + 1, pxo p), (w.heap.size, tob f)]))))) V9) (by kernel_rfl) ?_ (fun hHeld => ?_)
        · first | exact h6.drew | exact h6.drew.tl
        have h60 := h6.drew
        refine wpAnyH_take (i := 0) (oi := { dst := some 98, op := Op.load 25 (Operand.tmp 10), type := 25, pos := "law.go:34", after := #[], guard := none }) rfl (by kernel_rfl) (by kernel_rfl) (by kernel_rfl) (fun _ _ _ h => h) (yields_load (by kernel_rfl) 25 (.tmp 10) rfl (tv (u)) (fun V hV => ld (b := b10) (f := u) hV (by simp))) (by assumption) ?_
        try simp only [Act.put, List.setIfInBounds_toArray, List.set_cons_zero, List.set_cons_succ]
        refine wpAnyH_take (i := 1) (oi := { dst := some 99, op := Op.indexAddr 26 (Operand.tmp 5) (Operand.const (Value.int IntKind.i64 0)), type := 0, pos := "law.go:34", after := #[], guard := none }) (v := ?_) rfl (by kernel_rfl) (by kernel_rfl) (by kernel_rfl) (fun _ _ _ h => h) (Or.inl ⟨by kernel_rfl, ?_⟩) (by assumption) ?_
        rotate_left 1
        focus (intro w hSw; (try dsimp only at hSw); go_simp; (try with_reducible rfl))
        try simp only [Act.put, List.setIfInBounds_toArray, List.set_cons_zero, List.set_cons_succ]
        refine wpAnyH_take (i := 2) (oi := { dst := some 100, op := Op.load 3 (Operand.tmp 99), type := 3, pos := "law.go:34", after := #[{ on := 1, ground := Ground.data }], guard := none }) rfl (by kernel_rfl) (by kernel_rfl) (by kernel_rfl) (fun _ _ _ h => h) (yields_load (by kernel_rfl) 3 (.tmp 99) rfl (.int .i64 x) (fun V hV => (ldc (b := w.heap.size + 1 + 1) (x := x) (y := y) hV (by simp)).1)) (by assumption) ?_
        try simp only [Act.put, List.setIfInBounds_toArray, List.set_cons_zero, List.set_cons_succ]
        refine wpAnyH_take (i := 3) (oi := { dst := some 101, op := Op.indexAddr 26 (Operand.tmp 5) (Operand.const (Value.int IntKind.i64 1)), type := 0, pos := "law.go:34", after := #[], guard := none }) (v := ?_) rfl (by kernel_rfl) (by kernel_rfl) (by kernel_rfl) (fun _ _ _ h => h) (Or.inl ⟨by kernel_rfl, ?_⟩) (by assumption) ?_
        rotate_left 1
        focus (intro w hSw; (try dsimp only at hSw); go_simp; (try with_reducible rfl))
        try simp only [Act.put, List.setIfInBounds_toArray, List.set_cons_zero, List.set_cons_succ]
        refine wpAnyH_take (i := 4) (oi := { dst := some 102, op := Op.load 3 (Operand.tmp 101), type := 3, pos := "law.go:34", after := #[{ on := 3, ground := Ground.data }], guard := none }) rfl (by kernel_rfl) (by kernel_rfl) (by kernel_rfl) (fun _ _ _ h => h) (yields_load (by kernel_rfl) 3 (.tmp 101) rfl (.int .i64 y) (fun V hV => (ldc (b := w.heap.size + 1 + 1) (x := x) (y := y) hV (by simp)).2)) (by assumption) ?_
        try simp only [Act.put, List.setIfInBounds_toArray, List.set_cons_zero, List.set_cons_succ]
        refine wpAnyH_take (i := 5) (oi := { dst := some 103, op := Op.load 23 (Operand.tmp 4), type := 23, pos := "law.go:34", after := #[], guard := none }) rfl (by kernel_rfl) (by kernel_rfl) (by kernel_rfl) (fun _ _ _ h => h) (yields_load (by kernel_rfl) 23 (.tmp 4) rfl (p).v (fun V hV => ldp (b := w.heap.size + 1) (p := p) hV (by simp))) (by assumption) ?_
        try simp only [Act.put, List.setIfInBounds_toArray, List.set_cons_zero, List.set_cons_succ]
        refine wpAnyH_take (i := 7) (oi := { dst := some 105, op := Op.load 25 (Operand.tmp 10), type := 25, pos := "law.go:34", after := #[], guard := none }) rfl (by kernel_rfl) (by kernel_rfl) (by kernel_rfl) (fun _ _ _ h => h) (yields_load (by kernel_rfl) 25 (.tmp 10) rfl (tv (u)) (fun V hV => ld (b := b10) (f := u) hV (by simp))) (by assumption) ?_
        try simp only [Act.put, List.setIfInBounds_toArray, List.set_cons_zero, List.set_cons_succ]
        refine wpAnyH_take (i := 8) (oi := { dst := some 106, op := Op.indexAddr 26 (Operand.tmp 5) (Operand.const (Value.int IntKind.i64 0)), type := 0, pos := "law.go:34", after := #[], guard := none }) (v := ?_) rfl (by kernel_rfl) (by kernel_rfl) (by kernel_rfl) (fun _ _ _ h => h) (Or.inl ⟨by kernel_rfl, ?_⟩) (by assumption) ?_
        rotate_left 1
        focus (intro w hSw; (try dsimp only at hSw); go_simp; (try with_reducible rfl))
        try simp only [Act.put, List.setIfInBounds_toArray, List.set_cons_zero, List.set_cons_succ]
        refine wpAnyH_take (i := 9) (oi := { dst := some 107, op := Op.load 3 (Operand.tmp 106), type := 3, pos := "law.go:34", after := #[{ on := 8, ground := Ground.data }], guard := none }) rfl (by kernel_rfl) (by kernel_rfl) (by kernel_rfl) (fun _ _ _ h => h) (yields_load (by kernel_rfl) 3 (.tmp 106) rfl (.int .i64 x) (fun V hV => (ldc (b := w.heap.size + 1 + 1) (x := x) (y := y) hV (by simp)).1)) (by assumption) ?_
        try simp only [Act.put, List.setIfInBounds_toArray, List.set_cons_zero, List.set_cons_succ]
        refine wpAnyH_take (i := 10) (oi := { dst := some 108, op := Op.indexAddr 26 (Operand.tmp 5) (Operand.const (Value.int IntKind.i64 1)), type := 0, pos := "law.go:34", after := #[], guard := none }) (v := ?_) rfl (by kernel_rfl) (by kernel_rfl) (by kernel_rfl) (fun _ _ _ h => h) (Or.inl ⟨by kernel_rfl, ?_⟩) (by assumption) ?_
        rotate_left 1
        focus (intro w hSw; (try dsimp only at hSw); go_simp; (try with_reducible rfl))
        try simp only [Act.put, List.setIfInBounds_toArray, List.set_cons_zero, List.set_cons_succ]
        refine wpAnyH_take (i := 11) (oi := { dst := some 109, op := Op.load 3 (Operand.tmp 108), type := 3, pos := "law.go:34", after := #[{ on := 10, ground := Ground.data }], guard := none }) rfl (by kernel_rfl) (by kernel_rfl) (by kernel_rfl) (fun _ _ _ h => h) (yields_load (by kernel_rfl) 3 (.tmp 108) rfl (.int .i64 y) (fun V hV => (ldc (b := w.heap.size + 1 + 1) (x := x) (y := y) hV (by simp)).2)) (by assumption) ?_
        try simp only [Act.put, List.setIfInBounds_toArray, List.set_cons_zero, List.set_cons_succ]
        refine wpAnyH_take (i := 12) (oi := { dst := some 110, op := Op.load 23 (Operand.tmp 4), type := 23, pos := "law.go:34", after := #[], guard := none }) rfl (by kernel_rfl) (by kernel_rfl) (by kernel_rfl) (fun _ _ _ h => h) (yields_load (by kernel_rfl) 23 (.tmp 4) rfl (p).v (fun V hV => ldp (b := w.heap.size + 1) (p := p) hV (by simp))) (by assumption) ?_
        try simp only [Act.put, List.setIfInBounds_toArray, List.set_cons_zero, List.set_cons_succ]
        refine wpAnyH_ready (rs := [6]) (by kernel_rfl) (by simp) (AllReadyH.cons (o := { dst := some 104, op := Op.call { callee := Callee.value (Operand.func 21), args := #[Operand.tmp 98, Operand.tmp 100, Operand.tmp 102, Operand.tmp 103], argTypes := #[25, 3, 3, 23] }, type := 25, pos := "law.go:34", after := #[{ on := 0, ground := Ground.data }, { on := 2, ground := Ground.data }, { on := 4, ground := Ground.data }, { on := 5, ground := Ground.data }], guard := none }) rfl (fun K hK => ?_) AllReadyH.nil)
        (go_simp; (go_at_call 21; (refine (St.call h60 (set_any u x y p _)).mono ?_); rintro e V1r12 ⟨rfl, h61r12⟩))
        refine hK.out _ _ ?_ (fun hHeld => ?_)
        · (first | exact h61r12 | exact h61r12.tl)
        clear hK K
        try simp only [Act.put, List.setIfInBounds_toArray, List.set_cons_zero, List.set_cons_succ]
        refine wpAnyH_ready (rs := [13]) (by kernel_rfl) (by simp) (AllReadyH.cons (o := { dst := some 111, op := Op.call { callee := Callee.value (Operand.func 22), args := #[Operand.tmp 105, Operand.tmp 107, Operand.tmp 109, Operand.tmp 110], argTypes := #[25, 3, 3, 23] }, type := 25, pos := "law.go:34", after := #[{ on := 7, ground := Ground.data }, { on := 9, ground := Ground.data }, { on := 11, ground := Ground.data }, { on := 12, ground := Ground.data }, { on := 6, ground := Ground.chain }], guard := none }) rfl (fun K hK => ?_) AllReadyH.nil)
        (go_simp; (go_at_call 22; (refine (St.call h61r12 (refSet_any u x y p _)).mono ?_); rintro e V2r12 ⟨rfl, h62r12⟩))
        refine hK.out _ _ ?_ (fun hHeld => ?_)
        · (first | exact h62r12 | exact h62r12.tl)
        clear hK K
        try simp only [Act.put, List.setIfInBounds_toArray, List.set_cons_zero, List.set_cons_succ]
        refine wpAnyH_take (i := 14) (oi := { dst := some 112, op := Op.binOp BinOp.neq 25 (Operand.tmp 104) (Operand.tmp 111) 25, type := 4, pos := "law.go:34", after := #[{ on := 6, ground := Ground.data }, { on := 13, ground := Ground.data }], guard := none }) rfl (by kernel_rfl) (by kernel_rfl) (by kernel_rfl) (fun _ _ _ h => h) (yields_bin (by kernel_rfl) .neq 25 (.tmp 104) (.tmp 111) 25 rfl _ _ rfl rfl guard_tile (.bool false) (fun V => HNT.out _ V)) (by assumption) ?_
        try simp only [Act.put, List.setIfInBounds_toArray, List.set_cons_zero, List.set_cons_succ]
        refine wpAnyH_take (i := 15) (oi := { dst := some 113, op := Op.move (Operand.tmp 112), type := 4, pos := "law.go:34", after := #[{ on := 14, ground := Ground.data }, { on := 13, ground := Ground.chain }], guard := none }) (v := ?_) rfl (by kernel_rfl) (by kernel_rfl) (by kernel_rfl) (fun _ _ _ h => h) (Or.inl ⟨by kernel_rfl, ?_⟩) (by assumption) ?_
        rotate_left 1
        focus (intro w hSw; (try dsimp only at hSw); go_simp; (try with_reducible rfl))
        try simp only [Act.put, List.setIfInBounds_toArray, List.set_cons_zero, List.set_cons_succ]
        refine wpAnyH_take (i := 16) (oi := { dst := some 114, op := Op.load 25 (Operand.tmp 10), type := 25, pos := "law.go:34", after := #[{ on := 15, ground := Ground.guard }], guard := some (15, false) }) rfl (by kernel_rfl) (by kernel_rfl) (by kernel_rfl) (fun _ _ _ h => h) (yields_load (by kernel_rfl) 25 (.tmp 10) rfl (tv (u)) (fun V hV => ld (b := b10) (f := u) hV (by simp))) (by assumption) ?_
        try simp only [Act.put, List.setIfInBounds_toArray, List.set_cons_zero, List.set_cons_succ]
        refine wpAnyH_take (i := 17) (oi := { dst := some 115, op := Op.indexAddr 26 (Operand.tmp 15) (Operand.const (Value.int IntKind.i64 0)), type := 0, pos := "law.go:34", after := #[{ on := 15, ground := Ground.guard }], guard := some (15, false) }) (v := ?_) rfl (by kernel_rfl) (by kernel_rfl) (by kernel_rfl) (fun _ _ _ h => h) (Or.inl ⟨by kernel_rfl, ?_⟩) (by assumption) ?_
        rotate_left 1
        focus (intro w hSw; (try dsimp only at hSw); go_simp; (try with_reducible rfl))
        try simp only [Act.put, List.setIfInBounds_toArray, List.set_cons_zero, List.set_cons_succ]
        refine wpAnyH_take (i := 18) (oi := { dst := some 116, op := Op.load 3 (Operand.tmp 115), type := 3, pos := "law.go:34", after := #[{ on := 17, ground := Ground.data }, { on := 15, ground := Ground.guard }], guard := some (15, false) }) rfl (by kernel_rfl) (by kernel_rfl) (by kernel_rfl) (fun _ _ _ h => h) (yields_load (by kernel_rfl) 3 (.tmp 115) rfl (.int .i64 nx) (fun V hV => (ldc (b := b15) (x := nx) (y := ny) hV (by simp)).1)) (by assumption) ?_
        try simp only [Act.put, List.setIfInBounds_toArray, List.set_cons_zero, List.set_cons_succ]
        refine wpAnyH_take (i := 19) (oi := { dst := some 117, op := Op.indexAddr 26 (Operand.tmp 15) (Operand.const (Value.int IntKind.i64 1)), type := 0, pos := "law.go:34", after := #[{ on := 15, ground := Ground.guard }], guard := some (15, false) }) (v := ?_) rfl (by kernel_rfl) (by kernel_rfl) (by kernel_rfl) (fun _ _ _ h => h) (Or.inl ⟨by kernel_rfl, ?_⟩) (by assumption) ?_
        rotate_left 1
        focus (intro w hSw; (try dsimp only at hSw); go_simp; (try with_reducible rfl))
        try simp only [Act.put, List.setIfInBounds_toArray, List.set_cons_zero, List.set_cons_succ]
        refine wpAnyH_take (i := 20) (oi := { dst := some 118, op := Op.load 3 (Operand.tmp 117), type := 3, pos := "law.go:34", after := #[{ on := 19, ground := Ground.data }, { on := 15, ground := Ground.guard }], guard := some (15, false) }) rfl (by kernel_rfl) (by kernel_rfl) (by kernel_rfl) (fun _ _ _ h => h) (yields_load (by kernel_rfl) 3 (.tmp 117) rfl (.int .i64 ny) (fun V hV => (ldc (b := b15) (x := nx) (y := ny) hV (by simp)).2)) (by assumption) ?_
        try simp only [Act.put, List.setIfInBounds_toArray, List.set_cons_zero, List.set_cons_succ]
        refine wpAnyH_take (i := 21) (oi := { dst := some 119, op := Op.load 23 (Operand.tmp 4), type := 23, pos := "law.go:34", after := #[{ on := 15, ground := Ground.guard }], guard := some (15, false) }) rfl (by kernel_rfl) (by kernel_rfl) (by kernel_rfl) (fun _ _ _ h => h) (yields_load (by kernel_rfl) 23 (.tmp 4) rfl (p).v (fun V hV => ldp (b := w.heap.size + 1) (p := p) hV (by simp))) (by assumption) ?_
        try simp only [Act.put, List.setIfInBounds_toArray, List.set_cons_zero, List.set_cons_succ]
        refine wpAnyH_take (i := 23) (oi := { dst := some 121, op := Op.load 25 (Operand.tmp 10), type := 25, pos := "law.go:34", after := #[{ on := 15, ground := Ground.guard }], guard := some (15, false) }) rfl (by kernel_rfl) (by kernel_rfl) (by kernel_rfl) (fun _ _ _ h => h) (yields_load (by kernel_rfl) 25 (.tmp 10) rfl (tv (u)) (fun V hV => ld (b := b10) (f := u) hV (by simp))) (by assumption) ?_
        try simp only [Act.put, List.setIfInBounds_toArray, List.set_cons_zero, List.set_cons_succ]
        refine wpAnyH_take (i := 24) (oi := { dst := some 122, op := Op.indexAddr 26 (Operand.tmp 15) (Operand.const (Value.int IntKind.i64 0)), type := 0, pos := "law.go:34", after := #[{ on := 15, ground := Ground.guard }], guard := some (15, false) }) (v := ?_) rfl (by kernel_rfl) (by kernel_rfl) (by kernel_rfl) (fun _ _ _ h => h) (Or.inl ⟨by kernel_rfl, ?_⟩) (by assumption) ?_
        rotate_left 1
        focus (intro w hSw; (try dsimp only at hSw); go_simp; (try with_reducible rfl))
        try simp only [Act.put, List.setIfInBounds_toArray, List.set_cons_zero, List.set_cons_succ]
        refine wpAnyH_take (i := 25) (oi := { dst := some 123, op := Op.load 3 (Operand.tmp 122), type := 3, pos := "law.go:34", after := #[{ on := 24, ground := Ground.data }, { on := 15, ground := Ground.guard }], guard := some (15, false) }) rfl (by kernel_rfl) (by kernel_rfl) (by kernel_rfl) (fun _ _ _ h => h) (yields_load (by kernel_rfl) 3 (.tmp 122) rfl (.int .i64 nx) (fun V hV => (ldc (b := b15) (x := nx) (y := ny) hV (by simp)).1)) (by assumption) ?_
        try simp only [Act.put, List.setIfInBounds_toArray, List.set_cons_zero, List.set_cons_succ]
        refine wpAnyH_take (i := 26) (oi := { dst := some 124, op := Op.indexAddr 26 (Operand.tmp 15) (Operand.const (Value.int IntKind.i64 1)), type := 0, pos := "law.go:34", after := #[{ on := 15, ground := Ground.guard }], guard := some (15, false) }) (v := ?_) rfl (by kernel_rfl) (by kernel_rfl) (by kernel_rfl) (fun _ _ _ h => h) (Or.inl ⟨by kernel_rfl, ?_⟩) (by assumption) ?_
        rotate_left 1
        focus (intro w hSw; (try dsimp only at hSw); go_simp; (try with_reducible rfl))
        try simp only [Act.put, List.setIfInBounds_toArray, List.set_cons_zero, List.set_cons_succ]
        refine wpAnyH_take (i := 27) (oi := { dst := some 125, op := Op.load 3 (Operand.tmp 124), type := 3, pos := "law.go:34", after := #[{ on := 26, ground := Ground.data }, { on := 15, ground := Ground.guard }], guard := some (15, false) }) rfl (by kernel_rfl) (by kernel_rfl) (by kernel_rfl) (fun _ _ _ h => h) (yields_load (by kernel_rfl) 3 (.tmp 124) rfl (.int .i64 ny) (fun V hV => (ldc (b := b15) (x := nx) (y := ny) hV (by simp)).2)) (by assumption) ?_
        try simp only [Act.put, List.setIfInBounds_toArray, List.set_cons_zero, List.set_cons_succ]
        refine wpAnyH_take (i := 28) (oi := { dst := some 126, op := Op.load 23 (Operand.tmp 4), type := 23, pos := "law.go:34", after := #[{ on := 15, ground := Ground.guard }], guard := some (15, false) }) rfl (by kernel_rfl) (by kernel_rfl) (by kernel_rfl) (fun _ _ _ h => h) (yields_load (by kernel_rfl) 23 (.tmp 4) rfl (p).v (fun V hV => ldp (b := w.heap.size + 1) (p := p) hV (by simp))) (by assumption) ?_
        try simp only [Act.put, List.setIfInBounds_toArray, List.set_cons_zero, List.set_cons_succ]
        refine wpAnyH_ready (rs := [22]) (by kernel_rfl) (by simp) (AllReadyH.cons (o := { dst := some 120, op := Op.call { callee := Callee.value (Operand.func 21), args := #[Operand.tmp 114, Operand.tmp 116, Operand.tmp 118, Operand.tmp 119], argTypes := #[25, 3, 3, 23] }, type := 25, pos := "law.go:34", after := #[{ on := 16, ground := Ground.data }, { on := 18, ground := Ground.data }, { on := 20, ground := Ground.data }, { on := 21, ground := Ground.data }, { on := 15, ground := Ground.chain }, { on := 15, ground := Ground.guard }], guard := some (15, false) }) rfl (fun K hK => ?_) AllReadyH.nil)
        (go_simp; (go_at_call 21; (refine (St.call h62r12 (set_any u nx ny p _)).mono ?_); rintro e V3r12 ⟨rfl, h63r12⟩))
        refine hK.out _ _ ?_ (fun hHeld => ?_)
        · (first | exact h63r12 | exact h63r12.tl)
        clear hK K
        try simp only [Act.put, List.setIfInBounds_toArray, List.set_cons_zero, List.set_cons_succ]
        refine wpAnyH_ready (rs := [29]) (by kernel_rfl) (by simp) (AllReadyH.cons (o := { dst := some 127, op := Op.call { callee := Callee.value (Operand.func 22), args := #[Operand.tmp 121, Operand.tmp 123, Operand.tmp 125, Operand.tmp 126], argTypes := #[25, 3, 3, 23] }, type := 25, pos := "law.go:34", after := #[{ on := 23, ground := Ground.data }, { on := 25, ground := Ground.data }, { on := 27, ground := Ground.data }, { on := 28, ground := Ground.data }, { on := 22, ground := Ground.chain }, { on := 15, ground := Ground.guard }], guard := some (15, false) }) rfl (fun K hK => ?_) AllReadyH.nil)
        (go_simp; (go_at_call 22; (refine (St.call h63r12 (refSet_any u nx ny p _)).mono ?_); rintro e V4r12 ⟨rfl, h64r12⟩))
        refine hK.out _ _ ?_ (fun hHeld => ?_)
        · (first | exact h64r12 | exact h64r12.tl)
        clear hK K
        try simp only [Act.put, List.setIfInBounds_toArray, List.set_cons_zero, List.set_cons_succ]
        refine wpAnyH_take (i := 30) (oi := { dst := some 128, op := Op.binOp BinOp.neq 25 (Operand.tmp 120) (Operand.tmp 127) 25, type := 4, pos := "law.go:34", after := #[{ on := 22, ground := Ground.data }, { on := 29, ground := Ground.data }, { on := 15, ground := Ground.guard }], guard := some (15, false) }) rfl (by kernel_rfl) (by kernel_rfl) (by kernel_rfl) (fun _ _ _ h => h) (yields_bin (by kernel_rfl) .neq 25 (.tmp 120) (.tmp 127) 25 rfl _ _ rfl rfl guard_tile (.bool false) (fun V => HNT.out _ V)) (by assumption) ?_
        try simp only [Act.put, List.setIfInBounds_toArray, List.set_cons_zero, List.set_cons_succ]
        refine wpAnyH_take (i := 31) (oi := { dst := some 129, op := Op.pick (Operand.tmp 113) (Operand.const (Value.bool true)) (Operand.tmp 128), type := 4, pos := "law.go:34", after := #[{ on := 15, ground := Ground.data }, { on := 30, ground := Ground.data }], guard := none }) (v := ?_) rfl (by kernel_rfl) (by kernel_rfl) (by kernel_rfl) (fun _ _ _ h => h) (Or.inl ⟨by kernel_rfl, ?_⟩) (by assumption) ?_
        rotate_left 1
        focus (intro w hSw; (try dsimp only at hSw); go_simp; (try with_reducible rfl))
        try simp only [Act.put, List.setIfInBounds_toArray, List.set_cons_zero, List.set_cons_succ]
        refine wpAnyH_done (by kernel_rfl) ?_ _
        have H8 := Lib.hid h64r12
        go_wp2
        go_roundw
        case rel => exact ⟨k + 1, by omega, by go_num, H8.out.tl.tl.tl.tl⟩
        case measure => simp [intOf]; omega
      · obtain rfl : k = 3 := by omega
        have h9 := HT.out
        go_upto_region 14 with fail
        refine wp_region_held_drew (S := fun V9 => St w ((b8, t3 (G3 f (fun _ => p) z0)) :: [(w.heap.size + 1 + 1, p2o x y), (w.heap.size + 1, pxo p), (w.heap.size, tob f)]) V9) (by kernel_rfl) ?_ (fun hHeld => ?_)
        · first | exact h9.drew | exact h9.drew.tl
        have h90 := h9.drew
        refine wpAnyH_take (i := 0) (oi := { dst := some 130, op := Op.move (Operand.tmp 7), type := 4, pos := "law.go:38", after := #[], guard := none }) (v := ?_) rfl (by kernel_rfl) (by kernel_rfl) (by kernel_rfl) (fun _ _ _ h => h) (Or.inl ⟨by kernel_rfl, ?_⟩) (by assumption) ?_
        rotate_left 1
        focus (intro w hSw; (try dsimp only at hSw); go_simp; (try with_reducible rfl))
        try simp only [Act.put, List.setIfInBounds_toArray, List.set_cons_zero, List.set_cons_succ]
        refine wpAnyH_take (i := 1) (oi := { dst := some 131, op := Op.move (Operand.tmp 130), type := 4, pos := "law.go:38", after := #[{ on := 0, ground := Ground.data }], guard := none }) (v := ?_) rfl (by kernel_rfl) (by kernel_rfl) (by kernel_rfl) (fun _ _ _ h => h) (Or.inl ⟨by kernel_rfl, ?_⟩) (by assumption) ?_
        rotate_left 1
        focus (intro w hSw; (try dsimp only at hSw); go_simp; (try with_reducible rfl))
        try simp only [Act.put, List.setIfInBounds_toArray, List.set_cons_zero, List.set_cons_succ]
        refine wpAnyH_take (i := 2) (oi := { dst := some 132, op := Op.load 23 (Operand.tmp 4), type := 23, pos := "law.go:38", after := #[{ on := 1, ground := Ground.guard }], guard := some (1, true) }) rfl (by kernel_rfl) (by kernel_rfl) (by kernel_rfl) (fun _ _ _ h => h) (yields_load (by kernel_rfl) 23 (.tmp 4) rfl (p).v (fun V hV => ldp (b := w.heap.size + 1) (p := p) hV (by simp))) (by assumption) ?_
        try simp only [Act.put, List.setIfInBounds_toArray, List.set_cons_zero, List.set_cons_succ]
        refine wpAnyH_take (i := 4) (oi := { dst := some 134, op := Op.load 23 (Operand.tmp 4), type := 23, pos := "law.go:38", after := #[{ on := 1, ground := Ground.guard }], guard := some (1, true) }) rfl (by kernel_rfl) (by kernel_rfl) (by kernel_rfl) (fun _ _ _ h => h) (yields_load (by kernel_rfl) 23 (.tmp 4) rfl (p).v (fun V hV => ldp (b := w.heap.size + 1) (p := p) hV (by simp))) (by assumption) ?_
        try simp only [Act.put, List.setIfInBounds_toArray, List.set_cons_zero, List.set_cons_succ]
        refine wpAnyH_ready (rs := [3]) (by kernel_rfl) (by simp) (AllReadyH.cons (o := { dst := some 133, op := Op.call { callee := Callee.value (Operand.func 23), args := #[Operand.tmp 132], argTypes := #[23] }, type := 25, pos := "law.go:38", after := #[{ on := 2, ground := Ground.data }, { on := 1, ground := Ground.chain }, { on := 1, ground := Ground.guard }], guard := some (1, true) }) rfl (fun K hK => ?_) AllReadyH.nil)
        (go_simp; (go_at_call 23; (refine (St.call h90 (fill_any p _)).mono ?_); rintro e V1r14 ⟨rfl, h91r14⟩))
        refine hK.out _ _ ?_ (fun hHeld => ?_)
        · (first | exact h91r14 | exact h91r14.tl)
        clear hK K
        try simp only [Act.put, List.setIfInBounds_toArray, List.set_cons_zero, List.set_cons_succ]
        refine wpAnyH_ready (rs := [5]) (by kernel_rfl) (by simp) (AllReadyH.cons (o := { dst := some 135, op := Op.call { callee := Callee.value (Operand.func 12), args := #[Operand.tmp 134], argTypes := #[23] }, type := 25, pos := "law.go:38", after := #[{ on := 4, ground := Ground.data }, { on := 3, ground := Ground.chain }, { on := 1, ground := Ground.guard }], guard := some (1, true) }) rfl (fun K hK => ?_) AllReadyH.nil)
        (go_simp; (go_at_call 12; (refine (St.call h91r14 (refFill_any p _)).mono ?_); rintro e V2r14 ⟨rfl, h92r14⟩))
        refine hK.out _ _ ?_ (fun hHeld => ?_)
        · (first | exact h92r14 | exact h92r14.tl)
        clear hK K
        try simp only [Act.put, List.setIfInBounds_toArray, List.set_cons_zero, List.set_cons_succ]
        refine wpAnyH_take (i := 6) (oi := { dst := some 136, op := Op.binOp BinOp.eql 25 (Operand.tmp 133) (Operand.tmp 135) 25, type := 4, pos := "law.go:38", after := #[{ on := 3, ground := Ground.data }, { on := 5, ground := Ground.data }, { on := 1, ground := Ground.guard }], guard := some (1, true) }) rfl (by kernel_rfl) (by kernel_rfl) (by kernel_rfl) (fun _ _ _ h => h) (yields_bin (by kernel_rfl) .eql 25 (.tmp 133) (.tmp 135) 25 rfl _ _ rfl rfl guard_tile (.bool true) (fun V => HE.out V)) (by assumption) ?_
        try simp only [Act.put, List.setIfInBounds_toArray, List.set_cons_zero, List.set_cons_succ]
        refine wpAnyH_take (i := 7) (oi := { dst := some 137, op := Op.pick (Operand.tmp 131) (Operand.tmp 136) (Operand.const (Value.bool false)), type := 4, pos := "law.go:38", after := #[{ on := 1, ground := Ground.data }, { on := 6, ground := Ground.data }], guard := none }) (v := ?_) rfl (by kernel_rfl) (by kernel_rfl) (by kernel_rfl) (fun _ _ _ h => h) (Or.inl ⟨by kernel_rfl, ?_⟩) (by assumption) ?_
        rotate_left 1
        focus (intro w hSw; (try dsimp only at hSw); go_simp; (try with_reducible rfl))
        try simp only [Act.put, List.setIfInBounds_toArray, List.set_cons_zero, List.set_cons_succ]
        refine wpAnyH_take (i := 8) (oi := { dst := some 6, op := Op.assign (Operand.tmp 137), type := 4, pos := "law.go:38", after := #[{ on := 7, ground := Ground.data }, { on := 5, ground := Ground.chain }, { on := 0, ground := Ground.phase }, { on := 1, ground := Ground.phase }, { on := 2, ground := Ground.phase }, { on := 3, ground := Ground.phase }, { on := 4, ground := Ground.phase }, { on := 5, ground := Ground.phase }, { on := 6, ground := Ground.phase }, { on := 7, ground := Ground.phase }], guard := none }) (v := ?_) rfl (by kernel_rfl) (by kernel_rfl) (by kernel_rfl) (fun _ _ _ h => h) (Or.inl ⟨by kernel_rfl, ?_⟩) (by assumption) ?_
        rotate_left 1
        focus (intro w hSw; (try dsimp only at hSw); go_simp; (try with_reducible rfl))
        try simp only [Act.put, List.setIfInBounds_toArray, List.set_cons_zero, List.set_cons_succ]
        refine wpAnyH_done (by kernel_rfl) ?_ _
        have HB := Lib.hid h92r14.below
        go_wp2_with fail
        go_ret
        exact ⟨rfl, HB.out⟩

theorem okin (W : World) (base : Nat) : Input.okWide Try.checked.prog W .any base 3 ⟨#[], #[tv z0, zp.v, .agg #[.int .i64 0, .int .i64 0]], []⟩ := by
  refine ⟨by simp, by simp, by kernel_rfl, Try.f3, Try.func3, by kernel_rfl, by kernel_rfl, by kernel_rfl, by rw [Try.params3]; rfl, ?_⟩
  intro j t v ht hv
  rw [Try.params3] at ht
  match j with
  | 0 => cases (Option.some.inj ht); cases (Option.some.inj hv); exact ok_tile W base
  | 1 => cases (Option.some.inj ht); cases (Option.some.inj hv); exact ok_px W base
  | 2 => cases (Option.some.inj ht); cases (Option.some.inj hv); exact ok_p2 W base
  | j + 3 => simp at ht
set_option maxRecDepth 100000 in
theorem lifted (os : Os) (started : os.Started) (H : Type) (enc : TypeId × Value → H) :
    ReturnsInHanded {} Try.checked os 3 .any (Rows.tileAccessSpec.pre6 enc Try.prog Try.f3 Rows.tileAccessRow.domain false) (Rows.tileAccessSpec.post enc Try.prog Try.f3 false true false false) := by
  refine returnsInHanded_of_change_sized (C := Try.checked) own started (by kernel_rfl) Try.func3
    (witness7 (enc := enc) (C := Try.checked) false ⟨#[], #[tv z0, zp.v, .agg #[.int .i64 0, .int .i64 0]], []⟩ 8 (by kernel_rfl) (by kernel_rfl) (fun W base => okin W base) (by kernel_rfl) (by kernel_rfl)) ?_
  intro W base args ds gs before hval0 hW _ _ _
  have hval : ∀ (j : Nat) t v, Try.f3.params[j]? = some t → args[j]? = some v → Value.okWide Try.prog W .any base t v := hval0
  have hW' := hW
  obtain ⟨p, q, hA0, hV, rfl, hfz, hnd⟩ := hW
  have hA : DataW.TrodAll enc Try.prog W 0 (fun _ => true) true Try.f3.params.toList args.toList ds p := hA0
  rw [Try.params3] at hA hval
  obtain ⟨v0, v1, v2, d0, d1, d2, p0, p1, p2, rfl, rfl, rfl, h0, h1, h2⟩ := trodAll_three hA
  obtain ⟨rfl, rfl⟩ := trodVars_none hV
  obtain ⟨f, rfl, hf⟩ := open_tile (hval 0 25 v0 rfl rfl)
  obtain ⟨p, rfl, hp⟩ := open_px (hval 1 23 v1 rfl rfl)
  obtain ⟨x, y, rfl⟩ := open_p2 (hval 2 26 v2 rfl rfl)
  refine (walk f p x y W hf hp).mono fun e W' ⟨he, hb⟩ => ?_
  subst he
  exact ⟨_, rfl, law_post hW' rfl (by kernel_rfl) rfl (by intro t ht; rw [Try.params3] at ht; simp at ht; rcases ht with rfl | rfl | rfl <;> exact ⟨by kernel_rfl, of_decide_eq_true (by kernel_rfl)⟩) hb⟩

theorem holds : Rows.TileAccessSaid :=
  OpenClaim.holds_of_wide 3 Try.f3 rfl rfl rfl rfl rfl rfl rfl ⟨rfl, rfl, rfl, rfl, rfl⟩ rfl rfl rfl rfl rfl (by kernel_rfl) Try.func3 (by kernel_rfl)
    (of_decide_eq_true (by kernel_rfl)) (by unfold Func.isWrapper; first | (rw [if_pos (by decide +kernel)]; kernel_rfl) | (rw [if_neg (by decide +kernel)]; exact ⟨rfl, rfl⟩))
    (fun os started H enc _ => lifted os started H enc)
end Go.Proofs.Ytkomknhloimhcaa.T.TLAccess
