/-
  A tile, packed (contract of pack).
-/
import Derived.Test.YtfncldaodbfakaaGreatZEnt
namespace Go.Proofs.YtfncldaodbfakaaGreat.Z
open Go.RowKit Go.Shelf T Q
set_option maxRecDepth 100000
variable {V W w w' : World} {L : List (Nat × Obj)} {b : Nat}

theorem stl2 {x : Nat × Obj} (h : St W (x :: L) w) : St W L w := h.sub fun _ hx => List.mem_cons_of_mem _ hx
def pkl (x y : Int) (p : Px) (m : Nat) (s bl : List UInt8) : List Value := enl x y p m s ++ [.string (O.str bl)]
abbrev pkv (x y : Int) (p : Px) (m : Nat) (s bl : List UInt8) : Value := .agg (pkl x y p m s bl).toArray
abbrev pko (x y : Int) (p : Px) (m : Nat) (s bl : List UInt8) : Obj := .cells (pkl x y p m s bl).toArray 112
variable {x y : Int} {p : Px} {m : Nat} {s bl : List UInt8}
theorem built_en (w : World) : (Instr.build 110 #[(0, pv2 x y), (1, p.v), (2, .int .i64 (m : Int)), (3, .string (O.str s))]).run Tryz.prog w = .ok (env x y p m s) w := run_build w 110 _ _ (by kernel_rfl)
theorem built_pk (w : World) : (Instr.build 112 #[(0, env x y p m s), (1, .string (O.str bl))]).run Tryz.prog w = .ok (pkv x y p m s bl) w := run_build w 112 _ _ (by kernel_rfl)
theorem yields_build2 {P : Program} {ops : Array Oper} {S : World → Prop} {o : Oper} {a : Act} (hw : Region.wanted o (yielded ops a.tmps) = true) (t : TypeId) (x y : Operand) (ho : o.op = .build t #[(0, x), (1, y)]) (vx vy : Value) (hx : a.eval x = vx) (hy : a.eval y = vy) (v : Value)
    (hl : ∀ w, (Instr.build t #[(0, vx), (1, vy)]).run P w = .ok v w) : YieldsIf P ops S o v a :=
  .inl ⟨hw, fun w _ => by
    unfold execOp
    have hl' : (Instr.build t ((#[(0, x), (1, y)] : Array (Nat × Operand)).map fun (i, x) => (i, a.eval x))).run P w = .ok v w := by simpa [hx, hy] using hl w
    simp only [ho, Sem.run_bind, hl', Result.andThen_ok, Sem.run_pure]⟩
theorem store_pk {cs : Array Value} (hc : cs.size = 9) (h : w.heap[b]? = some (.cells cs 112)) : (Instr.storeAt 112 (.pointer (some ⟨b, 0, none⟩)) (pkv x y p m s bl)).run Tryz.prog w = .ok () (w.setRow b (pkl x y p m s bl).toArray) := by
  simp only [Instr.storeAt, Instr.sureAddr, Sem.run_bind, Sem.run_pure, Result.andThen_ok, run_storeVar_row (P := Tryz.prog) w b _ 112 _ (pkl x y p m s bl).toArray h (by kernel_rfl) hc (by simp [pkl, enl, Value.oneCell'])]
theorem zero_pk (w : World) : (zeroValue 112).run Tryz.prog w = .ok (pkv 0 0 zp 0 [] []) w := by kernel_rfl
set_option maxHeartbeats 8000000 in
theorem pack_any (a : TA) (w : World) (hf : ∀ i, i < 64 → Pc (a.t i)) : Calls Tryz.prog 52 #[tav a] w fun e w' => e = .returned (pkv a.x a.y (mea a.t) (blob a.t).length (sm (blob a.t)) (blob a.t)) ∧ Below w.heap.size w w' := by
  have h0 := ((St.start w).alloc (taob a)).alloc (pko 0 0 zp 0 [] [])
  rw [World.size_alloc] at h0
  have HE := Lib.hid (fun V => encode_any a.t V hf)
  have HM := Lib.hid (mean_any a.t hf)
  have HS : Hid (∀ V, Calls Tryz.prog 56 #[.string (O.str (blob a.t))] V fun e w' => e = .returned (.string (O.str (sm (blob a.t)))) ∧ Below V.heap.size V w') := fun V => by
    have h := sumOf_any (O.str (blob a.t)) V (by have := (blob_len a.t).2; rw [O.str_size]; omega)
    rw [O.str_toList] at h
    exact h
  generalize blob a.t = BL at *
  generalize sm BL = SB at *
  generalize mea a.t = PM at *
  go_enter Tryz.func52, Tryz.ntmps52
  go_upto_region 1 with (first | ((with_reducible refine sAlloc (ty := 112) (pkl 0 0 zp 0 [] []).toArray ?_ ?_); · exact zero_pk _))
  try simp only [Act.put, List.setIfInBounds_toArray, List.set_cons_zero, List.set_cons_succ]
  generalize (w.alloc (.cells (tac a).toArray 42)).alloc (.cells (pkl 0 0 zp 0 [] []).toArray 112) = V1 at h0 ⊢
  have HTI := Lib.hid ((tilv (h0.row (b := w.heap.size) (o := taob a) (by simp))).all)
  go_upto_region 2 with (first
    | ((with_reducible refine sLoad (ty := 38) (v := tv a.t) ?_ ?_); · exact HTI.out)
    | (go_at_call 107; with_reducible refine (h0.call (HE.out _)).mono ?_; rintro e V2 ⟨rfl, h2⟩))
  have hd := h2.drew
  clear h0 h2 HTI HE
  refine wp_region_held_drew (S := fun V9 => St w [(w.heap.size, taob a)] V9) (by kernel_rfl) ?_ (fun hHeld => ?_)
  · exact (stl2 hd)
  refine wpAnyH_take (i := 0) (oi := { dst := some 7, op := Op.fieldAddr 42 (Operand.tmp 1) 0, type := 0, pos := "blob.go:34", after := #[], guard := none }) (v := ?_) rfl (by kernel_rfl) (by kernel_rfl) (by kernel_rfl) (fun _ _ _ h => h) (Or.inl ⟨by kernel_rfl, ?_⟩) (by assumption) ?_
  rotate_left 1
  focus (intro w hSw; (try dsimp only at hSw); go_simp; (try with_reducible rfl))
  try simp only [Act.put, List.setIfInBounds_toArray, List.set_cons_zero, List.set_cons_succ]
  refine wpAnyH_take (i := 1) (oi := { dst := some 8, op := Op.load 40 (Operand.tmp 7), type := 40, pos := "blob.go:34", after := #[{ on := 0, ground := Ground.data }], guard := none }) rfl (by kernel_rfl) (by kernel_rfl) (by kernel_rfl) (fun _ _ _ h => h) (yields_load (by kernel_rfl) 40 (.tmp 7) rfl (pv2 a.x a.y) (fun V9 hV => ldv_pos (hV.row (List.mem_cons_self ..)))) (by assumption) ?_
  try simp only [Act.put, List.setIfInBounds_toArray, List.set_cons_zero, List.set_cons_succ]
  refine wpAnyH_take (i := 2) (oi := { dst := some 9, op := Op.fieldAddr 42 (Operand.tmp 1) 1, type := 0, pos := "blob.go:34", after := #[], guard := none }) (v := ?_) rfl (by kernel_rfl) (by kernel_rfl) (by kernel_rfl) (fun _ _ _ h => h) (Or.inl ⟨by kernel_rfl, ?_⟩) (by assumption) ?_
  rotate_left 1
  focus (intro w hSw; (try dsimp only at hSw); go_simp; (try with_reducible rfl))
  try simp only [Act.put, List.setIfInBounds_toArray, List.set_cons_zero, List.set_cons_succ]
  refine wpAnyH_take (i := 3) (oi := { dst := some 10, op := Op.load 38 (Operand.tmp 9), type := 38, pos := "blob.go:34", after := #[{ on := 2, ground := Ground.data }], guard := none }) rfl (by kernel_rfl) (by kernel_rfl) (by kernel_rfl) (fun _ _ _ h => h) (yields_load (by kernel_rfl) 38 (.tmp 9) rfl (tv a.t) (fun V9 hV => (tilv (hV.row (List.mem_cons_self ..))).all)) (by assumption) ?_
  try simp only [Act.put, List.setIfInBounds_toArray, List.set_cons_zero, List.set_cons_succ]
  refine wpAnyH_take (i := 5) (oi := { dst := some 12, op := Op.move (Operand.tmp 3), type := 9, pos := "blob.go:34", after := #[], guard := none }) (v := ?_) rfl (by kernel_rfl) (by kernel_rfl) (by kernel_rfl) (fun _ _ _ h => h) (Or.inl ⟨by kernel_rfl, ?_⟩) (by assumption) ?_
  rotate_left 1
  focus (intro w hSw; (try dsimp only at hSw); go_simp; (try with_reducible rfl))
  try simp only [Act.put, List.setIfInBounds_toArray, List.set_cons_zero, List.set_cons_succ]
  refine wpAnyH_take (i := 6) (oi := { dst := some 13, op := Op.call { callee := Callee.builtin Builtin.len, args := #[Operand.tmp 12], argTypes := #[9] }, type := 3, pos := "blob.go:34", after := #[{ on := 5, ground := Ground.data }], guard := none }) (v := .int .i64 (BL.length : Int)) rfl (by kernel_rfl) (by kernel_rfl) (by kernel_rfl) (fun _ _ _ h => h) (Or.inl ⟨by kernel_rfl, ?_⟩) (by assumption) ?_
  focus (intro w hSw; (try dsimp only at hSw); go_simp; (rw [O.str_size]))
  try simp only [Act.put, List.setIfInBounds_toArray, List.set_cons_zero, List.set_cons_succ]
  refine wpAnyH_take (i := 7) (oi := { dst := some 14, op := Op.move (Operand.tmp 3), type := 9, pos := "blob.go:34", after := #[], guard := none }) (v := ?_) rfl (by kernel_rfl) (by kernel_rfl) (by kernel_rfl) (fun _ _ _ h => h) (Or.inl ⟨by kernel_rfl, ?_⟩) (by assumption) ?_
  rotate_left 1
  focus (intro w hSw; (try dsimp only at hSw); go_simp; (try with_reducible rfl))
  try simp only [Act.put, List.setIfInBounds_toArray, List.set_cons_zero, List.set_cons_succ]
  refine wpAnyH_take (i := 10) (oi := { dst := some 17, op := Op.move (Operand.tmp 3), type := 9, pos := "blob.go:34", after := #[], guard := none }) (v := ?_) rfl (by kernel_rfl) (by kernel_rfl) (by kernel_rfl) (fun _ _ _ h => h) (Or.inl ⟨by kernel_rfl, ?_⟩) (by assumption) ?_
  rotate_left 1
  focus (intro w hSw; (try dsimp only at hSw); go_simp; (try with_reducible rfl))
  try simp only [Act.put, List.setIfInBounds_toArray, List.set_cons_zero, List.set_cons_succ]
  refine wpAnyH_ready (rs := [4]) (by kernel_rfl) (by simp) (AllReadyH.cons (o := { dst := some 11, op := Op.call { callee := Callee.value (Operand.func 75), args := #[Operand.tmp 10], argTypes := #[38] }, type := 36, pos := "blob.go:34", after := #[{ on := 3, ground := Ground.data }], guard := none }) rfl (fun K hK => ?_) AllReadyH.nil)
  (go_simp; (go_at_call 75; (with_reducible refine (St.call hd (HM.out _)).mono ?_); rintro e V1r2 ⟨rfl, hd1r2⟩))
  refine hK.out _ _ ?_ (fun hHeld => ?_)
  · exact (stl2 hd1r2)
  clear hK K
  try simp only [Act.put, List.setIfInBounds_toArray, List.set_cons_zero, List.set_cons_succ]
  refine wpAnyH_ready (rs := [8]) (by kernel_rfl) (by simp) (AllReadyH.cons (o := { dst := some 15, op := Op.call { callee := Callee.value (Operand.func 56), args := #[Operand.tmp 14], argTypes := #[9] }, type := 9, pos := "blob.go:34", after := #[{ on := 7, ground := Ground.data }, { on := 4, ground := Ground.chain }], guard := none }) rfl (fun K hK => ?_) AllReadyH.nil)
  (go_simp; (go_at_call 56; (with_reducible refine (St.call hd1r2 (HS.out _)).mono ?_); rintro e V2r2 ⟨rfl, hd2r2⟩))
  refine hK.out _ _ ?_ (fun hHeld => ?_)
  · exact (stl2 hd2r2)
  clear hK K
  try simp only [Act.put, List.setIfInBounds_toArray, List.set_cons_zero, List.set_cons_succ]
  refine wpAnyH_take (i := 9) (oi := { dst := some 16, op := Op.build 110 #[(0, Operand.tmp 8), (1, Operand.tmp 11), (2, Operand.tmp 13), (3, Operand.tmp 15)], type := 110, pos := "blob.go:34", after := #[{ on := 1, ground := Ground.data }, { on := 4, ground := Ground.data }, { on := 6, ground := Ground.data }, { on := 8, ground := Ground.data }], guard := none }) (v := env a.x a.y PM BL.length SB) rfl (by kernel_rfl) (by kernel_rfl) (by kernel_rfl) (fun _ _ _ h => h) (Or.inl ⟨by kernel_rfl, ?_⟩) (by assumption) ?_
  focus (intro w hSw; (try dsimp only at hSw); go_simp; (first | done | rfl | (rw [built_en]; done)))
  try simp only [Act.put, List.setIfInBounds_toArray, List.set_cons_zero, List.set_cons_succ]
  refine wpAnyH_take (i := 11) (oi := { dst := some 18, op := Op.build 112 #[(0, Operand.tmp 16), (1, Operand.tmp 17)], type := 112, pos := "blob.go:34", after := #[{ on := 9, ground := Ground.data }, { on := 10, ground := Ground.data }], guard := none }) rfl (by kernel_rfl) (by kernel_rfl) (by kernel_rfl) (fun _ _ _ h => h) (yields_build2 (by kernel_rfl) 112 (.tmp 16) (.tmp 17) rfl (env a.x a.y PM BL.length SB) (.string (O.str BL)) rfl rfl (pkv a.x a.y PM BL.length SB BL) (fun V9 => built_pk V9)) (by assumption) ?_
  try simp only [Act.put, List.setIfInBounds_toArray, List.set_cons_zero, List.set_cons_succ]
  refine wpAnyH_ready (rs := [12]) (by kernel_rfl) (by simp) (AllReadyH.cons (o := { dst := none, op := Op.store 112 (Operand.tmp 2) (Operand.tmp 18), type := 0, pos := "blob.go:34", after := #[{ on := 11, ground := Ground.data }, { on := 8, ground := Ground.chain }, { on := 0, ground := Ground.phase }, { on := 1, ground := Ground.phase }, { on := 2, ground := Ground.phase }, { on := 3, ground := Ground.phase }, { on := 4, ground := Ground.phase }, { on := 5, ground := Ground.phase }, { on := 6, ground := Ground.phase }, { on := 7, ground := Ground.phase }, { on := 8, ground := Ground.phase }, { on := 9, ground := Ground.phase }, { on := 10, ground := Ground.phase }, { on := 11, ground := Ground.phase }], guard := none }) rfl (fun K hK => ?_) AllReadyH.nil)
  have HG := hd2r2.row (List.mem_cons_self ..)
  refine wp_store_of 112 _ _ rfl (store_pk rfl HG) ?_
  have hd3r2 := T.St.rowset (ds := (pkl a.x a.y PM BL.length SB BL).toArray) hd2r2 (by omega) (by simp)
  refine hK.out _ _ ?_ (fun hHeld => ?_)
  · exact (stl2 hd3r2)
  clear hK K
  try simp only [Act.put]
  refine wpAnyH_done (by kernel_rfl) ?_ _
  have HF := hd3r2
  go_wp2
  exact bodyPost_ret (v := pkv a.x a.y PM BL.length SB BL) (results_cell_row rfl _ _ (w.heap.size + 1) _ _ _ _ rfl (HF.row (List.mem_cons_self ..)) Tryz.underlying112 rfl (by kernel_rfl)) rfl ⟨rfl, HF.below⟩
end Go.Proofs.YtfncldaodbfakaaGreat.Z
