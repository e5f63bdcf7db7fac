/-
  The tile of residuals: cut and Inverse (contracts).
-/
import Derived.Test.YtjaipjgnchpjcaaPInvM
import Derived.Lib.BufferWrite
namespace Go.Proofs.Ytjaipjgnchpjcaa.P
open Go.RowKit T Go.Shelf
set_option maxRecDepth 100000
variable {W w w' : World} {L : List (Nat × Obj)}

theorem take_cells (l : List UInt8) (n : Nat) (h : 64 * n + 64 ≤ l.length) : (Lib.byteCells ((l.drop (64 * n)).take 64)).toArray = pc (rw4 l n) := by
  refine pc_of _ (by simp [Lib.byteCells_length]; omega) fun i hi => ?_
  have e : ((l.drop (64 * n)).take 64)[i]? = some (l[64 * n + i]'(by omega)) := by
    rw [List.getElem?_take_of_lt hi, List.getElem?_drop, List.getElem?_eq_getElem (by omega)]
  unfold Lib.byteCells rw4 i8
  rw [List.getElem?_toArray, List.getElem?_map, e, List.getD_eq_getElem?_getD, List.getElem?_eq_getElem (by omega)]; rfl
/-- 'copy(p[:], s)': the first 64 bytes of s -/
theorem run_copy64 (w : World) (ty : TypeId) (g : Nat) (s : ByteArray) (f : Nat → Int) (hg : w.heap[g]? = some (pob f)) (hs : 64 ≤ s.size) :
    (Builtin.copy_ #[28, 9] ty #[.slice (some ⟨g, 0, none⟩) 64 64, .string s]).run Try.prog w = .ok (goInt 64) (w.setRow g (Lib.byteCells (s.data.toList.take 64)).toArray) := by
  have hl : s.data.toList.length = s.size := Array.length_toList
  have hlen : (Lib.byteCells (s.data.toList.take 64)).length = 64 := by rw [Lib.byteCells_length, List.length_take]; omega
  have hst := run_storeCells_at Try.prog g 0 59 (Lib.byteCells (s.data.toList.take 64)) 0 (pc f) w hg (by rw [hlen, pc_size]; omega) (Lib.byteCells_one _)
  have hmin : Nat.min s.size 64 = 64 := Nat.min_eq_right hs
  have htk : List.take 64 (List.map (fun b : UInt8 => Value.int IntKind.u8 (b.toNat : Int)) s.data.toList) = Lib.byteCells (s.data.toList.take 64) := by
    unfold Lib.byteCells; rw [List.map_take]
  have hd : (pc f).toList.drop 64 = [] := List.drop_eq_nil_of_le (by rw [Array.length_toList, pc_size]; omega)
  rw [hlen] at hst
  simp only [Nat.add_zero, Nat.zero_add, List.take_zero, List.nil_append, hd, List.append_nil] at hst
  have hu := Try.underlying28
  obtain ⟨i0, hi, _, hz1, _⟩ := info_parts infoB
  simp [Builtin.copy_, run_underlying hu, Builtin.lenOf, Builtin.firstCells, sizeOf, typeInfo, hi, hmin]
  rw [htk, hst]
  rfl
theorem wp_copy {o : Oper} {a : Act} {K : Act → World → Prop} {Q : Exit → Act → World → Prop} {v vs vx : Value} (s x : Operand)
    (ho : o.op = .call { callee := .builtin .copy, args := #[s, x], argTypes := #[28, 9] }) (hs : a.eval s = vs) (hx : a.eval x = vx)
    (hr : (Builtin.copy_ #[28, 9] o.type #[vs, vx]).run Try.prog w = .ok v w') (h : K (a.put o.dst v) w') : o.wp Try.prog a w K Q := by
  unfold Oper.wp execOp
  simp only [ho, resolve, invoke, builtin, Sem.run_bind, Sem.run_pure, Result.andThen_ok, List.map_toArray, List.map_cons, List.map_nil, hs, hx, hr]
  exact h
set_option maxHeartbeats 2000000 in
theorem cut_any (s : ByteArray) (n : Nat) (w : World) (hn : n < 4) (hs : s.size = 256) : Calls Try.prog 29 #[.string s, .int .i64 n] w fun e w' => e = .returned (pv (rw4 s.data.toList n)) ∧ Below w.heap.size w w' := by
  have hl : s.data.toList.length = s.size := Array.length_toList
  have hez : 64 ≤ (s.extract (64 * n) 256).size := by rw [ByteArray.size_extract]; omega
  have hcell : (Lib.byteCells ((s.extract (64 * n) 256).data.toList.take 64)).toArray = pc (rw4 s.data.toList n) := by
    rw [← take_cells _ n (by omega)]
    have e : (s.extract (64 * n) 256).data.toList = s.data.toList.drop (64 * n) := by
      have e2 : (s.extract (64 * n) 256).data.toList = List.take (256 - 64 * n) (List.drop (64 * n) s.data.toList) := by simp [ByteArray.data_extract]
      rw [e2, List.take_of_length_le (by rw [List.length_drop]; omega)]
    rw [e]
  have hs2 := ((St.start w).alloc (pob zn)).alloc (pob zn)
  simp only [World.size_alloc] at hs2
  obtain ⟨b0, hb0⟩ : ∃ b0, b0 = w.heap.size := ⟨_, rfl⟩
  rw [← hb0] at hs2
  go_enter Try.func29, Try.ntmps29
  go_upto_region 2 with (refine wpList_alloc_of rfl 59 rfl _ (zero_pl _) ?_)
  try simp only [Act.put, List.setIfInBounds_toArray, List.set_cons_zero, List.set_cons_succ]
  try simp only [World.size_alloc]
  rw [← hb0]
  have HB0 := Lib.hid hb0
  have hwr : IntKind.i64.wrap ((n : Int) * 64) = ((64 * n : Nat) : Int) := by rw [IntKind.wrap_i64]; omega
  have HWR := Lib.hid hwr
  clear hb0 hwr
  generalize (w.alloc (pob zn)).alloc (pob zn) = w2 at hs2 ⊢
  have h9 := hs2
  refine wp_region_held_drew (S := fun V9 => St w [(b0, pob zn)] V9) (by kernel_rfl) ?_ (fun hHeld => ?_)
  · first | exact h9.drew | exact h9.drew.tl
  have h90 := h9.drew
  refine wpAnyH_take (i := 0) (oi := { dst := some 6, op := Op.slice 59 (Operand.tmp 5) none none none, type := 28, pos := "plane.go:44", after := #[], guard := none }) (v := ?_) rfl (by kernel_rfl) (by kernel_rfl) (by kernel_rfl) (fun _ _ _ h => h) (Or.inl ⟨by kernel_rfl, ?_⟩) (by assumption) ?_
  rotate_left 1
  focus (intro w hSw; (try dsimp only at hSw); go_simp; (try with_reducible rfl))
  try simp only [Act.put, List.setIfInBounds_toArray, List.set_cons_zero, List.set_cons_succ]
  refine wpAnyH_take (i := 1) (oi := { dst := some 7, op := Op.move (Operand.tmp 0), type := 9, pos := "plane.go:44", after := #[], guard := none }) (v := ?_) rfl (by kernel_rfl) (by kernel_rfl) (by kernel_rfl) (fun _ _ _ h => h) (Or.inl ⟨by kernel_rfl, ?_⟩) (by assumption) ?_
  rotate_left 1
  focus (intro w hSw; (try dsimp only at hSw); go_simp; (try with_reducible rfl))
  try simp only [Act.put, List.setIfInBounds_toArray, List.set_cons_zero, List.set_cons_succ]
  refine wpAnyH_take (i := 2) (oi := { dst := some 8, op := Op.move (Operand.tmp 1), type := 3, pos := "plane.go:44", after := #[], guard := none }) (v := ?_) rfl (by kernel_rfl) (by kernel_rfl) (by kernel_rfl) (fun _ _ _ h => h) (Or.inl ⟨by kernel_rfl, ?_⟩) (by assumption) ?_
  rotate_left 1
  focus (intro w hSw; (try dsimp only at hSw); go_simp; (try with_reducible rfl))
  try simp only [Act.put, List.setIfInBounds_toArray, List.set_cons_zero, List.set_cons_succ]
  refine wpAnyH_take (i := 3) (oi := { dst := some 9, op := Op.binOp BinOp.mul 3 (Operand.tmp 8) (Operand.const (Value.int IntKind.i64 64)) 3, type := 3, pos := "plane.go:44", after := #[{ on := 2, ground := Ground.data }], guard := none }) (v := (.int .i64 ((64 * n : Nat) : Int))) rfl (by kernel_rfl) (by kernel_rfl) (by kernel_rfl) (fun _ _ _ h => h) (Or.inl ⟨by kernel_rfl, ?_⟩) (by assumption) ?_
  focus (intro w hSw; (try dsimp only at hSw); go_simp; first | done | rfl | omega | (rw [HWR.out]; rfl))
  try simp only [Act.put, List.setIfInBounds_toArray, List.set_cons_zero, List.set_cons_succ]
  refine wpAnyH_take (i := 4) (oi := { dst := some 10, op := Op.slice 9 (Operand.tmp 7) (some (Operand.tmp 9)) none none, type := 9, pos := "plane.go:44", after := #[{ on := 1, ground := Ground.data }, { on := 3, ground := Ground.data }], guard := none }) (v := (.string (s.extract (64 * n) 256))) rfl (by kernel_rfl) (by kernel_rfl) (by kernel_rfl) (fun _ _ _ h => h) (Or.inl ⟨by kernel_rfl, ?_⟩) (by assumption) ?_
  focus (intro w hSw; (try dsimp only at hSw); go_simp; first | done | rfl | (rw [if_pos ⟨by omega, by omega⟩]; rfl))
  try simp only [Act.put, List.setIfInBounds_toArray, List.set_cons_zero, List.set_cons_succ]
  refine wpAnyH_ready (rs := [5]) (by kernel_rfl) (by simp) (AllReadyH.cons (o := { dst := some 11, op := Op.call { callee := Callee.builtin Builtin.copy, args := #[Operand.tmp 6, Operand.tmp 10], argTypes := #[28, 9] }, type := 3, pos := "plane.go:44", after := #[{ on := 0, ground := Ground.data }, { on := 4, ground := Ground.data }], guard := none }) rfl (fun K hK => ?_) AllReadyH.nil)
  have hcg := St.row h90 (b := b0 + 1) (o := pob zn) (by simp)
  have hcp := run_copy64 _ 3 (b0 + 1) (s.extract (64 * n) 256) zn hcg hez
  rw [hcell] at hcp
  have h91r2 := St.rowset (ds := pc (rw4 s.data.toList n)) h90 (by have := HB0.out; omega) (by first | (simp; done) | (simp; omega))
  refine wp_copy (.tmp 6) (.tmp 10) rfl rfl rfl hcp ?_
  refine hK.out _ _ ?_ (fun hHeld => ?_)
  · (first | exact h91r2 | exact h91r2.tl)
  clear hK K
  try simp only [Act.put, List.setIfInBounds_toArray, List.set_cons_zero, List.set_cons_succ]
  refine wpAnyH_done (by kernel_rfl) ?_ _
  have hz := h91r2
  generalize w2.drew.setRow (b0 + 1) (pc (rw4 s.data.toList n)) = w5 at hz ⊢
  have HL := Lib.hid (load_pl (b0 + 1) (rw4 s.data.toList n) w5 (hz.row (b := b0 + 1) (o := pob (rw4 s.data.toList n)) (by simp)))
  have HR := Lib.hid (hz.row (b := b0) (o := pob zn) (by simp))
  have HST := Lib.hid (store_pl b0 zn (rw4 s.data.toList n) w5 HR.out)
  have HB := Lib.hid hz.below
  clear hHeld hz
  go_wp2_with (first | (refine wpList_load_of rfl 59 (.tmp 5) rfl _ HL.out ?_) | (refine wpList_store_of rfl 59 (.tmp 4) (.tmp 12) rfl HST.out ?_))
  exact bodyPost_ret (v := pv (rw4 s.data.toList n)) (results_cell_row rfl _ _ b0 _ _ _ _ rfl (setRow_heap _ _ _ _ _ _ HR.out) Try.underlying59 rfl (by rw [info_pl, pc_size])) rfl ⟨rfl, T.Below.setRow HB.out (by have := HB0.out; omega) _⟩
abbrev stO (s : ByteArray) : Obj := vo (.string s) 9
theorem load_str (b : Nat) (s : ByteArray) (w : World) (h : w.heap[b]? = some (stO s)) : (Instr.loadAt 9 (ptrB b)).run Try.prog w = .ok (.string s) w := by
  have ht : (isAgg 9).run Try.prog w = .ok false w := by kernel_rfl
  have hc : w.cell? ⟨b, 0, none⟩ = some (.string s) := cell_of_row w _ 0 #[.string s] _ (0, 0) h
  simp only [Instr.loadAt, Instr.sureAddr, loadVar, Sem.run_bind, Sem.run_pure, Result.andThen_ok, ht, run_load, hc, Bool.false_eq_true, if_false]
set_option maxHeartbeats 2000000 in
theorem inv1_any (k : Nat) (s : ByteArray) (n d c : Nat) (w : World) (hn : n < 4) (hs : s.size = 256) (hd : w.heap[d]? = some (ruO k)) (hc : w.heap[c]? = some (stO s)) :
    Calls Try.prog 27 #[.int .i64 n, ptrB d, ptrB c] w fun e w' => e = .returned (pv (vs k (rw4 s.data.toList n) 64)) ∧ Below w.heap.size w w' := by
  have h9 := (St.start w).alloc (pob zn)
  obtain ⟨b0, hb0⟩ : ∃ b0, b0 = w.heap.size := ⟨_, rfl⟩
  rw [← hb0] at h9
  go_enter Try.func27, Try.ntmps27
  go_upto_region 1 with (refine wpList_alloc_of rfl 59 rfl _ (zero_pl _) ?_)
  try simp only [Act.put, List.setIfInBounds_toArray, List.set_cons_zero, List.set_cons_succ]
  rw [← hb0]
  have HB0 := Lib.hid hb0
  clear hb0
  generalize w.alloc (pob zn) = w2 at h9 ⊢
  refine wp_region_held_drew (S := fun V9 => St w [] V9) (by kernel_rfl) ?_ (fun hHeld => ?_)
  · first | exact h9.drew | exact h9.drew.tl
  have h90 := h9.drew
  refine wpAnyH_take (i := 0) (oi := { dst := some 5, op := Op.load 55 (Operand.tmp 1), type := 55, pos := "predict.go:25", after := #[], guard := none }) rfl (by kernel_rfl) (by kernel_rfl) (by kernel_rfl) (fun _ _ _ h => h) (yields_load (by kernel_rfl) 55 (.tmp 1) rfl (ruV k) (fun V hV => load_ru d k V (old_row hd (St.below hV)))) (by assumption) ?_
  try simp only [Act.put, List.setIfInBounds_toArray, List.set_cons_zero, List.set_cons_succ]
  refine wpAnyH_take (i := 1) (oi := { dst := some 6, op := Op.load 9 (Operand.tmp 2), type := 9, pos := "predict.go:25", after := #[], guard := none }) rfl (by kernel_rfl) (by kernel_rfl) (by kernel_rfl) (fun _ _ _ h => h) (yields_load (by kernel_rfl) 9 (.tmp 2) rfl (.string s) (fun V hV => load_str c s V (old_row hc (St.below hV)))) (by assumption) ?_
  try simp only [Act.put, List.setIfInBounds_toArray, List.set_cons_zero, List.set_cons_succ]
  refine wpAnyH_take (i := 2) (oi := { dst := some 7, op := Op.move (Operand.tmp 0), type := 3, pos := "predict.go:25", after := #[], guard := none }) (v := ?_) rfl (by kernel_rfl) (by kernel_rfl) (by kernel_rfl) (fun _ _ _ h => h) (Or.inl ⟨by kernel_rfl, ?_⟩) (by assumption) ?_
  rotate_left 1
  focus (intro w hSw; (try dsimp only at hSw); go_simp; (try with_reducible rfl))
  try simp only [Act.put, List.setIfInBounds_toArray, List.set_cons_zero, List.set_cons_succ]
  refine wpAnyH_ready (rs := [3]) (by kernel_rfl) (by simp) (AllReadyH.cons (o := { dst := some 8, op := Op.call { callee := Callee.value (Operand.func 29), args := #[Operand.tmp 6, Operand.tmp 7], argTypes := #[9, 3] }, type := 59, pos := "predict.go:25", after := #[{ on := 1, ground := Ground.data }, { on := 2, ground := Ground.data }], guard := none }) rfl (fun K hK => ?_) AllReadyH.nil)
  (go_simp; (go_at_call 29; (refine (St.call h90 (cut_any s n _ hn hs)).mono ?_); rintro e V1r1 ⟨rfl, h91r1⟩))
  refine hK.out _ _ ?_ (fun hHeld => ?_)
  · (first | exact h91r1 | exact h91r1.tl)
  clear hK K
  try simp only [Act.put, List.setIfInBounds_toArray, List.set_cons_zero, List.set_cons_succ]
  refine wpAnyH_ready (rs := [4]) (by kernel_rfl) (by simp) (AllReadyH.cons (o := { dst := some 9, op := Op.call { callee := Callee.value (Operand.func 28), args := #[Operand.tmp 5, Operand.tmp 8], argTypes := #[55, 59] }, type := 59, pos := "predict.go:25", after := #[{ on := 0, ground := Ground.data }, { on := 3, ground := Ground.data }, { on := 3, ground := Ground.chain }], guard := none }) rfl (fun K hK => ?_) AllReadyH.nil)
  (go_simp; (go_at_call 28; (refine (St.call h91r1 (vals_any k (rw4 s.data.toList n) _)).mono ?_); rintro e V2r1 ⟨rfl, h92r1⟩))
  refine hK.out _ _ ?_ (fun hHeld => ?_)
  · (first | exact h92r1 | exact h92r1.tl)
  clear hK K
  try simp only [Act.put, List.setIfInBounds_toArray, List.set_cons_zero, List.set_cons_succ]
  refine wpAnyH_ready (rs := [5]) (by kernel_rfl) (by simp) (AllReadyH.cons (o := { dst := none, op := Op.store 59 (Operand.tmp 4) (Operand.tmp 9), type := 0, pos := "predict.go:25", after := #[{ on := 4, ground := Ground.data }, { on := 4, ground := Ground.chain }, { on := 0, ground := Ground.phase }, { on := 1, ground := Ground.phase }, { on := 2, ground := Ground.phase }, { on := 3, ground := Ground.phase }, { on := 4, ground := Ground.phase }], guard := none }) rfl (fun K hK => ?_) AllReadyH.nil)
  have hst := store_pl b0 zn (vs k (rw4 s.data.toList n) 64) _ (St.row h92r1 (b := b0) (o := pob zn) (by simp))
  have h93r1 := St.rowset (ds := pc (vs k (rw4 s.data.toList n) 64)) h92r1 (by have := HB0.out; omega) (by simp)
  refine wp_store_of 59 (.tmp 4) (.tmp 9) rfl hst ?_
  refine hK.out _ _ ?_ (fun hHeld => ?_)
  · (first | exact h93r1 | exact h93r1.tl)
  clear hK K
  try simp only [Act.put]
  refine wpAnyH_done (by kernel_rfl) ?_ _
  go_wp2
  have hz := h93r1
  clear hHeld
  exact bodyPost_ret (v := pv (vs k (rw4 s.data.toList n) 64)) (results_cell_row rfl _ _ b0 _ _ _ _ rfl (hz.row (b := b0) (o := pob (vs k (rw4 s.data.toList n) 64)) (by simp)) Try.underlying59 rfl (by rw [info_pl, pc_size])) rfl ⟨rfl, hz.below⟩
end Go.Proofs.Ytjaipjgnchpjcaa.P
