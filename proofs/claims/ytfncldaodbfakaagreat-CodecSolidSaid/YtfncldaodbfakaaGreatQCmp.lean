/-
  Comparisons of numbers and of positions; positions within the limits (contracts). The search for a position among tiles in order (contracts). The tile at a position: the first among tiles in any order, and among tiles in order (contracts).
-/
import Derived.Test.YtfncldaodbfakaaGreatQPos
import Derived.Shelf.Abstract
import Derived.Laws.ResultCell
namespace Go.Proofs.YtfncldaodbfakaaGreat.Q
open Go.RowKit T Go.Shelf
set_option maxRecDepth 100000
variable {V W w : World} {L : List (Nat × Obj)}

theorem nan_any (x : Int) (w : World) : Calls Tryz.prog 174 #[.int .i64 x] w fun e w' => e = .returned (.bool false) ∧ w = w' := by
  go_enter Tryz.func174, Tryz.ntmps174
  go_wp2
  all_goals go_ret
  all_goals exact ⟨ret_bool (by simp), rfl⟩
theorem compare_any (a b : Int) (w : World) : Calls Tryz.prog 146 #[.int .i64 a, .int .i64 b] w fun e w' => e = .returned (.int .i64 (cmpI a b)) ∧ w = w' := by
  go_enter Tryz.func146, Tryz.ntmps146
  go_wp2_with (go_at_call 174; (refine (nan_any _ _).mono ?_); rintro e w' ⟨rfl, rfl⟩)
  all_goals go_ret
  all_goals exact ⟨ret_int (by unfold cmpI; split <;> (try split) <;> omega), rfl⟩
/-- the first of two numbers that is not 0 -/
def orI (x y : Int) : Int := if x = 0 then y else x
theorem or_any (b : Nat) (x y : Int) (w : World) (h : w.heap[b]? = some (.cells #[.int .i64 x, .int .i64 y] 3)) :
    Calls Tryz.prog 145 #[.slice (some ⟨b, 0, none⟩) 2 2] w fun e w' => e = .returned (.int .i64 (orI x y)) ∧ w = w' := by
  have h0 : w.cell? ⟨b, 0, none⟩ = some (.int .i64 x) := cell_of_row w b 0 _ _ _ h
  have h1 : w.cell? ⟨b, 1, none⟩ = some (.int .i64 y) := cell_of_row w b 1 _ _ _ h
  clear h
  go_enter Tryz.func145, Tryz.ntmps145
  go_wp2_with fail
  go_loopw [8] (fun i wr => ∃ k : Nat, k ≤ 2 ∧ i = .int .i64 k ∧ wr = w ∧ (1 ≤ k → x = 0) ∧ (2 ≤ k → y = 0)) (fun i _ => 2 - (intOf i).toNat)
  case atStart => exact ⟨0, by omega, rfl, rfl, fun h => by omega, fun h => by omega⟩
  case round =>
    obtain ⟨k, hk, rfl, rfl, hx, hy⟩ := hrel
    have : k = 0 ∨ k = 1 ∨ k = 2 := by omega
    rcases this with rfl | rfl | rfl
    · by_cases e : x = 0
      · subst e
        go_wp2
        go_roundw
        case rel => exact ⟨1, by omega, by first | rfl | simp, by first | rfl | trivial, by simp, by simp⟩
        case measure => simp [intOf]
      · have e2 : (x != 0) = true := by simpa using e
        go_wp2
        go_ret
        exact ⟨ret_int (by unfold orI; simp [*]), rfl⟩
    · obtain rfl := hx (by omega)
      by_cases e : y = 0
      · subst e
        go_wp2
        go_roundw
        case rel => exact ⟨2, by omega, by first | rfl | simp, by first | rfl | trivial, by simp, by simp⟩
        case measure => simp [intOf]
      · have e2 : (y != 0) = true := by simpa using e
        go_wp2
        go_ret
        exact ⟨ret_int (by unfold orI; simp [*]), rfl⟩
    · obtain rfl := hx (by omega)
      obtain rfl := hy (by omega)
      go_wp2
      go_ret
      exact ⟨ret_int (by simp [orI]), rfl⟩
theorem ld_po2 {b : Nat} {x y : Int} (h : St W L V) (hm : (b, po2 x y) ∈ L) : (Instr.loadAt 3 (.pointer (some ⟨b, 0, none⟩))).run Tryz.prog V = .ok (.int .i64 x) V ∧ (Instr.loadAt 3 (.pointer (some ⟨b, 1, none⟩))).run Tryz.prog V = .ok (.int .i64 y) V := by
  have ht : (isAgg 3).run Tryz.prog V = .ok false V := by kernel_rfl
  have h0 : V.cell? ⟨b, 0, none⟩ = some (.int .i64 x) := h.cell hm 0
  have h1 : V.cell? ⟨b, 1, none⟩ = some (.int .i64 y) := h.cell hm 1
  constructor
  · simp only [Instr.loadAt, Instr.sureAddr, loadVar, Sem.run_bind, Sem.run_pure, Result.andThen_ok, ht, run_load, h0, Bool.false_eq_true, if_false]
  · simp only [Instr.loadAt, Instr.sureAddr, loadVar, Sem.run_bind, Sem.run_pure, Result.andThen_ok, ht, run_load, h1, Bool.false_eq_true, if_false]
set_option maxHeartbeats 4000000 in
theorem cmpP_any (ax ay bx yb : Int) (w : World) : Calls Tryz.prog 105 #[pv2 ax ay, pv2 bx yb] w fun e w' => e = .returned (.int .i64 (cmpP ax ay bx yb)) ∧ Below w.heap.size w w' := by
  have h1 := ((St.start w).alloc (po2 ax ay)).alloc (po2 bx yb)
  simp only [World.size_alloc] at h1
  go_enter Tryz.func105, Tryz.ntmps105
  go_upto_region 1 with fail
  generalize w.heap.size + 1 = b1 at h1 ⊢
  generalize (w.alloc (po2 ax ay)).alloc (po2 bx yb) = V1 at h1 ⊢
  refine wp_region_held_drew (S := fun V9 => St w [(b1, po2 bx yb), (w.heap.size, po2 ax ay)] V9) (by kernel_rfl) ?_ (fun hHeld => ?_)
  · first | exact h1.drew | exact h1.drew.tl
  have h10 := h1.drew
  refine wpAnyH_take (i := 0) (oi := { dst := some 5, op := Op.fieldAddr 40 (Operand.tmp 2) 1, type := 0, pos := "raster.go:98", after := #[], guard := none }) (v := ?_) rfl (by kernel_rfl) (by kernel_rfl) (by kernel_rfl) (fun _ _ _ h => h) (Or.inl ⟨by kernel_rfl, ?_⟩) (by assumption) ?_
  rotate_left 1
  focus (intro w hSw; (try dsimp only at hSw); go_simp; (try with_reducible rfl))
  try simp only [Act.put, List.setIfInBounds_toArray, List.set_cons_zero, List.set_cons_succ]
  refine wpAnyH_take (i := 1) (oi := { dst := some 6, op := Op.load 3 (Operand.tmp 5), type := 3, pos := "raster.go:98", after := #[{ on := 0, ground := Ground.data }], guard := none }) rfl (by kernel_rfl) (by kernel_rfl) (by kernel_rfl) (fun _ _ _ h => h) (yields_load (by kernel_rfl) 3 (.tmp 5) rfl (.int .i64 ay) (fun V hV => (ld_po2 (b := w.heap.size) (x := ax) (y := ay) hV (by simp)).2)) (by assumption) ?_
  try simp only [Act.put, List.setIfInBounds_toArray, List.set_cons_zero, List.set_cons_succ]
  refine wpAnyH_take (i := 2) (oi := { dst := some 7, op := Op.fieldAddr 40 (Operand.tmp 3) 1, type := 0, pos := "raster.go:98", after := #[], guard := none }) (v := ?_) rfl (by kernel_rfl) (by kernel_rfl) (by kernel_rfl) (fun _ _ _ h => h) (Or.inl ⟨by kernel_rfl, ?_⟩) (by assumption) ?_
  rotate_left 1
  focus (intro w hSw; (try dsimp only at hSw); go_simp; (try with_reducible rfl))
  try simp only [Act.put, List.setIfInBounds_toArray, List.set_cons_zero, List.set_cons_succ]
  refine wpAnyH_take (i := 3) (oi := { dst := some 8, op := Op.load 3 (Operand.tmp 7), type := 3, pos := "raster.go:98", after := #[{ on := 2, ground := Ground.data }], guard := none }) rfl (by kernel_rfl) (by kernel_rfl) (by kernel_rfl) (fun _ _ _ h => h) (yields_load (by kernel_rfl) 3 (.tmp 7) rfl (.int .i64 yb) (fun V hV => (ld_po2 (b := b1) (x := bx) (y := yb) hV (by simp)).2)) (by assumption) ?_
  try simp only [Act.put, List.setIfInBounds_toArray, List.set_cons_zero, List.set_cons_succ]
  refine wpAnyH_take (i := 5) (oi := { dst := some 10, op := Op.fieldAddr 40 (Operand.tmp 2) 0, type := 0, pos := "raster.go:98", after := #[], guard := none }) (v := ?_) rfl (by kernel_rfl) (by kernel_rfl) (by kernel_rfl) (fun _ _ _ h => h) (Or.inl ⟨by kernel_rfl, ?_⟩) (by assumption) ?_
  rotate_left 1
  focus (intro w hSw; (try dsimp only at hSw); go_simp; (try with_reducible rfl))
  try simp only [Act.put, List.setIfInBounds_toArray, List.set_cons_zero, List.set_cons_succ]
  refine wpAnyH_take (i := 6) (oi := { dst := some 11, op := Op.load 3 (Operand.tmp 10), type := 3, pos := "raster.go:98", after := #[{ on := 5, ground := Ground.data }], guard := none }) rfl (by kernel_rfl) (by kernel_rfl) (by kernel_rfl) (fun _ _ _ h => h) (yields_load (by kernel_rfl) 3 (.tmp 10) rfl (.int .i64 ax) (fun V hV => (ld_po2 (b := w.heap.size) (x := ax) (y := ay) hV (by simp)).1)) (by assumption) ?_
  try simp only [Act.put, List.setIfInBounds_toArray, List.set_cons_zero, List.set_cons_succ]
  refine wpAnyH_take (i := 7) (oi := { dst := some 12, op := Op.fieldAddr 40 (Operand.tmp 3) 0, type := 0, pos := "raster.go:98", after := #[], guard := none }) (v := ?_) rfl (by kernel_rfl) (by kernel_rfl) (by kernel_rfl) (fun _ _ _ h => h) (Or.inl ⟨by kernel_rfl, ?_⟩) (by assumption) ?_
  rotate_left 1
  focus (intro w hSw; (try dsimp only at hSw); go_simp; (try with_reducible rfl))
  try simp only [Act.put, List.setIfInBounds_toArray, List.set_cons_zero, List.set_cons_succ]
  refine wpAnyH_take (i := 8) (oi := { dst := some 13, op := Op.load 3 (Operand.tmp 12), type := 3, pos := "raster.go:98", after := #[{ on := 7, ground := Ground.data }], guard := none }) rfl (by kernel_rfl) (by kernel_rfl) (by kernel_rfl) (fun _ _ _ h => h) (yields_load (by kernel_rfl) 3 (.tmp 12) rfl (.int .i64 bx) (fun V hV => (ld_po2 (b := b1) (x := bx) (y := yb) hV (by simp)).1)) (by assumption) ?_
  try simp only [Act.put, List.setIfInBounds_toArray, List.set_cons_zero, List.set_cons_succ]
  refine wpAnyH_ready (rs := [4]) (by kernel_rfl) (by simp) (AllReadyH.cons (o := { dst := some 9, op := Op.call { callee := Callee.value (Operand.func 146), args := #[Operand.tmp 6, Operand.tmp 8], argTypes := #[3, 3] }, type := 3, pos := "raster.go:98", after := #[{ on := 1, ground := Ground.data }, { on := 3, ground := Ground.data }], guard := none }) rfl (fun K hK => ?_) AllReadyH.nil)
  (go_simp; (go_at_call 146; (refine (compare_any _ _ _).mono ?_); rintro e V1r1 ⟨rfl, rfl⟩))
  refine hK.out _ _ ?_ (fun hHeld => ?_)
  · (first | exact h10 | exact h10.tl)
  clear hK K
  try simp only [Act.put, List.setIfInBounds_toArray, List.set_cons_zero, List.set_cons_succ]
  refine wpAnyH_ready (rs := [9]) (by kernel_rfl) (by simp) (AllReadyH.cons (o := { dst := some 14, op := Op.call { callee := Callee.value (Operand.func 146), args := #[Operand.tmp 11, Operand.tmp 13], argTypes := #[3, 3] }, type := 3, pos := "raster.go:98", after := #[{ on := 6, ground := Ground.data }, { on := 8, ground := Ground.data }, { on := 4, ground := Ground.chain }], guard := none }) rfl (fun K hK => ?_) AllReadyH.nil)
  (go_simp; (go_at_call 146; (refine (compare_any _ _ _).mono ?_); rintro e V1r1 ⟨rfl, rfl⟩))
  refine hK.out _ _ ?_ (fun hHeld => ?_)
  · (first | exact h10 | exact h10.tl)
  clear hK K
  try simp only [Act.put, List.setIfInBounds_toArray, List.set_cons_zero, List.set_cons_succ]
  refine wpAnyH_ready (rs := [10]) (by kernel_rfl) (by simp) (AllReadyH.cons (o := { dst := some 15, op := Op.buildSlice 22 2 #[(0, Operand.tmp 9), (1, Operand.tmp 14)], type := 22, pos := "raster.go:98", after := #[{ on := 4, ground := Ground.data }, { on := 9, ground := Ground.data }], guard := none }) rfl (fun K hK => ?_) AllReadyH.nil)
  go_simp
  have h11r1 := h10.alloc (.cells #[.int .i64 (cmpI ay yb), .int .i64 (cmpI ax bx)] 3)
  refine hK.out _ _ ?_ (fun hHeld => ?_)
  · (first | exact h11r1 | exact h11r1.tl)
  clear hK K
  try simp only [Act.put, List.setIfInBounds_toArray, List.set_cons_zero, List.set_cons_succ]
  refine wpAnyH_ready (rs := [11]) (by kernel_rfl) (by simp) (AllReadyH.cons (o := { dst := some 16, op := Op.call { callee := Callee.value (Operand.func 145), args := #[Operand.tmp 15], argTypes := #[22] }, type := 3, pos := "raster.go:98", after := #[{ on := 10, ground := Ground.data }, { on := 9, ground := Ground.chain }], guard := none }) rfl (fun K hK => ?_) AllReadyH.nil)
  (go_simp; (go_at_call 145; (refine (or_any _ _ _ _ (h11r1.row (List.mem_cons_self ..))).mono ?_); rintro e V2r1 ⟨rfl, rfl⟩))
  have h12r1 := h11r1
  refine hK.out _ _ ?_ (fun hHeld => ?_)
  · (first | exact h12r1 | exact h12r1.tl)
  clear hK K
  try simp only [Act.put, List.setIfInBounds_toArray, List.set_cons_zero, List.set_cons_succ]
  refine wpAnyH_take (i := 12) (oi := { dst := some 4, op := Op.assign (Operand.tmp 16), type := 3, pos := "raster.go:98", after := #[{ on := 11, ground := Ground.data }, { on := 11, ground := Ground.chain }, { on := 0, ground := Ground.phase }, { on := 1, ground := Ground.phase }, { on := 2, ground := Ground.phase }, { on := 3, ground := Ground.phase }, { on := 4, ground := Ground.phase }, { on := 5, ground := Ground.phase }, { on := 6, ground := Ground.phase }, { on := 7, ground := Ground.phase }, { on := 8, ground := Ground.phase }, { on := 9, ground := Ground.phase }, { on := 10, ground := Ground.phase }, { on := 11, ground := Ground.phase }], guard := none }) (v := ?_) rfl (by kernel_rfl) (by kernel_rfl) (by kernel_rfl) (fun _ _ _ h => h) (Or.inl ⟨by kernel_rfl, ?_⟩) (by assumption) ?_
  rotate_left 1
  focus (intro w hSw; (try dsimp only at hSw); go_simp; (try with_reducible rfl))
  try simp only [Act.put, List.setIfInBounds_toArray, List.set_cons_zero, List.set_cons_succ]
  refine wpAnyH_done (by kernel_rfl) ?_ _
  have HB := Lib.hid h12r1.below
  go_wp2_with fail
  go_ret
  exact ⟨rfl, HB.out⟩
/-- within the limits -/
def wth (n x y : Int) : Bool := decide (-n ≤ x) && decide (x < n) && decide (-n ≤ y) && decide (y < n)
theorem wth_iff (n x y : Int) : wth n x y = true ↔ (-n ≤ x ∧ x < n) ∧ -n ≤ y ∧ y < n := by unfold wth; simp; omega
theorem within_any (n x y : Int) (w : World) (hn : 0 ≤ n) (hn2 : n ≤ 1000000) : Calls Tryz.prog 144 #[.int .i64 n, .int .i64 x, .int .i64 y] w fun e w' => e = .returned (.bool (wth n x y)) ∧ w = w' := by
  have hw : wrap64 (-n) = -n := by unfold wrap64; omega
  go_enter Tryz.func144, Tryz.ntmps144
  go_wp2
  all_goals go_ret
  all_goals exact ⟨ret_bool (by first | (simp [wth, *]; done) | (simp [wth, *]; omega)), rfl⟩
theorem vpos_any (x y : Int) (w : World) : Calls Tryz.prog 103 #[pv2 x y] w fun e w' => e = .returned (.bool (wth 8192 x y)) ∧ Below w.heap.size w w' := by
  go_enter Tryz.func103, Tryz.ntmps103
  go_wp2_with (go_at_call 144; (refine (within_any _ _ _ _ (by omega) (by omega)).mono ?_); rintro e w' ⟨rfl, rfl⟩)
  all_goals go_ret
  all_goals exact ⟨rfl, by first | assumption | with_reducible exact below1⟩
end Go.Proofs.YtfncldaodbfakaaGreat.Q

namespace Go.Proofs.YtfncldaodbfakaaGreat.Q
open Go.RowKit T Go.Shelf
set_option maxRecDepth 100000
variable {V W w : World}

theorem row_st {b : Nat} {o : Obj} (h : St W [] V) (hb : W.heap[b]? = some o) : V.heap[b]? = some o := (h.below.block b (Array.getElem?_eq_some_iff.1 hb).1).trans hb
theorem ld_pos2 {b : Nat} {x y : Int} (h : V.heap[b]? = some (po2 x y)) : (Instr.loadAt 40 (.pointer (some ⟨b, 0, none⟩))).run Tryz.prog V = .ok (pv2 x y) V := by
  have h2 : V.rangeAt b 0 [.int .i64 x, .int .i64 y] := fun j v hv => by
    rw [Nat.zero_add, cell_of_row V b j _ _ (0, 0) h]; simpa using hv
  exact run_loadAt_mid V b 0 40 _ _ h2 Tryz.underlying40 rfl (by kernel_rfl)
abbrev slo (p : Option Addr) (n c : Nat) : Obj := .cells #[.slice p n c] 24
theorem ld_sl {b n c : Nat} {p : Option Addr} (h : V.heap[b]? = some (slo p n c)) : (Instr.loadAt 24 (.pointer (some ⟨b, 0, none⟩))).run Tryz.prog V = .ok (.slice p n c) V := by
  have ht : (isAgg 24).run Tryz.prog V = .ok false V := by kernel_rfl
  have h0 : V.cell? ⟨b, 0, none⟩ = some (.slice p n c) := cell_of_row V b 0 _ _ (0, 0) h
  simp only [Instr.loadAt, Instr.sureAddr, loadVar, Sem.run_bind, Sem.run_pure, Result.andThen_ok, ht, run_load, h0, Bool.false_eq_true, if_false]
end Go.Proofs.YtfncldaodbfakaaGreat.Q

namespace Go.Proofs.YtfncldaodbfakaaGreat.Q
open Go.RowKit T Go.Shelf
set_option maxRecDepth 100000
variable {V W w : World} {L : List (Nat × Obj)}

theorem eq_int (d : Nat) (a b : Int) (w : World) : (Op.equalIn (d + 1) 3 (.int .i64 a) (.int .i64 b)).run Tryz.prog w = .ok (a == b) w := run_equalIn_int w d _ _ _ a b Tryz.underlying3
theorem eq_pos (d : Nat) (a b x y : Int) (w : World) : (Op.equalIn (d + 1 + 1) 40 (pv2 a b) (pv2 x y)).run Tryz.prog w = .ok (decide (a = x ∧ b = y)) w := by
  rw [run_equalIn_struct w (d + 1) 40 _ _ (by kernel_rfl) (by kernel_rfl)]
  have hfl : (Tryz.prog.fieldsOf 40).toList.map (fun f => (f.name, f.type, f.offset)) = [("X", 3, 0), ("Y", 3, 1)] := by kernel_rfl
  generalize (Tryz.prog.fieldsOf 40).toList = fs at hfl
  obtain ⟨f0, r0, rfl, h0, e0⟩ := List.map_eq_cons_iff.1 hfl
  obtain ⟨f1, r1, rfl, h1, e1⟩ := List.map_eq_cons_iff.1 e0
  obtain rfl := List.map_eq_nil_iff.1 e1
  simp only [Prod.mk.injEq] at h0 h1
  have p0 : ∀ x y : Int, ∀ V, (part 3 #[Value.int .i64 x, .int .i64 y] 0).run Tryz.prog V = .ok (.int .i64 x) V := fun _ _ _ => rfl
  have p1 : ∀ x y : Int, ∀ V, (part 3 #[Value.int .i64 x, .int .i64 y] 1).run Tryz.prog V = .ok (.int .i64 y) V := fun _ _ _ => rfl
  have hd : decide (a = x ∧ b = y) = ((a == x) && (b == y)) := by rw [Bool.eq_iff_iff]; simp
  rw [hd]
  simp only [Op.eqFields, h0.1, h0.2.1, h0.2.2, h1.1, h1.2.1, h1.2.2]
  cases a0 : a == x <;> cases a1 : b == y <;>
    simp only [ne_eq, String.reduceEq, not_false_eq_true, if_true, Sem.run_bind, p0, p1, eq_int, a0, a1, Result.andThen_ok, Sem.run_ite, Sem.run_pure, Bool.not_true, Bool.not_false, Bool.false_eq_true, if_false, Bool.and_true, Bool.and_false]
theorem eql_pos (a b x y : Int) (w : World) : (Go.binOp .eql 40 (pv2 a b) (pv2 x y)).run Tryz.prog w = .ok (.bool (decide (a = x ∧ b = y))) w := by
  rw [run_eql_struct, show (10000 : Nat) = 9998 + 1 + 1 from rfl, eq_pos]; rfl
theorem neq_pos (a b x y : Int) (w : World) : (Go.binOp .neq 40 (pv2 a b) (pv2 x y)).run Tryz.prog w = .ok (.bool (!decide (a = x ∧ b = y))) w := by
  rw [run_neq_struct, show (10000 : Nat) = 9998 + 1 + 1 from rfl, eq_pos]; rfl
theorem guard_pos : Tryz.prog.eqGuardType Tryz.prog.depth 40 = false := by kernel_rfl
/-- a raster as a value, in memory -/
abbrev rv1 (p : Option Addr) (n c : Nat) : Value := .agg #[.slice p n c]
abbrev rob (p : Option Addr) (n c : Nat) : Obj := .cells #[.slice p n c] 26
theorem ld_slc {b n c : Nat} {p : Option Addr} {t : TypeId} (h : V.heap[b]? = some (.cells #[.slice p n c] t)) : (Instr.loadAt 24 (.pointer (some ⟨b, 0, none⟩))).run Tryz.prog V = .ok (.slice p n c) V := by
  have ht : (isAgg 24).run Tryz.prog V = .ok false V := by kernel_rfl
  have h0 : V.cell? ⟨b, 0, none⟩ = some (.slice p n c) := cell_of_row V b 0 _ _ (0, 0) h
  simp only [Instr.loadAt, Instr.sureAddr, loadVar, Sem.run_bind, Sem.run_pure, Result.andThen_ok, ht, run_load, h0, Bool.false_eq_true, if_false]
/-- a tile as a result -/
theorem ret_tile {fn : Func} {p : Tmp} (h : fn.results = #[.cell p 38]) (tmps : Array Value) (w : World) (b : Nat) (f : Nat → Px) (hp : tmps.getD p undef = .pointer (some ⟨b, 0, none⟩)) (hr : w.heap[b]? = some (tob f)) : (results fn tmps).run Tryz.prog w = .ok (tv f) w :=
  results_cell_row h tmps w b _ _ _ _ hp hr Tryz.underlying38 rfl (by rw [info_tile, tc_size])
/-- the tile of the first k elements -/
theorem atT_take {l : List TA} {x y : Int} {k : Nat} (h : ∀ i a, i < k → l[i]? = some a → ¬ (a.x = x ∧ a.y = y)) : atT l x y = atT (l.drop k) x y := by
  induction k generalizing l with
  | zero => rfl
  | succ k ih =>
    cases l with
    | nil => rfl
    | cons a r =>
      have h0 := h 0 a (by omega) rfl
      show (if a.x = x ∧ a.y = y then a.t else atT r x y) = _
      rw [if_neg h0]
      exact ih fun i b hi hb => h (i + 1) b (by omega) (by simpa using hb)
theorem atT_hitk {l : List TA} {x y : Int} {k : Nat} {a : TA} (h : ∀ i a, i < k → l[i]? = some a → ¬ (a.x = x ∧ a.y = y)) (ha : l[k]? = some a) (he : a.x = x ∧ a.y = y) : atT l x y = a.t := by
  rw [atT_take h]
  have hk := (List.getElem?_eq_some_iff.1 ha).1
  rw [List.drop_eq_getElem_cons hk]
  have : l[k] = a := (List.getElem?_eq_some_iff.1 ha).2
  rw [this]
  show (if a.x = x ∧ a.y = y then a.t else _) = _
  rw [if_pos he]
theorem atT_none {l : List TA} {x y : Int} (h : ∀ i a, i < l.length → l[i]? = some a → ¬ (a.x = x ∧ a.y = y)) : atT l x y = z0 := by
  rw [atT_take h, List.drop_length]; rfl
set_option maxHeartbeats 4000000 in
theorem tile_any (p : Option Addr) (n c : Nat) (l : List TA) (x y : Int) (w : World) (hr : RS w p n c l) :
    Calls Tryz.prog 24 #[rv1 p n c, pv2 x y] w fun e w' => e = .returned (tv (atT l x y)) ∧ Below w.heap.size w w' := by
  have hs := (((St.start w).alloc (rob p n c)).alloc (po2 x y)).alloc (tob z0)
  simp only [World.size_alloc] at hs
  have hb0 : w.heap.size ≤ w.heap.size := Nat.le_refl _
  have hb1 : w.heap.size ≤ w.heap.size + 1 := by omega
  have hb2 : w.heap.size ≤ w.heap.size + 1 + 1 := by omega
  have HN := Lib.hid hr.len
  have HM := Lib.hid hr.sml
  have HR := Lib.hid hr
  have H1 := Lib.hid hs
  have hzt := zero_tile
  have HB2 := Lib.hid hb2
  clear hr hs hb0 hb1 hb2
  go_enter Tryz.func24, Tryz.ntmps24
  go_upto_region 1 with fail
  have e1 : ((w.alloc (.cells #[.slice p n c] 26)).alloc (.cells #[.int .i64 x, .int .i64 y] 40)).alloc (.cells (tc z0) 38) = ((w.alloc (rob p n c)).alloc (po2 x y)).alloc (tob z0) := rfl
  try rw [e1]
  clear e1 hzt
  generalize ((w.alloc (rob p n c)).alloc (po2 x y)).alloc (tob z0) = V1 at H1 ⊢
  have HBW : Hid (∀ b1 b2 : Nat, b1 = b1) := fun _ _ => rfl
  clear HBW
  generalize hb0 : w.heap.size + 1 + 1 = b2 at H1 HB2 ⊢
  generalize hb1 : w.heap.size + 1 = b1 at H1 ⊢
  obtain ⟨b0, hb⟩ : ∃ b0, b0 = w.heap.size := ⟨_, rfl⟩
  have HE : Hid (b0 = w.heap.size) := hb
  have H1 : Hid (St w [(b2, tob z0), (b1, po2 x y), (b0, rob p n c)] V1) := by rw [hb]; exact H1
  rw [← hb]
  have HNE : Hid (b1 ≠ b2 ∧ b0 ≠ b2) := Lib.hid (by omega)
  clear hb0 hb1 hb
  have HL0 := Lib.hid (ld_slc (H1.out.row (b := b0) (o := rob p n c) (by simp)))
  have hsz := HM.out
  go_upto_region 2 with (first | (refine wpList_load_of rfl 24 (.tmp 6) rfl _ HL0.out ?_))
  clear HL0
  go_loopw [9] (fun i wr => ∃ k : Nat, k ≤ n ∧ i = .int .i64 k ∧ Hid (∀ i a, i < k → l[i]? = some a → ¬ (a.x = x ∧ a.y = y)) ∧ Hid (St w [(b2, tob z0), (b1, po2 x y), (b0, rob p n c)] wr)) (fun i _ => n - (intOf i).toNat)
  case atStart => exact ⟨0, by omega, rfl, fun i a hi => by omega, H1⟩
  case round =>
    obtain ⟨k, hk, rfl, HO, HT⟩ := hrel
    by_cases hlt : k < n
    · obtain ⟨a, ha⟩ : ∃ a, l[k]? = some a := ⟨l[k]'(by have := HN.out; omega), List.getElem?_eq_getElem _⟩
      have h1 := HT.out
      have hix := index_ta HR.out hlt
      go_upto_region 4 with fail
      refine wp_region_held_drew (S := fun V9 => St w [(b2, tob z0), (b1, po2 x y), (b0, rob p n c)] V9) (by kernel_rfl) ?_ (fun hHeld => ?_)
      · first | exact h1.drew | exact h1.drew.tl
      have h10 := h1.drew
      refine wpAnyH_take (i := 0) (oi := { dst := some 12, op := Op.fieldAddr 26 (Operand.tmp 2) 0, type := 0, pos := "raster.go:52", after := #[], guard := none }) (v := ?_) rfl (by kernel_rfl) (by kernel_rfl) (by kernel_rfl) (fun _ _ _ h => h) (Or.inl ⟨by kernel_rfl, ?_⟩) (by assumption) ?_
      rotate_left 1
      focus (intro w hSw; (try dsimp only at hSw); go_simp; (try with_reducible rfl))
      try simp only [Act.put, List.setIfInBounds_toArray, List.set_cons_zero, List.set_cons_succ]
      refine wpAnyH_take (i := 1) (oi := { dst := some 13, op := Op.load 24 (Operand.tmp 12), type := 24, pos := "raster.go:52", after := #[{ on := 0, ground := Ground.data }], guard := none }) rfl (by kernel_rfl) (by kernel_rfl) (by kernel_rfl) (fun _ _ _ h => h) (yields_load (by kernel_rfl) 24 (.tmp 12) rfl (.slice p n c) (fun V9 hV => ld_slc (hV.row (b := b0) (o := rob p n c) (by simp)))) (by assumption) ?_
      try simp only [Act.put, List.setIfInBounds_toArray, List.set_cons_zero, List.set_cons_succ]
      refine wpAnyH_take (i := 2) (oi := { dst := some 14, op := Op.move (Operand.tmp 5), type := 3, pos := "raster.go:52", after := #[], guard := none }) (v := ?_) rfl (by kernel_rfl) (by kernel_rfl) (by kernel_rfl) (fun _ _ _ h => h) (Or.inl ⟨by kernel_rfl, ?_⟩) (by assumption) ?_
      rotate_left 1
      focus (intro w hSw; (try dsimp only at hSw); go_simp; (try with_reducible rfl))
      try simp only [Act.put, List.setIfInBounds_toArray, List.set_cons_zero, List.set_cons_succ]
      refine wpAnyH_take (i := 3) (oi := { dst := some 15, op := Op.indexAddr 24 (Operand.tmp 13) (Operand.tmp 14), type := 0, pos := "raster.go:52", after := #[{ on := 1, ground := Ground.data }, { on := 2, ground := Ground.data }], guard := none }) (v := ?_) rfl (by kernel_rfl) (by kernel_rfl) (by kernel_rfl) (fun _ _ _ h => h) (Or.inl ⟨by kernel_rfl, ?_⟩) (by assumption) ?_
      rotate_left 1
      focus (intro w hSw; (try dsimp only at hSw); go_simp; (try with_reducible rfl))
      try simp only [Act.put, List.setIfInBounds_toArray, List.set_cons_zero, List.set_cons_succ]
      refine wpAnyH_take (i := 4) (oi := { dst := some 16, op := Op.fieldAddr 42 (Operand.tmp 15) 0, type := 0, pos := "raster.go:52", after := #[{ on := 3, ground := Ground.data }], guard := none }) (v := ?_) rfl (by kernel_rfl) (by kernel_rfl) (by kernel_rfl) (fun _ _ _ h => h) (Or.inl ⟨by kernel_rfl, ?_⟩) (by assumption) ?_
      rotate_left 1
      focus (intro w hSw; (try dsimp only at hSw); go_simp; (try with_reducible rfl))
      try simp only [Act.put, List.setIfInBounds_toArray, List.set_cons_zero, List.set_cons_succ]
      refine wpAnyH_take (i := 5) (oi := { dst := some 17, op := Op.load 40 (Operand.tmp 16), type := 40, pos := "raster.go:52", after := #[{ on := 4, ground := Ground.data }], guard := none }) rfl (by kernel_rfl) (by kernel_rfl) (by kernel_rfl) (fun _ _ _ h => h) (yields_load (by kernel_rfl) 40 (.tmp 16) rfl (pv2 a.x a.y) (fun V9 hV => load_pos (HR.out.later hV.below) ha)) (by assumption) ?_
      try simp only [Act.put, List.setIfInBounds_toArray, List.set_cons_zero, List.set_cons_succ]
      refine wpAnyH_take (i := 6) (oi := { dst := some 18, op := Op.load 40 (Operand.tmp 3), type := 40, pos := "raster.go:52", after := #[], guard := none }) rfl (by kernel_rfl) (by kernel_rfl) (by kernel_rfl) (fun _ _ _ h => h) (yields_load (by kernel_rfl) 40 (.tmp 3) rfl (pv2 x y) (fun V9 hV => ld_pos2 (hV.row (b := b1) (by simp)))) (by assumption) ?_
      try simp only [Act.put, List.setIfInBounds_toArray, List.set_cons_zero, List.set_cons_succ]
      refine wpAnyH_take (i := 7) (oi := { dst := some 19, op := Op.binOp BinOp.eql 40 (Operand.tmp 17) (Operand.tmp 18) 40, type := 4, pos := "raster.go:52", after := #[{ on := 5, ground := Ground.data }, { on := 6, ground := Ground.data }], guard := none }) rfl (by kernel_rfl) (by kernel_rfl) (by kernel_rfl) (fun _ _ _ h => h) (yields_bin (by kernel_rfl) .eql 40 (.tmp 17) (.tmp 18) 40 rfl _ _ rfl rfl guard_pos (.bool (decide (a.x = x ∧ a.y = y))) (fun V => eql_pos a.x a.y x y V)) (by assumption) ?_
      try simp only [Act.put, List.setIfInBounds_toArray, List.set_cons_zero, List.set_cons_succ]
      refine wpAnyH_done (by kernel_rfl) ?_ _
      have h5 := h10
      have H5 := Lib.hid h5
      clear h1 h5
      by_cases he : a.x = x ∧ a.y = y
      · rw [decide_eq_true he]
        have hrow := H5.out.row (b := b2) (o := tob z0) (by simp)
        have HL1 := Lib.hid (ld_slc (H5.out.row (b := b0) (o := rob p n c) (by simp)))
        have HL2 := Lib.hid (load_til (HR.out.later H5.out.below) ha)
        have HST := Lib.hid (store_tile b2 z0 a.t _ hrow)
        have hrw := setRow_heap _ b2 _ (tc a.t) _ (0, 0) hrow
        have hbw := (St.rowset (ds := tc a.t) H5.out HB2.out (by simp; exact HNE.out)).below
        have HRW := Lib.hid hrw
        have HBW := Lib.hid hbw
        have HAT := Lib.hid (atT_hitk HO.out ha he)
        clear hrow hrw hbw he ha
        go_wp2_with (first
          | (refine wpList_load_of rfl 24 (.tmp 20) rfl _ HL1.out ?_)
          | (refine wpList_load_of rfl 38 (.tmp 24) rfl _ HL2.out ?_)
          | (refine wpList_store_of rfl 38 _ _ rfl HST.out ?_))
        exact bodyPost_ret (v := tv a.t) (ret_tile rfl _ _ b2 _ rfl HRW.out) rfl ⟨by rw [HAT.out], HBW.out⟩
      · rw [decide_eq_false he]
        have HO2 : Hid (∀ i a, i < k + 1 → l[i]? = some a → ¬ (a.x = x ∧ a.y = y)) := fun i b hi hb => by
          rcases Nat.lt_or_ge i k with q | q
          · exact HO.out i b q hb
          · have : i = k := by omega
            subst this; rw [ha] at hb; cases hb; exact he
        clear ha he
        go_wp2
        go_roundw
        case rel => exact ⟨k + 1, by omega, by go_num, HO2, H5⟩
        case measure => simp [intOf]; omega
    · obtain rfl : k = n := by omega
      have hrow := HT.out.row (b := b2) (o := tob z0) (by simp)
      have HST := Lib.hid (store_tile b2 z0 z0 _ hrow)
      have hrw := setRow_heap _ b2 _ (tc z0) _ (0, 0) hrow
      have hbw := (St.rowset (ds := tc z0) HT.out HB2.out (by simp; exact HNE.out)).below
      have HRW := Lib.hid hrw
      have HBW := Lib.hid hbw
      have HAT : Hid (atT l x y = z0) := atT_none (fun i a hi ha => HO.out i a (by have := HN.out; omega) ha)
      clear hrow hrw hbw
      go_wp2_with (first
        | (refine wpList_build0 rfl 38 rfl _ (built0 _) ?_)
        | (refine wpList_store_of rfl 38 _ _ rfl HST.out ?_))
      exact bodyPost_ret (v := tv z0) (ret_tile rfl _ _ b2 _ rfl HRW.out) rfl ⟨by rw [HAT.out], HBW.out⟩
end Go.Proofs.YtfncldaodbfakaaGreat.Q
