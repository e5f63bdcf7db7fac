/-
  The bytes of an index's entry (contract).
-/
import Derived.Test.YtfncldaodbfakaaGreatZBlob
namespace Go.Proofs.YtfncldaodbfakaaGreat.Z
open Go.RowKit Go.Shelf T Q
set_option maxRecDepth 100000
variable {V W w w' : World} {L : List (Nat × Obj)} {b : Nat}

/-- the cells of an entry: position, preview pixel, size, checksum -/
def enl (x y : Int) (p : Px) (m : Nat) (s : List UInt8) : List Value := [.int .i64 x, .int .i64 y, .int .u8 p.r, .int .u8 p.g, .int .u8 p.b, .int .u8 p.a, .int .i64 (m : Int), .string (O.str s)]
abbrev env (x y : Int) (p : Px) (m : Nat) (s : List UInt8) : Value := .agg (enl x y p m s).toArray
abbrev eno (x y : Int) (p : Px) (m : Nat) (s : List UInt8) : Obj := .cells (enl x y p m s).toArray 110
variable {x y : Int} {p : Px} {m : Nat} {s : List UInt8}
theorem ld_at {k : Nat} {t : TypeId} {v : Value} (h : V.heap[b]? = some (eno x y p m s)) (hk : (enl x y p m s)[k]? = some v) (ht : ∀ W, (isAgg t).run Tryz.prog W = .ok false W) : (Instr.loadAt t (.pointer (some ⟨b, k, none⟩))).run Tryz.prog V = .ok v V := by
  have hc : V.cell? ⟨b, k, none⟩ = some v := by rw [cell_of_row V b k _ _ (0, 0) h, List.getElem?_toArray]; exact hk
  simp only [Instr.loadAt, Instr.sureAddr, loadVar, Sem.run_bind, Sem.run_pure, Result.andThen_ok, ht, run_load, hc, Bool.false_eq_true, if_false]
theorem ld_e0 (h : V.heap[b]? = some (eno x y p m s)) : (Instr.loadAt 3 (.pointer (some ⟨b, 0, none⟩))).run Tryz.prog V = .ok (.int .i64 x) V := ld_at h rfl fun _ => by kernel_rfl
theorem ld_e1 (h : V.heap[b]? = some (eno x y p m s)) : (Instr.loadAt 3 (.pointer (some ⟨b, 1, none⟩))).run Tryz.prog V = .ok (.int .i64 y) V := ld_at h rfl fun _ => by kernel_rfl
theorem ld_e6 (h : V.heap[b]? = some (eno x y p m s)) : (Instr.loadAt 3 (.pointer (some ⟨b, 6, none⟩))).run Tryz.prog V = .ok (.int .i64 (m : Int)) V := ld_at h rfl fun _ => by kernel_rfl
theorem ld_e7 (h : V.heap[b]? = some (eno x y p m s)) : (Instr.loadAt 9 (.pointer (some ⟨b, 7, none⟩))).run Tryz.prog V = .ok (.string (O.str s)) V := ld_at h rfl fun _ => by kernel_rfl
theorem ld_e2 (h : V.heap[b]? = some (eno x y p m s)) : (Instr.loadAt 36 (.pointer (some ⟨b, 2, none⟩))).run Tryz.prog V = .ok p.v V := by
  have hr : V.rangeAt b 2 (pl p) := fun j v hv => by
    rw [cell_of_row V b (2 + j) _ _ (0, 0) h, List.getElem?_toArray]
    have hj : j < 4 := by have := (List.getElem?_eq_some_iff.1 hv).1; rwa [pl_len] at this
    rcases j with _ | _ | _ | _ | j
    · exact hv
    · exact hv
    · exact hv
    · exact hv
    · omega
  exact run_loadAt_mid V b 2 36 (pl p) _ hr Tryz.underlying36 rfl (by kernel_rfl)
/-- an entry's bytes -/
def ebl (x y : Int) (p : Px) (m : Nat) (s : List UInt8) : List UInt8 := O.Leb.putN (x + 8192).toNat 2 ++ O.Leb.putN (y + 8192).toNat 2 ++ pb p ++ O.Leb.varN m ++ s
theorem put2 (n : Int) (h0 : 0 ≤ n) (h1 : n < 1000000) (w : World) : Calls Tryz.prog 108 #[.int .i64 n, .int .i64 2] w fun e w' => e = .returned (.string (O.str (O.Leb.putN n.toNat 2))) ∧ Below w.heap.size w w' := by
  obtain ⟨k, rfl⟩ : ∃ k : Nat, n = k := ⟨n.toNat, by omega⟩
  have h := O.put_any k 2 w
  rw [O.u64of_nat (by omega), show (O.clampI 2).toNat = 2 from rfl] at h
  exact h
theorem varc (m : Nat) (hm : m < 1000000) (w : World) : Calls Tryz.prog 51 #[.int .i64 (m : Int)] w fun e w' => e = .returned (.string (O.str (O.Leb.varN m))) ∧ Below w.heap.size w w' := by
  have h := O.var_any m w
  rw [O.u64of_nat (by omega)] at h
  exact h
set_option maxHeartbeats 8000000 in
theorem ebytes_any (x y : Int) (p : Px) (m : Nat) (s : List UInt8) (w : World) (hx : -8192 ≤ x ∧ x < 8192) (hy : -8192 ≤ y ∧ y < 8192) (hp : Pc p) (hm : m < 1000000) (hs : s.length ≤ 100) : Calls Tryz.prog 53 #[env x y p m s] w fun e w' => e = .returned (.string (O.str (ebl x y p m s))) ∧ Below w.heap.size w w' := by
  have h0 := (St.start w).alloc (eno x y p m s)
  obtain ⟨hx0, hx1⟩ := hx
  obtain ⟨hy0, hy1⟩ := hy
  have H1 := Lib.hid (put2 (x + 8192) (by omega) (by omega))
  have H2 := Lib.hid (put2 (y + 8192) (by omega) (by omega))
  have H3 := Lib.hid (pixb_any p hp)
  have H4 := Lib.hid (varc m hm)
  have HR : Hid (ebl x y p m s = O.Leb.putN (x + 8192).toNat 2 ++ O.Leb.putN (y + 8192).toNat 2 ++ pb p ++ O.Leb.varN m ++ s) := rfl
  have l1 : (O.Leb.putN (x + 8192).toNat 2).length = 2 := O.Leb.putN_len _ _
  have l2 : (O.Leb.putN (y + 8192).toNat 2).length = 2 := O.Leb.putN_len _ _
  have l3 : (pb p).length = 4 := rfl
  have l4 : (O.Leb.varN m).length ≤ 10 := O.Leb.varN_len64 (by omega)
  generalize O.Leb.putN (x + 8192).toNat 2 = S1 at *
  generalize O.Leb.putN (y + 8192).toNat 2 = S2 at *
  generalize pb p = S3 at *
  generalize O.Leb.varN m = S4 at *
  generalize ebl x y p m s = R at *
  go_enter Tryz.func53, Tryz.ntmps53
  go_upto_region 1 with fail
  try simp only [Act.put, List.setIfInBounds_toArray, List.set_cons_zero, List.set_cons_succ]
  generalize w.alloc (.cells (enl x y p m s).toArray 110) = V1 at h0 ⊢
  have hd := h0.drew
  clear h0
  refine wp_region_held_drew (S := fun V9 => St w [(w.heap.size, eno x y p m s)] V9) (by kernel_rfl) ?_ (fun hHeld => ?_)
  · exact hd
  refine wpAnyH_take (i := 0) (oi := { dst := some 3, op := Op.fieldAddr 110 (Operand.tmp 1) 0, type := 0, pos := "index.go:25", after := #[], guard := none }) (v := ?_) rfl (by kernel_rfl) (by kernel_rfl) (by kernel_rfl) (fun _ _ _ h => h) (Or.inl ⟨by kernel_rfl, ?_⟩) (by assumption) ?_
  rotate_left 1
  focus (intro w hSw; (try dsimp only at hSw); go_simp; (try with_reducible rfl))
  try simp only [Act.put, List.setIfInBounds_toArray, List.set_cons_zero, List.set_cons_succ]
  refine wpAnyH_take (i := 1) (oi := { dst := some 4, op := Op.fieldAddr 40 (Operand.tmp 3) 0, type := 0, pos := "index.go:25", after := #[{ on := 0, ground := Ground.data }], guard := none }) (v := ?_) rfl (by kernel_rfl) (by kernel_rfl) (by kernel_rfl) (fun _ _ _ h => h) (Or.inl ⟨by kernel_rfl, ?_⟩) (by assumption) ?_
  rotate_left 1
  focus (intro w hSw; (try dsimp only at hSw); go_simp; (try with_reducible rfl))
  try simp only [Act.put, List.setIfInBounds_toArray, List.set_cons_zero, List.set_cons_succ]
  refine wpAnyH_take (i := 2) (oi := { dst := some 5, op := Op.load 3 (Operand.tmp 4), type := 3, pos := "index.go:25", after := #[{ on := 1, ground := Ground.data }], guard := none }) rfl (by kernel_rfl) (by kernel_rfl) (by kernel_rfl) (fun _ _ _ h => h) (yields_load (by kernel_rfl) 3 (.tmp 4) rfl (.int .i64 x) (fun V9 hV => ld_e0 (hV.row (List.mem_cons_self ..)))) (by assumption) ?_
  try simp only [Act.put, List.setIfInBounds_toArray, List.set_cons_zero, List.set_cons_succ]
  refine wpAnyH_take (i := 3) (oi := { dst := some 6, op := Op.binOp BinOp.add 3 (Operand.tmp 5) (Operand.const (Value.int IntKind.i64 8192)) 3, type := 3, pos := "index.go:25", after := #[{ on := 2, ground := Ground.data }], guard := none }) (v := .int .i64 (x + 8192)) rfl (by kernel_rfl) (by kernel_rfl) (by kernel_rfl) (fun _ _ _ h => h) (Or.inl ⟨by kernel_rfl, ?_⟩) (by assumption) ?_
  focus (intro w hSw; (try dsimp only at hSw); go_simp; (rw [IntKind.wrap_i64]; omega))
  try simp only [Act.put, List.setIfInBounds_toArray, List.set_cons_zero, List.set_cons_succ]
  refine wpAnyH_take (i := 5) (oi := { dst := some 8, op := Op.fieldAddr 110 (Operand.tmp 1) 0, type := 0, pos := "index.go:25", after := #[], guard := none }) (v := ?_) rfl (by kernel_rfl) (by kernel_rfl) (by kernel_rfl) (fun _ _ _ h => h) (Or.inl ⟨by kernel_rfl, ?_⟩) (by assumption) ?_
  rotate_left 1
  focus (intro w hSw; (try dsimp only at hSw); go_simp; (try with_reducible rfl))
  try simp only [Act.put, List.setIfInBounds_toArray, List.set_cons_zero, List.set_cons_succ]
  refine wpAnyH_take (i := 6) (oi := { dst := some 9, op := Op.fieldAddr 40 (Operand.tmp 8) 1, type := 0, pos := "index.go:25", after := #[{ on := 5, ground := Ground.data }], guard := none }) (v := ?_) rfl (by kernel_rfl) (by kernel_rfl) (by kernel_rfl) (fun _ _ _ h => h) (Or.inl ⟨by kernel_rfl, ?_⟩) (by assumption) ?_
  rotate_left 1
  focus (intro w hSw; (try dsimp only at hSw); go_simp; (try with_reducible rfl))
  try simp only [Act.put, List.setIfInBounds_toArray, List.set_cons_zero, List.set_cons_succ]
  refine wpAnyH_take (i := 7) (oi := { dst := some 10, op := Op.load 3 (Operand.tmp 9), type := 3, pos := "index.go:25", after := #[{ on := 6, ground := Ground.data }], guard := none }) rfl (by kernel_rfl) (by kernel_rfl) (by kernel_rfl) (fun _ _ _ h => h) (yields_load (by kernel_rfl) 3 (.tmp 9) rfl (.int .i64 y) (fun V9 hV => ld_e1 (hV.row (List.mem_cons_self ..)))) (by assumption) ?_
  try simp only [Act.put, List.setIfInBounds_toArray, List.set_cons_zero, List.set_cons_succ]
  refine wpAnyH_take (i := 8) (oi := { dst := some 11, op := Op.binOp BinOp.add 3 (Operand.tmp 10) (Operand.const (Value.int IntKind.i64 8192)) 3, type := 3, pos := "index.go:25", after := #[{ on := 7, ground := Ground.data }], guard := none }) (v := .int .i64 (y + 8192)) rfl (by kernel_rfl) (by kernel_rfl) (by kernel_rfl) (fun _ _ _ h => h) (Or.inl ⟨by kernel_rfl, ?_⟩) (by assumption) ?_
  focus (intro w hSw; (try dsimp only at hSw); go_simp; (rw [IntKind.wrap_i64]; omega))
  try simp only [Act.put, List.setIfInBounds_toArray, List.set_cons_zero, List.set_cons_succ]
  refine wpAnyH_take (i := 11) (oi := { dst := some 14, op := Op.fieldAddr 110 (Operand.tmp 1) 1, type := 0, pos := "index.go:25", after := #[], guard := none }) (v := ?_) rfl (by kernel_rfl) (by kernel_rfl) (by kernel_rfl) (fun _ _ _ h => h) (Or.inl ⟨by kernel_rfl, ?_⟩) (by assumption) ?_
  rotate_left 1
  focus (intro w hSw; (try dsimp only at hSw); go_simp; (try with_reducible rfl))
  try simp only [Act.put, List.setIfInBounds_toArray, List.set_cons_zero, List.set_cons_succ]
  refine wpAnyH_take (i := 12) (oi := { dst := some 15, op := Op.load 36 (Operand.tmp 14), type := 36, pos := "index.go:25", after := #[{ on := 11, ground := Ground.data }], guard := none }) rfl (by kernel_rfl) (by kernel_rfl) (by kernel_rfl) (fun _ _ _ h => h) (yields_load (by kernel_rfl) 36 (.tmp 14) rfl (p.v) (fun V9 hV => ld_e2 (hV.row (List.mem_cons_self ..)))) (by assumption) ?_
  try simp only [Act.put, List.setIfInBounds_toArray, List.set_cons_zero, List.set_cons_succ]
  refine wpAnyH_take (i := 15) (oi := { dst := some 18, op := Op.fieldAddr 110 (Operand.tmp 1) 2, type := 0, pos := "index.go:25", after := #[], guard := none }) (v := ?_) rfl (by kernel_rfl) (by kernel_rfl) (by kernel_rfl) (fun _ _ _ h => h) (Or.inl ⟨by kernel_rfl, ?_⟩) (by assumption) ?_
  rotate_left 1
  focus (intro w hSw; (try dsimp only at hSw); go_simp; (try with_reducible rfl))
  try simp only [Act.put, List.setIfInBounds_toArray, List.set_cons_zero, List.set_cons_succ]
  refine wpAnyH_take (i := 16) (oi := { dst := some 19, op := Op.load 3 (Operand.tmp 18), type := 3, pos := "index.go:25", after := #[{ on := 15, ground := Ground.data }], guard := none }) rfl (by kernel_rfl) (by kernel_rfl) (by kernel_rfl) (fun _ _ _ h => h) (yields_load (by kernel_rfl) 3 (.tmp 18) rfl (.int .i64 (m : Int)) (fun V9 hV => ld_e6 (hV.row (List.mem_cons_self ..)))) (by assumption) ?_
  try simp only [Act.put, List.setIfInBounds_toArray, List.set_cons_zero, List.set_cons_succ]
  refine wpAnyH_take (i := 19) (oi := { dst := some 22, op := Op.fieldAddr 110 (Operand.tmp 1) 3, type := 0, pos := "index.go:25", after := #[], guard := none }) (v := ?_) rfl (by kernel_rfl) (by kernel_rfl) (by kernel_rfl) (fun _ _ _ h => h) (Or.inl ⟨by kernel_rfl, ?_⟩) (by assumption) ?_
  rotate_left 1
  focus (intro w hSw; (try dsimp only at hSw); go_simp; (try with_reducible rfl))
  try simp only [Act.put, List.setIfInBounds_toArray, List.set_cons_zero, List.set_cons_succ]
  refine wpAnyH_take (i := 20) (oi := { dst := some 23, op := Op.load 9 (Operand.tmp 22), type := 9, pos := "index.go:25", after := #[{ on := 19, ground := Ground.data }], guard := none }) rfl (by kernel_rfl) (by kernel_rfl) (by kernel_rfl) (fun _ _ _ h => h) (yields_load (by kernel_rfl) 9 (.tmp 22) rfl (.string (O.str s)) (fun V9 hV => ld_e7 (hV.row (List.mem_cons_self ..)))) (by assumption) ?_
  try simp only [Act.put, List.setIfInBounds_toArray, List.set_cons_zero, List.set_cons_succ]
  refine wpAnyH_ready (rs := [4]) (by kernel_rfl) (by simp) (AllReadyH.cons (o := { dst := some 7, op := Op.call { callee := Callee.value (Operand.func 108), args := #[Operand.tmp 6, Operand.const (Value.int IntKind.i64 2)], argTypes := #[3, 3] }, type := 9, pos := "index.go:25", after := #[{ on := 3, ground := Ground.data }], guard := none }) rfl (fun K hK => ?_) AllReadyH.nil)
  (go_simp; (go_at_call 108; (with_reducible refine (St.call hd (H1.out _)).mono ?_); rintro e V1r1 ⟨rfl, hd1r1⟩))
  refine hK.out _ _ ?_ (fun hHeld => ?_)
  · exact hd1r1
  clear hK K
  try simp only [Act.put, List.setIfInBounds_toArray, List.set_cons_zero, List.set_cons_succ]
  refine wpAnyH_ready (rs := [9]) (by kernel_rfl) (by simp) (AllReadyH.cons (o := { dst := some 12, op := Op.call { callee := Callee.value (Operand.func 108), args := #[Operand.tmp 11, Operand.const (Value.int IntKind.i64 2)], argTypes := #[3, 3] }, type := 9, pos := "index.go:25", after := #[{ on := 8, ground := Ground.data }, { on := 4, ground := Ground.chain }], guard := none }) rfl (fun K hK => ?_) AllReadyH.nil)
  (go_simp; (go_at_call 108; (with_reducible refine (St.call hd1r1 (H2.out _)).mono ?_); rintro e V2r1 ⟨rfl, hd2r1⟩))
  refine hK.out _ _ ?_ (fun hHeld => ?_)
  · exact hd2r1
  clear hK K
  try simp only [Act.put, List.setIfInBounds_toArray, List.set_cons_zero, List.set_cons_succ]
  refine wpAnyH_take (i := 10) (oi := { dst := some 13, op := Op.binOp BinOp.add 9 (Operand.tmp 7) (Operand.tmp 12) 9, type := 9, pos := "index.go:25", after := #[{ on := 4, ground := Ground.data }, { on := 9, ground := Ground.data }], guard := none }) (v := .string (O.str (S1 ++ S2))) rfl (by kernel_rfl) (by kernel_rfl) (by kernel_rfl) (fun _ _ _ h => h) (Or.inl ⟨by kernel_rfl, ?_⟩) (by assumption) ?_
  focus (intro w hSw; (try dsimp only at hSw); go_simp; (rw [if_neg (by simp only [O.str_size]; omega), O.str_append]; try simp only [List.append_assoc]))
  try simp only [Act.put, List.setIfInBounds_toArray, List.set_cons_zero, List.set_cons_succ]
  refine wpAnyH_ready (rs := [13]) (by kernel_rfl) (by simp) (AllReadyH.cons (o := { dst := some 16, op := Op.call { callee := Callee.value (Operand.func 109), args := #[Operand.tmp 15], argTypes := #[36] }, type := 9, pos := "index.go:26", after := #[{ on := 12, ground := Ground.data }, { on := 9, ground := Ground.chain }], guard := none }) rfl (fun K hK => ?_) AllReadyH.nil)
  (go_simp; (go_at_call 109; (with_reducible refine (St.call hd2r1 (H3.out _)).mono ?_); rintro e V3r1 ⟨rfl, hd3r1⟩))
  refine hK.out _ _ ?_ (fun hHeld => ?_)
  · exact hd3r1
  clear hK K
  try simp only [Act.put, List.setIfInBounds_toArray, List.set_cons_zero, List.set_cons_succ]
  refine wpAnyH_take (i := 14) (oi := { dst := some 17, op := Op.binOp BinOp.add 9 (Operand.tmp 13) (Operand.tmp 16) 9, type := 9, pos := "index.go:25", after := #[{ on := 10, ground := Ground.data }, { on := 13, ground := Ground.data }], guard := none }) (v := .string (O.str ((S1 ++ S2) ++ S3))) rfl (by kernel_rfl) (by kernel_rfl) (by kernel_rfl) (fun _ _ _ h => h) (Or.inl ⟨by kernel_rfl, ?_⟩) (by assumption) ?_
  focus (intro w hSw; (try dsimp only at hSw); go_simp; (rw [if_neg (by simp only [O.str_size, List.length_append]; omega), O.str_append]; try simp only [List.append_assoc]))
  try simp only [Act.put, List.setIfInBounds_toArray, List.set_cons_zero, List.set_cons_succ]
  refine wpAnyH_ready (rs := [17]) (by kernel_rfl) (by simp) (AllReadyH.cons (o := { dst := some 20, op := Op.call { callee := Callee.value (Operand.func 51), args := #[Operand.tmp 19], argTypes := #[3] }, type := 9, pos := "index.go:26", after := #[{ on := 16, ground := Ground.data }, { on := 13, ground := Ground.chain }], guard := none }) rfl (fun K hK => ?_) AllReadyH.nil)
  (go_simp; (go_at_call 51; (with_reducible refine (St.call hd3r1 (H4.out _)).mono ?_); rintro e V4r1 ⟨rfl, hd4r1⟩))
  refine hK.out _ _ ?_ (fun hHeld => ?_)
  · exact hd4r1
  clear hK K
  try simp only [Act.put, List.setIfInBounds_toArray, List.set_cons_zero, List.set_cons_succ]
  refine wpAnyH_take (i := 18) (oi := { dst := some 21, op := Op.binOp BinOp.add 9 (Operand.tmp 17) (Operand.tmp 20) 9, type := 9, pos := "index.go:25", after := #[{ on := 14, ground := Ground.data }, { on := 17, ground := Ground.data }], guard := none }) (v := .string (O.str ((S1 ++ S2 ++ S3) ++ S4))) rfl (by kernel_rfl) (by kernel_rfl) (by kernel_rfl) (fun _ _ _ h => h) (Or.inl ⟨by kernel_rfl, ?_⟩) (by assumption) ?_
  focus (intro w hSw; (try dsimp only at hSw); go_simp; (rw [if_neg (by simp only [O.str_size, List.length_append]; omega), O.str_append]; try simp only [List.append_assoc]))
  try simp only [Act.put, List.setIfInBounds_toArray, List.set_cons_zero, List.set_cons_succ]
  refine wpAnyH_take (i := 21) (oi := { dst := some 24, op := Op.binOp BinOp.add 9 (Operand.tmp 21) (Operand.tmp 23) 9, type := 9, pos := "index.go:25", after := #[{ on := 18, ground := Ground.data }, { on := 20, ground := Ground.data }], guard := none }) (v := .string (O.str ((S1 ++ S2 ++ S3 ++ S4) ++ s))) rfl (by kernel_rfl) (by kernel_rfl) (by kernel_rfl) (fun _ _ _ h => h) (Or.inl ⟨by kernel_rfl, ?_⟩) (by assumption) ?_
  focus (intro w hSw; (try dsimp only at hSw); go_simp; (rw [if_neg (by simp only [O.str_size, List.length_append]; omega), O.str_append]; try simp only [List.append_assoc]))
  try simp only [Act.put, List.setIfInBounds_toArray, List.set_cons_zero, List.set_cons_succ]
  refine wpAnyH_take (i := 22) (oi := { dst := some 2, op := Op.assign (Operand.tmp 24), type := 9, pos := "index.go:25", after := #[{ on := 21, ground := Ground.data }, { on := 17, ground := Ground.chain }, { on := 0, ground := Ground.phase }, { on := 1, ground := Ground.phase }, { on := 2, ground := Ground.phase }, { on := 3, ground := Ground.phase }, { on := 4, ground := Ground.phase }, { on := 5, ground := Ground.phase }, { on := 6, ground := Ground.phase }, { on := 7, ground := Ground.phase }, { on := 8, ground := Ground.phase }, { on := 9, ground := Ground.phase }, { on := 10, ground := Ground.phase }, { on := 11, ground := Ground.phase }, { on := 12, ground := Ground.phase }, { on := 13, ground := Ground.phase }, { on := 14, ground := Ground.phase }, { on := 15, ground := Ground.phase }, { on := 16, ground := Ground.phase }, { on := 17, ground := Ground.phase }, { on := 18, ground := Ground.phase }, { on := 19, ground := Ground.phase }, { on := 20, ground := Ground.phase }, { on := 21, ground := Ground.phase }], guard := none }) (v := ?_) rfl (by kernel_rfl) (by kernel_rfl) (by kernel_rfl) (fun _ _ _ h => h) (Or.inl ⟨by kernel_rfl, ?_⟩) (by assumption) ?_
  rotate_left 1
  focus (intro w hSw; (try dsimp only at hSw); go_simp; (try with_reducible rfl))
  try simp only [Act.put, List.setIfInBounds_toArray, List.set_cons_zero, List.set_cons_succ]
  refine wpAnyH_done (by kernel_rfl) ?_ _
  have HB := Lib.hid hd4r1.below
  go_wp2
  go_ret
  exact ⟨by rw [HR.out]; (try simp only [List.append_assoc]); rfl, HB.out⟩
end Go.Proofs.YtfncldaodbfakaaGreat.Z
