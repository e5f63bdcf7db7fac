/-
  The blob of a tile (contract of encode).
-/
import Derived.Test.YtfncldaodbfakaaGreatZMean
import Derived.Test.YtfncldaodbfakaaGreatCNew
import Derived.Test.YtfncldaodbfakaaGreatTBytes
import Derived.Test.YtfncldaodbfakaaGreatTZero
namespace Go.Proofs.YtfncldaodbfakaaGreat.Z
open Go.RowKit Go.Shelf T Q
set_option maxRecDepth 100000
variable {V W w w' : World} {L : List (Nat × Obj)} {b : Nat}

theorem putc (n : Nat) (hn : n < 256) (w : World) : Calls Tryz.prog 108 #[.int .i64 (n : Int), .int .i64 1] w fun e w' => e = .returned (.string (O.str [UInt8.ofNat n])) ∧ Below w.heap.size w w' := by
  have h := O.put_any n 1 w
  rw [O.u64of_nat (by omega), show (O.clampI 1).toNat = 1 from rfl] at h
  have e : O.Leb.putN n 1 = [UInt8.ofNat n] := by
    show O.Leb.putN (n / 256) 0 ++ [UInt8.ofNat (n % 256)] = _
    rw [Nat.mod_eq_of_lt hn]
    rfl
  rw [e] at h
  exact h
theorem add_s (l m : List UInt8) (h : l.length + m.length ≤ 1000000) (w : World) : (Go.binOp .add 9 (.string (O.str l)) (.string (O.str m))).run Tryz.prog w = .ok (.string (O.str (l ++ m))) w := by
  have hn : ¬ (((O.str l).size + (O.str m).size : Nat) : Int) > IntKind.i64.max := by
    rw [O.str_size, O.str_size]
    have : IntKind.i64.max = 9223372036854775807 := rfl
    omega
  rw [← O.str_append]
  show (Op.stringOp .add (O.str l) (O.str m)).run Tryz.prog w = _
  unfold Op.stringOp
  simp only [if_neg hn, Sem.run_pure]
theorem sAddS {l m : List UInt8} {ops : Array Oper} {rest : List Oper} {dst : Option Tmp} {ty : TypeId} {pos : String} {after : Array Edge} {a : Act} {Q : Exit → Act → World → Prop} {x y : Operand} (hx : a.eval x = .string (O.str l)) (hy : a.eval y = .string (O.str m)) (hl : l.length + m.length ≤ 1000000)
    (h : wpList Tryz.prog ops Q rest (a.put dst (.string (O.str (l ++ m)))) w) :
    wpList Tryz.prog ops Q ({ dst := dst, op := .binOp .add 9 x y 9, type := ty, pos := pos, after := after, guard := none } :: rest) a w :=
  wpList_plain rfl fun _ hK => by
    unfold Oper.wp execOp
    have hg : eqGuard .add 9 x y (.string (O.str l)) (.string (O.str m)) = pure () := rfl
    simp only [hx, hy, hg, Sem.run_bind, Sem.run_pure, add_s l m hl, Result.andThen_ok]
    exact hK _ _ h
theorem enc_le (s : List UInt8) : (C.enc s).length ≤ 32 * s.length + 4 := by
  show (C.wt C.c0 (C.sops s) ++ C.be4 _).length ≤ _
  have h1 := C.wt_len C.c0_ok (C.sops s)
  have h2 := C.sops_len s
  rw [List.length_append, C.be4_len]
  omega
/-- a tile's coded form, and its blob -/
def cod (f : Nat → Px) : List UInt8 := ([2] ++ [UInt8.ofNat (bst f)]) ++ C.enc (P.fwd (bst f) f)
def blob (f : Nat → Px) : List UInt8 := if sb f then [0] ++ pb (sp f) else if (cod f).length < 257 then cod f else [1] ++ bys 64 f
theorem blob_len (f : Nat → Px) : 1 ≤ (blob f).length ∧ (blob f).length ≤ 257 := by
  unfold blob
  split
  · simp [pb]
  · split
    · rename_i h
      refine ⟨?_, by omega⟩
      unfold cod; simp
    · rw [List.length_append, bys_len]; simp
set_option maxHeartbeats 8000000 in
theorem encode_any (f : Nat → Px) (w : World) (hf : ∀ i, i < 64 → Pc (f i)) : Calls Tryz.prog 107 #[tv f] w fun e w' => e = .returned (.string (O.str (blob f))) ∧ Below w.heap.size w w' := by
  have h0 := (St.start w).alloc (tob f)
  have HL := Lib.hid (load_tile w.heap.size f _ (h0.row (List.mem_cons_self ..)))
  have HSO := Lib.hid (fun V => solid_any f V)
  have HP : Hid (∀ V, Calls Tryz.prog 108 #[.int .i64 0, .int .i64 1] V fun e w' => e = .returned (.string (O.str [UInt8.ofNat 0])) ∧ Below V.heap.size V w') := putc 0 (by omega)
  have HP1 : Hid (∀ V, Calls Tryz.prog 108 #[.int .i64 1, .int .i64 1] V fun e w' => e = .returned (.string (O.str [UInt8.ofNat 1])) ∧ Below V.heap.size V w') := putc 1 (by omega)
  have HP2 : Hid (∀ V, Calls Tryz.prog 108 #[.int .i64 2, .int .i64 1] V fun e w' => e = .returned (.string (O.str [UInt8.ofNat 2])) ∧ Below V.heap.size V w') := putc 2 (by omega)
  have HBE := Lib.hid (fun V => best_any f V hf)
  have hbl := bgo_le f 5
  have hb6 : bst f < 6 := by unfold bst; omega
  have HPB := Lib.hid (putc (bst f) (by omega))
  have HF := Lib.hid (fun V => P.fwd_any (bst f) f V hb6 hf)
  have HEN : Hid (∀ V, Calls Tryz.prog 151 #[.string (P.str (P.fwd (bst f) f))] V fun e w' => e = .returned (.string (O.str (C.enc (P.fwd (bst f) f)))) ∧ Below V.heap.size V w') := fun V => by
    have h := C.encode_any (P.str (P.fwd (bst f) f)) V (by rw [show (P.str (P.fwd (bst f) f)).size = (P.fwd (bst f) f).length by simp [P.str, ByteArray.size], fwd_len]; omega)
    rw [show (P.str (P.fwd (bst f) f)).data.toList = P.fwd (bst f) f by simp [P.str]] at h
    exact h
  have HBY : Hid (∀ V, Calls Tryz.prog 152 #[tv f] V fun e w' => e = .returned (.string (O.str (bys 64 f))) ∧ Below V.heap.size V w') := fun V => T.bytes_any f V hf
  have hsp : Pc (sp f) := by
    unfold sp
    split
    · exact hf 0 (by omega)
    · exact ⟨by decide, by decide, by decide, by decide⟩
  have HX := Lib.hid (fun V => pixb_any (sp f) hsp V)
  have hlen : (C.enc (P.fwd (bst f) f)).length ≤ 8196 := by have h := enc_le (P.fwd (bst f) f); rw [fwd_len] at h; exact h
  have hadd : (O.str [0]).size + (O.str (pb (sp f))).size ≤ 100000 := by rw [O.str_size, O.str_size]; simp [pb]
  have hadd2 : (O.str [1]).size + (O.str (bys 64 f)).size ≤ 100000 := by rw [O.str_size, O.str_size, bys_len]; simp
  have HBL : Hid (blob f = if sb f then [0] ++ pb (sp f) else if (cod f).length < 257 then cod f else [1] ++ bys 64 f) := rfl
  have HCO : Hid (cod f = ([UInt8.ofNat 2] ++ [UInt8.ofNat (bst f)]) ++ C.enc (P.fwd (bst f) f)) := rfl
  generalize hE : C.enc (P.fwd (bst f) f) = E at *
  generalize P.str (P.fwd (bst f) f) = FS at *
  generalize bys 64 f = S5 at *
  generalize hSP : sp f = PX at *
  generalize pb PX = S2 at *
  generalize sb f = z at *
  clear hE hSP hsp hbl
  go_enter Tryz.func107, Tryz.ntmps107
  go_upto_region 1 with fail
  generalize w.alloc (.cells (tc f) 38) = V1 at h0 HL ⊢
  go_upto_region 2 with (first
    | ((with_reducible refine sLoad (ty := 38) (v := tv f) ?_ ?_); · exact HL.out)
    | (go_at_call 148; with_reducible refine (h0.call (HSO.out _)).mono ?_; rintro e V2 ⟨rfl, h2⟩))
  have h3 : St w [(V2.heap.size, pxo PX), (w.heap.size, tob f)] (V2.alloc (.cells #[.int .u8 PX.r, .int .u8 PX.g, .int .u8 PX.b, .int .u8 PX.a] 36)) := h2.alloc (po PX.r PX.g PX.b PX.a)
  generalize V2.alloc (.cells #[.int .u8 PX.r, .int .u8 PX.g, .int .u8 PX.b, .int .u8 PX.a] 36) = V3 at h3 ⊢
  generalize V2.heap.size = b3 at h3 ⊢
  clear h0 h2 HL HSO
  cases z
  · have HBL2 : Hid (blob f = if (cod f).length < 257 then cod f else [1] ++ S5) := HBL.out
    clear HBL HP HX hadd
    have HLT := Lib.hid (load_tile w.heap.size f _ (h3.row (b := w.heap.size) (o := tob f) (by simp)))
    go_upto_region 5 with (first
      | ((with_reducible refine sLoad (ty := 38) (v := tv f) ?_ ?_); · exact HLT.out)
      | (go_at_call 149; with_reducible refine (h3.call (HBE.out _)).mono ?_; rintro e V4 ⟨rfl, h4⟩; have HLT4 := Lib.hid (load_tile w.heap.size f _ (h4.row (b := w.heap.size) (o := tob f) (by simp)))))
    clear HLT
    go_upto_region 7 with (first
      | ((with_reducible refine sLoad (ty := 38) (v := tv f) ?_ ?_); · exact HLT4.out)
      | (go_at_call 150; with_reducible refine (h4.call (HF.out _)).mono ?_; rintro e V5 ⟨rfl, h5⟩)
      | (go_at_call 108; with_reducible refine (h6.call (HPB.out _)).mono ?_; rintro e V7 ⟨rfl, h7⟩)
      | (go_at_call 108; with_reducible refine (h5.call (HP2.out _)).mono ?_; rintro e V6 ⟨rfl, h6⟩)
      | (go_at_call 151; with_reducible refine (h7.call (HEN.out _)).mono ?_; rintro e V8 ⟨rfl, h8⟩)
      | ((with_reducible refine sAddS (l := [UInt8.ofNat 2]) (m := [UInt8.ofNat (bst f)]) ?_ ?_ ?_ ?_); (focus rfl); (focus rfl); (focus (simp; done)))
      | ((with_reducible refine sAddS (l := [UInt8.ofNat 2] ++ [UInt8.ofNat (bst f)]) (m := E) ?_ ?_ ?_ ?_); (focus rfl); (focus rfl); (focus (rw [List.length_append]; simp only [List.length_cons, List.length_nil]; omega))))
    have HC2 : 2 :: UInt8.ofNat (bst f) :: E = cod f := HCO.out.symm
    rw [HC2]
    have hcs : (O.str (cod f)).size = (cod f).length := O.str_size _
    clear h3 h4 h5 h6 h7 HLT4 HBE HF HPB HP2 HEN
    have hd := h8.drew
    have HB8 := Lib.hid h8.below
    clear h8
    clear HC2 HCO hlen
    generalize cod f = CF at *
    by_cases hl : CF.length < 257
    · have HBL3 : Hid (blob f = CF) := by rw [HBL2.out]; exact if_pos hl
      have hd1 : decide (((O.str CF).size : Int) < 257) = true := decide_eq_true (by omega)
      clear HBL2 hl hcs
      go_wp2
      go_ret
      exact ⟨by rw [HBL3.out]; rfl, HB8.out⟩
    · have HBL3 : Hid (blob f = [UInt8.ofNat 1] ++ S5) := by rw [HBL2.out]; exact if_neg hl
      have hd1 : decide (((O.str CF).size : Int) < 257) = false := decide_eq_false (by omega)
      clear HBL2 hl hcs
      go_upto_region 9 with fail
      refine wp_region_held_drew (S := fun V9 => St w [(b3, pxo PX), (w.heap.size, tob f)] V9) (by kernel_rfl) ?_ (fun hHeld => ?_)
      · exact hd
      refine wpAnyH_take (i := 1) (oi := { dst := some 39, op := Op.load 38 (Operand.tmp 1), type := 38, pos := "blob.go:75", after := #[], guard := none }) rfl (by kernel_rfl) (by kernel_rfl) (by kernel_rfl) (fun _ _ _ h => h) (yields_load (by kernel_rfl) 38 (.tmp 1) rfl (tv f) (fun V9 hV => load_tile _ f _ (hV.row (b := w.heap.size) (o := tob f) (by simp)))) (by assumption) ?_
      try simp only [Act.put, List.setIfInBounds_toArray, List.set_cons_zero, List.set_cons_succ]
      refine wpAnyH_ready (rs := [0]) (by kernel_rfl) (by simp) (AllReadyH.cons (o := { dst := some 38, op := Op.call { callee := Callee.value (Operand.func 108), args := #[Operand.const (Value.int IntKind.i64 1), Operand.const (Value.int IntKind.i64 1)], argTypes := #[3, 3] }, type := 9, pos := "blob.go:75", after := #[], guard := none }) rfl (fun K hK => ?_) AllReadyH.nil)
      (go_simp; (go_at_call 108; (with_reducible refine (St.call hd (HP1.out _)).mono ?_); rintro e V1r9 ⟨rfl, hd1r9⟩))
      refine hK.out _ _ ?_ (fun hHeld => ?_)
      · exact hd1r9
      clear hK K
      try simp only [Act.put, List.setIfInBounds_toArray, List.set_cons_zero, List.set_cons_succ]
      refine wpAnyH_ready (rs := [2]) (by kernel_rfl) (by simp) (AllReadyH.cons (o := { dst := some 40, op := Op.call { callee := Callee.value (Operand.func 152), args := #[Operand.tmp 39], argTypes := #[38] }, type := 9, pos := "blob.go:75", after := #[{ on := 1, ground := Ground.data }, { on := 0, ground := Ground.chain }], guard := none }) rfl (fun K hK => ?_) AllReadyH.nil)
      (go_simp; (go_at_call 152; (with_reducible refine (St.call hd1r9 (HBY.out _)).mono ?_); rintro e V2r9 ⟨rfl, hd2r9⟩))
      refine hK.out _ _ ?_ (fun hHeld => ?_)
      · exact hd2r9
      clear hK K
      try simp only [Act.put, List.setIfInBounds_toArray, List.set_cons_zero, List.set_cons_succ]
      refine wpAnyH_take (i := 3) (oi := { dst := some 41, op := Op.binOp BinOp.add 9 (Operand.tmp 38) (Operand.tmp 40) 9, type := 9, pos := "blob.go:75", after := #[{ on := 0, ground := Ground.data }, { on := 2, ground := Ground.data }], guard := none }) (v := .string (O.str ([UInt8.ofNat 1] ++ S5))) rfl (by kernel_rfl) (by kernel_rfl) (by kernel_rfl) (fun _ _ _ h => h) (Or.inl ⟨by kernel_rfl, ?_⟩) (by assumption) ?_
      focus (intro w hSw; (try dsimp only at hSw); go_simp; (rw [if_neg (by omega), O.str_append]; rfl))
      try simp only [Act.put, List.setIfInBounds_toArray, List.set_cons_zero, List.set_cons_succ]
      refine wpAnyH_take (i := 4) (oi := { dst := some 2, op := Op.assign (Operand.tmp 41), type := 9, pos := "blob.go:75", after := #[{ on := 3, ground := Ground.data }, { on := 2, ground := Ground.chain }, { on := 0, ground := Ground.phase }, { on := 1, ground := Ground.phase }, { on := 2, ground := Ground.phase }, { on := 3, ground := Ground.phase }], guard := none }) (v := ?_) rfl (by kernel_rfl) (by kernel_rfl) (by kernel_rfl) (fun _ _ _ h => h) (Or.inl ⟨by kernel_rfl, ?_⟩) (by assumption) ?_
      rotate_left 1
      focus (intro w hSw; (try dsimp only at hSw); go_simp; (try with_reducible rfl))
      try simp only [Act.put, List.setIfInBounds_toArray, List.set_cons_zero, List.set_cons_succ]
      refine wpAnyH_done (by kernel_rfl) ?_ _
      have HB := Lib.hid hd2r9.below
      go_wp2
      go_ret
      exact ⟨by rw [HBL3.out]; rfl, HB.out⟩
  · have HBL2 : Hid (blob f = [UInt8.ofNat 0] ++ S2) := HBL.out
    go_upto_region 3 with fail
    have hd := h3.drew
    clear h3 HBL HP1 HP2 HBE HPB HF HEN HBY hadd2 HCO
    refine wp_region_held_drew (S := fun V9 => St w [(b3, pxo PX), (w.heap.size, tob f)] V9) (by kernel_rfl) ?_ (fun hHeld => ?_)
    · exact hd
    refine wpAnyH_take (i := 1) (oi := { dst := some 16, op := Op.load 36 (Operand.tmp 3), type := 36, pos := "blob.go:67", after := #[], guard := none }) rfl (by kernel_rfl) (by kernel_rfl) (by kernel_rfl) (fun _ _ _ h => h) (yields_load (by kernel_rfl) 36 (.tmp 3) rfl (PX).v (fun V hV => ldp (b := b3) (p := PX) hV (by simp))) (by assumption) ?_
    try simp only [Act.put, List.setIfInBounds_toArray, List.set_cons_zero, List.set_cons_succ]
    refine wpAnyH_ready (rs := [0]) (by kernel_rfl) (by simp) (AllReadyH.cons (o := { dst := some 15, op := Op.call { callee := Callee.value (Operand.func 108), args := #[Operand.const (Value.int IntKind.i64 0), Operand.const (Value.int IntKind.i64 1)], argTypes := #[3, 3] }, type := 9, pos := "blob.go:67", after := #[], guard := none }) rfl (fun K hK => ?_) AllReadyH.nil)
    (go_simp; (go_at_call 108; (with_reducible refine (St.call hd (HP.out _)).mono ?_); rintro e V1r3 ⟨rfl, hd1r3⟩))
    refine hK.out _ _ ?_ (fun hHeld => ?_)
    · exact hd1r3
    clear hK K
    try simp only [Act.put, List.setIfInBounds_toArray, List.set_cons_zero, List.set_cons_succ]
    refine wpAnyH_ready (rs := [2]) (by kernel_rfl) (by simp) (AllReadyH.cons (o := { dst := some 17, op := Op.call { callee := Callee.value (Operand.func 109), args := #[Operand.tmp 16], argTypes := #[36] }, type := 9, pos := "blob.go:67", after := #[{ on := 1, ground := Ground.data }, { on := 0, ground := Ground.chain }], guard := none }) rfl (fun K hK => ?_) AllReadyH.nil)
    (go_simp; (go_at_call 109; (with_reducible refine (St.call hd1r3 (HX.out _)).mono ?_); rintro e V2r3 ⟨rfl, hd2r3⟩))
    refine hK.out _ _ ?_ (fun hHeld => ?_)
    · exact hd2r3
    clear hK K
    try simp only [Act.put, List.setIfInBounds_toArray, List.set_cons_zero, List.set_cons_succ]
    refine wpAnyH_take (i := 3) (oi := { dst := some 18, op := Op.binOp BinOp.add 9 (Operand.tmp 15) (Operand.tmp 17) 9, type := 9, pos := "blob.go:67", after := #[{ on := 0, ground := Ground.data }, { on := 2, ground := Ground.data }], guard := none }) (v := .string (O.str ([UInt8.ofNat 0] ++ S2))) rfl (by kernel_rfl) (by kernel_rfl) (by kernel_rfl) (fun _ _ _ h => h) (Or.inl ⟨by kernel_rfl, ?_⟩) (by assumption) ?_
    focus (intro w hSw; (try dsimp only at hSw); go_simp; (rw [if_neg (by omega), O.str_append]; rfl))
    try simp only [Act.put, List.setIfInBounds_toArray, List.set_cons_zero, List.set_cons_succ]
    refine wpAnyH_take (i := 4) (oi := { dst := some 2, op := Op.assign (Operand.tmp 18), type := 9, pos := "blob.go:67", after := #[{ on := 3, ground := Ground.data }, { on := 2, ground := Ground.chain }, { on := 0, ground := Ground.phase }, { on := 1, ground := Ground.phase }, { on := 2, ground := Ground.phase }, { on := 3, ground := Ground.phase }], guard := none }) (v := ?_) rfl (by kernel_rfl) (by kernel_rfl) (by kernel_rfl) (fun _ _ _ h => h) (Or.inl ⟨by kernel_rfl, ?_⟩) (by assumption) ?_
    rotate_left 1
    focus (intro w hSw; (try dsimp only at hSw); go_simp; (try with_reducible rfl))
    try simp only [Act.put, List.setIfInBounds_toArray, List.set_cons_zero, List.set_cons_succ]
    refine wpAnyH_done (by kernel_rfl) ?_ _
    have HB := Lib.hid hd2r3.below
    go_wp2
    go_ret
    exact ⟨by rw [HBL2.out]; rfl, HB.out⟩
end Go.Proofs.YtfncldaodbfakaaGreat.Z
