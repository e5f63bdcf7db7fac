/-
  Writer.Bit (contract). slices.Clone of bytes; Writer.Bytes (contracts).
-/
import Derived.Test.YtfncldaodbfakaaGreatCBit1
import Derived.OrdersHeld
import Derived.Lib.SliceRun
namespace Go.Proofs.YtfncldaodbfakaaGreat.C
open Go.RowKit
set_option maxRecDepth 100000
variable {W w w' : World} {L : List (Nat × Obj)}

set_option maxHeartbeats 4000000 in
theorem bitW_any (b : Nat) (n m : Int) (c : Cd) (v : Value) (bs : List UInt8) (l : List (Nat × Obj)) (w : World) (ok : Ok c) (hv : SL v bs l) (h : HS W ((b, wob c v) :: (l ++ L)) w) (hlen : bs.length ≤ 800000) :
    Calls Tryz.prog 210 #[.pointer (some ⟨b, 0, none⟩), .int .i64 n, .int .i64 m] w fun e w' => e = .returned (.tuple #[]) ∧ ∃ v' l', SL v' (bs ++ out c (ctx n) (bitn m)) l' ∧ HS W ((b, wob (stp c (ctx n) (bitn m)) v') :: (l' ++ L)) w' := by
  have ha := and1 m
  have hs := (h.alloc (bxo 236 b)).box3
  go_enter Tryz.func210, Tryz.ntmps210
  go_upto_region 1 with fail
  generalize w.alloc (bxo 236 b) = w1 at hs ⊢
  generalize w.heap.size = q at hs ⊢
  have hbx := hs.bx (q := q) (b := b) (t := 236) (by simp)
  go_upto_region 3 with fail
  refine wp_region_held_drew (S := fun V9 => V9.cell? ⟨q, 0, none⟩ = some (.pointer (some ⟨b, 0, none⟩))) (by kernel_rfl) ?_ (fun hHeld => ?_)
  · exact hs.drew.bx (q := q) (b := b) (t := 236) (by simp)
  have hs0 := hs.drew
  refine wpAnyH_take (i := 0) (oi := { dst := some 10, op := Op.load 236 (Operand.tmp 3), type := 236, pos := "writer.go:23", after := #[], guard := none }) (v := ?_) rfl (by kernel_rfl) (by kernel_rfl) (by kernel_rfl) (fun _ _ _ h => h) (Or.inl ⟨by kernel_rfl, ?_⟩) (by assumption) ?_
  rotate_left 1
  focus (intro w hSw; (try dsimp only at hSw); go_simp; (try with_reducible rfl))
  try simp only [Act.put, List.setIfInBounds_toArray, List.set_cons_zero, List.set_cons_succ]
  refine wpAnyH_take (i := 1) (oi := { dst := some 11, op := Op.nilCheck (Operand.tmp 10), type := 0, pos := "writer.go:23", after := #[{ on := 0, ground := Ground.data }], guard := none }) (v := ?_) rfl (by kernel_rfl) (by kernel_rfl) (by kernel_rfl) (fun _ _ _ h => h) (Or.inl ⟨by kernel_rfl, ?_⟩) (by assumption) ?_
  rotate_left 1
  focus (intro w hSw; (try dsimp only at hSw); go_simp; (try with_reducible rfl))
  try simp only [Act.put, List.setIfInBounds_toArray, List.set_cons_zero, List.set_cons_succ]
  refine wpAnyH_take (i := 2) (oi := { dst := some 12, op := Op.fieldAddr 267 (Operand.tmp 11) 1, type := 0, pos := "writer.go:23", after := #[{ on := 1, ground := Ground.data }], guard := none }) (v := ?_) rfl (by kernel_rfl) (by kernel_rfl) (by kernel_rfl) (fun _ _ _ h => h) (Or.inl ⟨by kernel_rfl, ?_⟩) (by assumption) ?_
  rotate_left 1
  focus (intro w hSw; (try dsimp only at hSw); go_simp; (try with_reducible rfl))
  try simp only [Act.put, List.setIfInBounds_toArray, List.set_cons_zero, List.set_cons_succ]
  refine wpAnyH_take (i := 3) (oi := { dst := some 13, op := Op.load 236 (Operand.tmp 3), type := 236, pos := "writer.go:23", after := #[], guard := none }) (v := ?_) rfl (by kernel_rfl) (by kernel_rfl) (by kernel_rfl) (fun _ _ _ h => h) (Or.inl ⟨by kernel_rfl, ?_⟩) (by assumption) ?_
  rotate_left 1
  focus (intro w hSw; (try dsimp only at hSw); go_simp; (try with_reducible rfl))
  try simp only [Act.put, List.setIfInBounds_toArray, List.set_cons_zero, List.set_cons_succ]
  refine wpAnyH_take (i := 4) (oi := { dst := some 14, op := Op.nilCheck (Operand.tmp 13), type := 0, pos := "writer.go:23", after := #[{ on := 3, ground := Ground.data }], guard := none }) (v := ?_) rfl (by kernel_rfl) (by kernel_rfl) (by kernel_rfl) (fun _ _ _ h => h) (Or.inl ⟨by kernel_rfl, ?_⟩) (by assumption) ?_
  rotate_left 1
  focus (intro w hSw; (try dsimp only at hSw); go_simp; (try with_reducible rfl))
  try simp only [Act.put, List.setIfInBounds_toArray, List.set_cons_zero, List.set_cons_succ]
  refine wpAnyH_take (i := 5) (oi := { dst := some 15, op := Op.fieldAddr 267 (Operand.tmp 14) 1, type := 0, pos := "writer.go:23", after := #[{ on := 4, ground := Ground.data }], guard := none }) (v := ?_) rfl (by kernel_rfl) (by kernel_rfl) (by kernel_rfl) (fun _ _ _ h => h) (Or.inl ⟨by kernel_rfl, ?_⟩) (by assumption) ?_
  rotate_left 1
  focus (intro w hSw; (try dsimp only at hSw); go_simp; (try with_reducible rfl))
  try simp only [Act.put, List.setIfInBounds_toArray, List.set_cons_zero, List.set_cons_succ]
  refine wpAnyH_take (i := 6) (oi := { dst := some 16, op := Op.load 236 (Operand.tmp 3), type := 236, pos := "writer.go:23", after := #[], guard := none }) (v := ?_) rfl (by kernel_rfl) (by kernel_rfl) (by kernel_rfl) (fun _ _ _ h => h) (Or.inl ⟨by kernel_rfl, ?_⟩) (by assumption) ?_
  rotate_left 1
  focus (intro w hSw; (try dsimp only at hSw); go_simp; (try with_reducible rfl))
  try simp only [Act.put, List.setIfInBounds_toArray, List.set_cons_zero, List.set_cons_succ]
  refine wpAnyH_take (i := 7) (oi := { dst := some 17, op := Op.nilCheck (Operand.tmp 16), type := 0, pos := "writer.go:23", after := #[{ on := 6, ground := Ground.data }], guard := none }) (v := ?_) rfl (by kernel_rfl) (by kernel_rfl) (by kernel_rfl) (fun _ _ _ h => h) (Or.inl ⟨by kernel_rfl, ?_⟩) (by assumption) ?_
  rotate_left 1
  focus (intro w hSw; (try dsimp only at hSw); go_simp; (try with_reducible rfl))
  try simp only [Act.put, List.setIfInBounds_toArray, List.set_cons_zero, List.set_cons_succ]
  refine wpAnyH_take (i := 8) (oi := { dst := some 18, op := Op.fieldAddr 267 (Operand.tmp 17) 0, type := 0, pos := "writer.go:23", after := #[{ on := 7, ground := Ground.data }], guard := none }) (v := ?_) rfl (by kernel_rfl) (by kernel_rfl) (by kernel_rfl) (fun _ _ _ h => h) (Or.inl ⟨by kernel_rfl, ?_⟩) (by assumption) ?_
  rotate_left 1
  focus (intro w hSw; (try dsimp only at hSw); go_simp; (try with_reducible rfl))
  try simp only [Act.put, List.setIfInBounds_toArray, List.set_cons_zero, List.set_cons_succ]
  refine wpAnyH_take (i := 9) (oi := { dst := some 19, op := Op.move (Operand.tmp 1), type := 3, pos := "writer.go:23", after := #[], guard := none }) (v := ?_) rfl (by kernel_rfl) (by kernel_rfl) (by kernel_rfl) (fun _ _ _ h => h) (Or.inl ⟨by kernel_rfl, ?_⟩) (by assumption) ?_
  rotate_left 1
  focus (intro w hSw; (try dsimp only at hSw); go_simp; (try with_reducible rfl))
  try simp only [Act.put, List.setIfInBounds_toArray, List.set_cons_zero, List.set_cons_succ]
  refine wpAnyH_take (i := 12) (oi := { dst := some 22, op := Op.move (Operand.tmp 2), type := 3, pos := "writer.go:23", after := #[], guard := none }) (v := ?_) rfl (by kernel_rfl) (by kernel_rfl) (by kernel_rfl) (fun _ _ _ h => h) (Or.inl ⟨by kernel_rfl, ?_⟩) (by assumption) ?_
  rotate_left 1
  focus (intro w hSw; (try dsimp only at hSw); go_simp; (try with_reducible rfl))
  try simp only [Act.put, List.setIfInBounds_toArray, List.set_cons_zero, List.set_cons_succ]
  refine wpAnyH_ready (rs := [10]) (by kernel_rfl) (by simp) (AllReadyH.cons (o := { dst := some 20, op := Op.call { callee := Callee.value (Operand.func 224), args := #[Operand.tmp 18, Operand.tmp 19], argTypes := #[263, 3] }, type := 3, pos := "writer.go:23", after := #[{ on := 8, ground := Ground.data }, { on := 9, ground := Ground.data }], guard := none }) rfl (fun K hK => ?_) AllReadyH.nil)
  (go_simp; (go_at_call 224; (refine (prob_c n ok hs0).mono ?_); rintro e V1r3 ⟨rfl, mV1r3, hVe⟩))
  have hs1r3 := hs0.drewN mV1r3
  rw [← hVe] at hs1r3; clear hVe
  refine hK.out _ _ ?_ (fun hHeld => ?_)
  · exact hs1r3.bx (q := q) (b := b) (t := 236) (by simp)
  clear hK K
  try simp only [Act.put, List.setIfInBounds_toArray, List.set_cons_zero, List.set_cons_succ]
  refine wpAnyH_ready (rs := [11]) (by kernel_rfl) (by simp) (AllReadyH.cons (o := { dst := some 21, op := Op.call { callee := Callee.value (Operand.func 223), args := #[Operand.tmp 15, Operand.tmp 20], argTypes := #[265, 3] }, type := 145, pos := "writer.go:23", after := #[{ on := 5, ground := Ground.data }, { on := 10, ground := Ground.data }, { on := 10, ground := Ground.chain }], guard := none }) rfl (fun K hK => ?_) AllReadyH.nil)
  (go_simp; (go_at_call 223; (refine (mid_c (ctx n) ok hs1r3).mono ?_); rintro e V2r3 ⟨rfl, mV2r3, hVe⟩))
  have hs2r3 := hs1r3.drewN mV2r3
  rw [← hVe] at hs2r3; clear hVe
  refine hK.out _ _ ?_ (fun hHeld => ?_)
  · exact hs2r3.bx (q := q) (b := b) (t := 236) (by simp)
  clear hK K
  try simp only [Act.put, List.setIfInBounds_toArray, List.set_cons_zero, List.set_cons_succ]
  refine wpAnyH_ready (rs := [13]) (by kernel_rfl) (by simp) (AllReadyH.cons (o := { dst := some 23, op := Op.call { callee := Callee.value (Operand.func 222), args := #[Operand.tmp 12, Operand.tmp 21, Operand.tmp 22], argTypes := #[265, 145, 3] }, type := 0, pos := "writer.go:23", after := #[{ on := 2, ground := Ground.data }, { on := 11, ground := Ground.data }, { on := 12, ground := Ground.data }, { on := 11, ground := Ground.chain }], guard := none }) rfl (fun K hK => ?_) AllReadyH.nil)
  (go_simp; (go_at_call 222; (refine (narrow_c (ctx n) (bitn m) (bitn_lt m) ok hs2r3).mono ?_); rintro e V3r3 ⟨rfl, hs3r3⟩))
  refine hK.out _ _ ?_ (fun hHeld => ?_)
  · exact hs3r3.bx (q := q) (b := b) (t := 236) (by simp)
  clear hK K
  try simp only [Act.put, List.setIfInBounds_toArray, List.set_cons_zero, List.set_cons_succ]
  refine wpAnyH_done (by kernel_rfl) ?_ _
  go_upto_region 5 with (first
    | (go_at_call 225; refine (learn_c n (bitn m) (bitn_lt m) ok hs3r3).mono ?_; rintro e w4 ⟨rfl, h4⟩; have hbx4 := h4.bx (q := q) (b := b) (t := 236) (by simp)))
  go_wp2_with (first
    | (go_at_call 226; refine (shiftW_any b q c (ctx n) (bitn m) v bs l _ ok hv h4 hlen).mono ?_; rintro e w5 ⟨rfl, v5, l5, hv5, h5⟩))
  exact bodyPost_end (results_none rfl _ _ _) rfl ⟨rfl, v5, l5, hv5, h5.unbox3⟩
end Go.Proofs.YtfncldaodbfakaaGreat.C

namespace Go.Proofs.YtfncldaodbfakaaGreat.C
open Go.RowKit Go.Shelf
set_option maxRecDepth 100000
variable {W w w' : World} {L : List (Nat × Obj)}

theorem run_sl0 (w : World) : (Instr.buildSlice 84 0 #[]).run Tryz.prog w = .ok (.slice (some ⟨w.heap.size, 0, none⟩) 0 0) (w.alloc (.cells #[] 5)) := by
  have hs : (sizeOf 5).run Tryz.prog w = .ok 1 w := by kernel_rfl
  simp [Instr.buildSlice, run_underlying Tryz.underlying84, hs, Instr.fill, newRow]
  rw [show (Array.map (fun _ => (default : Value)) (Array.range 0)) = #[] from Array.eq_empty_of_size_eq_zero (by simp)]
theorem wpList_sl0 {ops : Array Oper} {rest : List Oper} {o : Oper} {a : Act} {Q : Exit → Act → World → Prop} (hg : o.guard = none) (ho : o.op = .buildSlice 84 0 #[]) (hs : HS W L w)
    (k : SL (.slice (some ⟨w.heap.size, 0, none⟩) 0 0) [] [(w.heap.size, .cells #[] 5)] → HS W ((w.heap.size, .cells #[] 5) :: L) (w.alloc (.cells #[] 5)) → wpList Tryz.prog ops Q rest (a.put o.dst (.slice (some ⟨w.heap.size, 0, none⟩) 0 0)) (w.alloc (.cells #[] 5))) : wpList Tryz.prog ops Q (o :: rest) a w :=
  wpList_plain hg fun K hK => by
    have h := run_sl0 w
    unfold Oper.wp execOp
    simp only [ho, Sem.run_bind, List.map_toArray, List.map_nil, h, Result.andThen_ok, Sem.run_pure]
    exact hK _ _ (k (.inr ⟨_, _, _, rfl, rfl, Nat.le_refl _, by unfold maxLen; omega, rfl, rfl⟩) (hs.alloc _))
set_option maxHeartbeats 1000000 in
theorem clone_any (v : Value) (ms : List UInt8) (w : World) (hy : Src w v ms) (hs : HS W L w) (hlen : ms.length ≤ 1000000) :
    Calls Tryz.prog 212 #[v] w fun e w' => ∃ v' l', e = .returned v' ∧ SL v' ms l' ∧ HS W (l' ++ L) w' := by
  have HY := Lib.hid hy
  rcases hy with ⟨rfl, rfl⟩ | ⟨q, c, rfl, hm⟩
  · have he : ∀ V, (Go.binOp .eql 84 (.slice none 0 0) (.slice none 0 0)).run Tryz.prog V = .ok (.bool true) V := fun V => Lib.run_eql_slice_nil V _ _ none 0 0 0 0 Tryz.underlying84
    go_enter Tryz.func212, Tryz.ntmps212
    go_wp2
    go_ret
    exact ⟨_, [], rfl, SL.nil, hs⟩
  · have hsrc : Src (w.alloc (.cells #[] 5)) (.slice (some ⟨q, 0, none⟩) ms.length c) ms := .inr ⟨q, c, rfl, fun j u hj => by
      have h1 := hm j u hj
      exact ((Below.refl _ w).alloc (Nat.le_refl _) _).cell (World.block_lt_of_cell? w _ h1) |>.trans h1⟩
    clear hm
    have he : ∀ V, (Go.binOp .eql 84 (.slice (some ⟨q, 0, none⟩) ms.length c) (.slice none 0 0)).run Tryz.prog V = .ok (.bool false) V := fun V => Lib.run_eql_slice_nil V _ _ (some ⟨q, 0, none⟩) _ _ 0 0 Tryz.underlying84
    go_enter Tryz.func212, Tryz.ntmps212
    go_wp2_with (first
      | (refine wpList_sl0 rfl rfl hs ?_; intro k1 k2)
      | (refine wpList_app rfl (.tmp 5) (.tmp 6) rfl _ _ [] ms _ rfl rfl k1 k2 hsrc (by rw [List.length_nil]; omega) ?_; intro v3 w3 l3 k3 k4))
    go_ret
    exact ⟨_, _, rfl, k3, k4⟩
theorem cell_later {B : Nat} {a : Addr} {x : Value} (h : w.cell? a = some x) (hb : Below B w w') (hB : a.block < B) : w'.cell? a = some x := (hb.cell hB).trans h
/-- the byte of a number in the walk's spelling -/
theorem u8_of (x : Nat) : ((UInt8.ofNat x).toNat : Int) = (x : Int) % 256 := by rw [UInt8.toNat_ofNat']; omega
theorem SL.app0 {v : Value} {bs : List UInt8} {l : List (Nat × Obj)} (h : SL v bs l) : SL v (bs ++ []) l := by rw [List.append_nil]; exact h
theorem HS.unmidtl {l R : List (Nat × Obj)} {x : Nat × Obj} (h : HS W (l ++ x :: R) w) : HS W (l ++ R) w := h.mid.tl
set_option maxHeartbeats 2000000 in
theorem bytesW_any (b : Nat) (c : Cd) (v : Value) (bs : List UInt8) (l : List (Nat × Obj)) (w : World) (ok : Ok c) (hv : SL v bs l) (h : HS W ((b, wob c v) :: (l ++ L)) w) (hlen : bs.length ≤ 800000) :
    Calls Tryz.prog 186 #[.pointer (some ⟨b, 0, none⟩)] w fun e w' => e = .returned (.string (str (bs ++ be4 c.lo))) ∧ Below w.heap.size w w' := by
  have hsrc := Src.of hv (h.tl.left)
  have hc2 : w.cell? ⟨b, 258, none⟩ = some v := h.hd_r 2
  have hc0 : w.cell? ⟨b, 256, none⟩ = some (.int .u32 (c.lo : Int)) := h.hd_r 0
  have hlt : b < w.heap.size := h.lt (List.mem_cons_self ..)
  have h0 := HS.start w
  have hlo : c.lo < 4294967296 := by have := ok.lt; have := ok.hi; omega
  have HSRC := Lib.hid hsrc
  clear h hsrc hv
  generalize c.lo = lo at *
  go_enter Tryz.func186, Tryz.ntmps186
  go_upto_region 3 with fail
  go_wp2_with (go_at_call 212; refine (clone_any v bs w HSRC.out h0 (by omega)).mono ?_; rintro e w1 ⟨v1, l1, rfl, hv1, h1⟩)
  have HC := Lib.hid hc0
  have HV1 := Lib.hid hv1
  have H1 := Lib.hid h1
  clear hc2 hc0 hv1 h1 h0
  go_loopw [3, 4] (fun x r wr => ∃ (k : Nat) (l' : List (Nat × Obj)), k ≤ 4 ∧ r = .int .i64 (24 - 8 * (k : Int)) ∧ Hid (SL x (bs ++ (be4 lo).take k) l') ∧ Hid (HS w (l' ++ []) wr)) (fun _ r _ => (intOf r + 8).toNat)
  case atStart => exact ⟨0, l1, by omega, rfl, HV1.out.app0, H1⟩
  case round =>
    obtain ⟨k, l', hk, rfl, HV, HT⟩ := hrel
    clear HV1 H1
    have hc0 : wr.cell? ⟨b, 256, none⟩ = some (.int .u32 (lo : Int)) := cell_later HC.out HT.out.below hlt
    have hk5 : k = 0 ∨ k = 1 ∨ k = 2 ∨ k = 3 ∨ k = 4 := by omega
    rcases hk5 with rfl | rfl | rfl | rfl | rfl
    · go_wp2_with (first
        | (refine wpList_app rfl (.tmp 16) (.tmp 25) rfl _ _ _ [UInt8.ofNat (lo / 16777216)] l' rfl rfl HV.out ((HT.out.alloc _).unmid) (Src.one' _ _ (by have := u8_of (lo / 16777216); omega) (heap_alloc_new _ _)) (by simp [be4]; omega) ?_; intro v3 w3 l3 k3 k4; have K3 := Lib.hid k3; have k5 := k4.unmidtl; have K4 := Lib.hid k5; clear k3 k4 k5))
      go_roundw
      case rel => exact ⟨1, l3, by omega, rfl, Lib.hid (by have := K3.out; simpa [be4] using this), K4.out⟩
      case measure => simp [intOf]
    · go_wp2_with (first
        | (refine wpList_app rfl (.tmp 16) (.tmp 25) rfl _ _ _ [UInt8.ofNat (lo / 65536)] l' rfl rfl HV.out ((HT.out.alloc _).unmid) (Src.one' _ _ (by have := u8_of (lo / 65536); omega) (heap_alloc_new _ _)) (by simp [be4]; omega) ?_; intro v3 w3 l3 k3 k4; have K3 := Lib.hid k3; have k5 := k4.unmidtl; have K4 := Lib.hid k5; clear k3 k4 k5))
      go_roundw
      case rel => exact ⟨2, l3, by omega, rfl, Lib.hid (by have := K3.out; simpa [be4] using this), K4.out⟩
      case measure => simp [intOf]
    · go_wp2_with (first
        | (refine wpList_app rfl (.tmp 16) (.tmp 25) rfl _ _ _ [UInt8.ofNat (lo / 256)] l' rfl rfl HV.out ((HT.out.alloc _).unmid) (Src.one' _ _ (by have := u8_of (lo / 256); omega) (heap_alloc_new _ _)) (by simp [be4]; omega) ?_; intro v3 w3 l3 k3 k4; have K3 := Lib.hid k3; have k5 := k4.unmidtl; have K4 := Lib.hid k5; clear k3 k4 k5))
      go_roundw
      case rel => exact ⟨3, l3, by omega, rfl, Lib.hid (by have := K3.out; simpa [be4] using this), K4.out⟩
      case measure => simp [intOf]
    · go_wp2_with (first
        | (refine wpList_app rfl (.tmp 16) (.tmp 25) rfl _ _ _ [UInt8.ofNat (lo)] l' rfl rfl HV.out ((HT.out.alloc _).unmid) (Src.one' _ _ (by have := u8_of (lo); omega) (heap_alloc_new _ _)) (by simp [be4]; omega) ?_; intro v3 w3 l3 k3 k4; have K3 := Lib.hid k3; have k5 := k4.unmidtl; have K4 := Lib.hid k5; clear k3 k4 k5))
      go_roundw
      case rel => exact ⟨4, l3, by omega, rfl, Lib.hid (by have := K3.out; simpa [be4] using this), K4.out⟩
      case measure => simp [intOf]
    · have hcv := owns_conv (HV.out.owns HT.out)
      go_wp2
      go_ret
      exact ⟨rfl, HT.out.below⟩
end Go.Proofs.YtfncldaodbfakaaGreat.C
