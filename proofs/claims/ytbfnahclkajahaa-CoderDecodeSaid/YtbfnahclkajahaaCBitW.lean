/-
  Writer.Bit (contract).
-/
import Derived.Test.YtbfnahclkajahaaCCtr
import Derived.OrdersHeld
namespace Go.Proofs.Ytbfnahclkajahaa.C
open Go.RowKit
set_option maxRecDepth 100000
variable {W w w' : World} {L : List (Nat × Obj)}

set_option maxHeartbeats 4000000 in
theorem bitW_any (b : Nat) (n m : Int) (c : Cd) (v : Value) (bs : List UInt8) (l : List (Nat × Obj)) (w : World) (ok : Ok c) (hv : SL v bs l) (h : HS W ((b, wob c v) :: (l ++ L)) w) (hlen : bs.length ≤ 800000) :
    Calls Try.prog 21 #[.pointer (some ⟨b, 0, none⟩), .int .i64 n, .int .i64 m] w fun e w' => e = .returned (.tuple #[]) ∧ ∃ v' l', SL v' (bs ++ out c (ctx n) (bitn m)) l' ∧ HS W ((b, wob (stp c (ctx n) (bitn m)) v') :: (l' ++ L)) w' := by
  have ha := and1 m
  have hs := (h.alloc (bxo 37 b)).box3
  go_enter Try.func21, Try.ntmps21
  go_upto_region 1 with fail
  generalize w.alloc (bxo 37 b) = w1 at hs ⊢
  generalize w.heap.size = q at hs ⊢
  have hbx := hs.bx (q := q) (b := b) (t := 37) (by simp)
  go_upto_region 3 with fail
  refine wp_region_held_drew (S := fun V9 => V9.cell? ⟨q, 0, none⟩ = some (.pointer (some ⟨b, 0, none⟩))) (by kernel_rfl) ?_ (fun hHeld => ?_)
  · exact hs.drew.bx (q := q) (b := b) (t := 37) (by simp)
  have hs0 := hs.drew
  refine wpAnyH_take (i := 0) (oi := { dst := some 10, op := Op.load 37 (Operand.tmp 3), type := 37, pos := "writer.go:23", after := #[], guard := none }) (v := ?_) rfl (by kernel_rfl) (by kernel_rfl) (by kernel_rfl) (fun _ _ _ h => h) (Or.inl ⟨by kernel_rfl, ?_⟩) (by assumption) ?_
  rotate_left 1
  focus (intro w hSw; (try dsimp only at hSw); go_simp; (try with_reducible rfl))
  try simp only [Act.put, List.setIfInBounds_toArray, List.set_cons_zero, List.set_cons_succ]
  refine wpAnyH_take (i := 1) (oi := { dst := some 11, op := Op.nilCheck (Operand.tmp 10), type := 0, pos := "writer.go:23", after := #[{ on := 0, ground := Ground.data }], guard := none }) (v := ?_) rfl (by kernel_rfl) (by kernel_rfl) (by kernel_rfl) (fun _ _ _ h => h) (Or.inl ⟨by kernel_rfl, ?_⟩) (by assumption) ?_
  rotate_left 1
  focus (intro w hSw; (try dsimp only at hSw); go_simp; (try with_reducible rfl))
  try simp only [Act.put, List.setIfInBounds_toArray, List.set_cons_zero, List.set_cons_succ]
  refine wpAnyH_take (i := 2) (oi := { dst := some 12, op := Op.fieldAddr 68 (Operand.tmp 11) 1, type := 0, pos := "writer.go:23", after := #[{ on := 1, ground := Ground.data }], guard := none }) (v := ?_) rfl (by kernel_rfl) (by kernel_rfl) (by kernel_rfl) (fun _ _ _ h => h) (Or.inl ⟨by kernel_rfl, ?_⟩) (by assumption) ?_
  rotate_left 1
  focus (intro w hSw; (try dsimp only at hSw); go_simp; (try with_reducible rfl))
  try simp only [Act.put, List.setIfInBounds_toArray, List.set_cons_zero, List.set_cons_succ]
  refine wpAnyH_take (i := 3) (oi := { dst := some 13, op := Op.load 37 (Operand.tmp 3), type := 37, pos := "writer.go:23", after := #[], guard := none }) (v := ?_) rfl (by kernel_rfl) (by kernel_rfl) (by kernel_rfl) (fun _ _ _ h => h) (Or.inl ⟨by kernel_rfl, ?_⟩) (by assumption) ?_
  rotate_left 1
  focus (intro w hSw; (try dsimp only at hSw); go_simp; (try with_reducible rfl))
  try simp only [Act.put, List.setIfInBounds_toArray, List.set_cons_zero, List.set_cons_succ]
  refine wpAnyH_take (i := 4) (oi := { dst := some 14, op := Op.nilCheck (Operand.tmp 13), type := 0, pos := "writer.go:23", after := #[{ on := 3, ground := Ground.data }], guard := none }) (v := ?_) rfl (by kernel_rfl) (by kernel_rfl) (by kernel_rfl) (fun _ _ _ h => h) (Or.inl ⟨by kernel_rfl, ?_⟩) (by assumption) ?_
  rotate_left 1
  focus (intro w hSw; (try dsimp only at hSw); go_simp; (try with_reducible rfl))
  try simp only [Act.put, List.setIfInBounds_toArray, List.set_cons_zero, List.set_cons_succ]
  refine wpAnyH_take (i := 5) (oi := { dst := some 15, op := Op.fieldAddr 68 (Operand.tmp 14) 1, type := 0, pos := "writer.go:23", after := #[{ on := 4, ground := Ground.data }], guard := none }) (v := ?_) rfl (by kernel_rfl) (by kernel_rfl) (by kernel_rfl) (fun _ _ _ h => h) (Or.inl ⟨by kernel_rfl, ?_⟩) (by assumption) ?_
  rotate_left 1
  focus (intro w hSw; (try dsimp only at hSw); go_simp; (try with_reducible rfl))
  try simp only [Act.put, List.setIfInBounds_toArray, List.set_cons_zero, List.set_cons_succ]
  refine wpAnyH_take (i := 6) (oi := { dst := some 16, op := Op.load 37 (Operand.tmp 3), type := 37, pos := "writer.go:23", after := #[], guard := none }) (v := ?_) rfl (by kernel_rfl) (by kernel_rfl) (by kernel_rfl) (fun _ _ _ h => h) (Or.inl ⟨by kernel_rfl, ?_⟩) (by assumption) ?_
  rotate_left 1
  focus (intro w hSw; (try dsimp only at hSw); go_simp; (try with_reducible rfl))
  try simp only [Act.put, List.setIfInBounds_toArray, List.set_cons_zero, List.set_cons_succ]
  refine wpAnyH_take (i := 7) (oi := { dst := some 17, op := Op.nilCheck (Operand.tmp 16), type := 0, pos := "writer.go:23", after := #[{ on := 6, ground := Ground.data }], guard := none }) (v := ?_) rfl (by kernel_rfl) (by kernel_rfl) (by kernel_rfl) (fun _ _ _ h => h) (Or.inl ⟨by kernel_rfl, ?_⟩) (by assumption) ?_
  rotate_left 1
  focus (intro w hSw; (try dsimp only at hSw); go_simp; (try with_reducible rfl))
  try simp only [Act.put, List.setIfInBounds_toArray, List.set_cons_zero, List.set_cons_succ]
  refine wpAnyH_take (i := 8) (oi := { dst := some 18, op := Op.fieldAddr 68 (Operand.tmp 17) 0, type := 0, pos := "writer.go:23", after := #[{ on := 7, ground := Ground.data }], guard := none }) (v := ?_) rfl (by kernel_rfl) (by kernel_rfl) (by kernel_rfl) (fun _ _ _ h => h) (Or.inl ⟨by kernel_rfl, ?_⟩) (by assumption) ?_
  rotate_left 1
  focus (intro w hSw; (try dsimp only at hSw); go_simp; (try with_reducible rfl))
  try simp only [Act.put, List.setIfInBounds_toArray, List.set_cons_zero, List.set_cons_succ]
  refine wpAnyH_take (i := 9) (oi := { dst := some 19, op := Op.move (Operand.tmp 1), type := 3, pos := "writer.go:23", after := #[], guard := none }) (v := ?_) rfl (by kernel_rfl) (by kernel_rfl) (by kernel_rfl) (fun _ _ _ h => h) (Or.inl ⟨by kernel_rfl, ?_⟩) (by assumption) ?_
  rotate_left 1
  focus (intro w hSw; (try dsimp only at hSw); go_simp; (try with_reducible rfl))
  try simp only [Act.put, List.setIfInBounds_toArray, List.set_cons_zero, List.set_cons_succ]
  refine wpAnyH_take (i := 12) (oi := { dst := some 22, op := Op.move (Operand.tmp 2), type := 3, pos := "writer.go:23", after := #[], guard := none }) (v := ?_) rfl (by kernel_rfl) (by kernel_rfl) (by kernel_rfl) (fun _ _ _ h => h) (Or.inl ⟨by kernel_rfl, ?_⟩) (by assumption) ?_
  rotate_left 1
  focus (intro w hSw; (try dsimp only at hSw); go_simp; (try with_reducible rfl))
  try simp only [Act.put, List.setIfInBounds_toArray, List.set_cons_zero, List.set_cons_succ]
  refine wpAnyH_ready (rs := [10]) (by kernel_rfl) (by simp) (AllReadyH.cons (o := { dst := some 20, op := Op.call { callee := Callee.value (Operand.func 36), args := #[Operand.tmp 18, Operand.tmp 19], argTypes := #[64, 3] }, type := 3, pos := "writer.go:23", after := #[{ on := 8, ground := Ground.data }, { on := 9, ground := Ground.data }], guard := none }) rfl (fun K hK => ?_) AllReadyH.nil)
  (go_simp; (go_at_call 36; (refine (prob_c n ok hs0).mono ?_); rintro e V1r3 ⟨rfl, mV1r3, hVe⟩))
  have hs1r3 := hs0.drewN mV1r3
  rw [← hVe] at hs1r3; clear hVe
  refine hK.out _ _ ?_ (fun hHeld => ?_)
  · exact hs1r3.bx (q := q) (b := b) (t := 37) (by simp)
  clear hK K
  try simp only [Act.put, List.setIfInBounds_toArray, List.set_cons_zero, List.set_cons_succ]
  refine wpAnyH_ready (rs := [11]) (by kernel_rfl) (by simp) (AllReadyH.cons (o := { dst := some 21, op := Op.call { callee := Callee.value (Operand.func 35), args := #[Operand.tmp 15, Operand.tmp 20], argTypes := #[66, 3] }, type := 54, pos := "writer.go:23", after := #[{ on := 5, ground := Ground.data }, { on := 10, ground := Ground.data }, { on := 10, ground := Ground.chain }], guard := none }) rfl (fun K hK => ?_) AllReadyH.nil)
  (go_simp; (go_at_call 35; (refine (mid_c (ctx n) ok hs1r3).mono ?_); rintro e V2r3 ⟨rfl, mV2r3, hVe⟩))
  have hs2r3 := hs1r3.drewN mV2r3
  rw [← hVe] at hs2r3; clear hVe
  refine hK.out _ _ ?_ (fun hHeld => ?_)
  · exact hs2r3.bx (q := q) (b := b) (t := 37) (by simp)
  clear hK K
  try simp only [Act.put, List.setIfInBounds_toArray, List.set_cons_zero, List.set_cons_succ]
  refine wpAnyH_ready (rs := [13]) (by kernel_rfl) (by simp) (AllReadyH.cons (o := { dst := some 23, op := Op.call { callee := Callee.value (Operand.func 34), args := #[Operand.tmp 12, Operand.tmp 21, Operand.tmp 22], argTypes := #[66, 54, 3] }, type := 0, pos := "writer.go:23", after := #[{ on := 2, ground := Ground.data }, { on := 11, ground := Ground.data }, { on := 12, ground := Ground.data }, { on := 11, ground := Ground.chain }], guard := none }) rfl (fun K hK => ?_) AllReadyH.nil)
  (go_simp; (go_at_call 34; (refine (narrow_c (ctx n) (bitn m) (bitn_lt m) ok hs2r3).mono ?_); rintro e V3r3 ⟨rfl, hs3r3⟩))
  refine hK.out _ _ ?_ (fun hHeld => ?_)
  · exact hs3r3.bx (q := q) (b := b) (t := 37) (by simp)
  clear hK K
  try simp only [Act.put, List.setIfInBounds_toArray, List.set_cons_zero, List.set_cons_succ]
  refine wpAnyH_done (by kernel_rfl) ?_ _
  go_upto_region 5 with (first
    | (go_at_call 37; refine (learn_c n (bitn m) (bitn_lt m) ok hs3r3).mono ?_; rintro e w4 ⟨rfl, h4⟩; have hbx4 := h4.bx (q := q) (b := b) (t := 37) (by simp)))
  go_wp2_with (first
    | (go_at_call 38; refine (shiftW_any b q c (ctx n) (bitn m) v bs l _ ok hv h4 hlen).mono ?_; rintro e w5 ⟨rfl, v5, l5, hv5, h5⟩))
  exact bodyPost_end (results_none rfl _ _ _) rfl ⟨rfl, v5, l5, hv5, h5.unbox3⟩
end Go.Proofs.Ytbfnahclkajahaa.C
