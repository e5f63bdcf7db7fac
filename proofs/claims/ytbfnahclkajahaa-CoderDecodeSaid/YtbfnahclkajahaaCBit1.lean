/-
  The writer's closure: a byte removed is appended to the output.
-/
import Derived.Test.YtbfnahclkajahaaCOps
import Derived.OrdersHeld
namespace Go.Proofs.Ytbfnahclkajahaa.C
open Go.RowKit
set_option maxRecDepth 100000
variable {W w w' : World} {L : List (Nat × Obj)}

set_option maxHeartbeats 2000000 in
theorem bit1W_any (t0 : UInt8) (b q : Nat) (d : Nat → Int) (x y v : Value) (bs : List UInt8) (l : List (Nat × Obj)) (w : World) (hv : SL v bs l) (hs : HS W ((b, mob 68 d [x, y, v]) :: (l ++ (q, bxo 37 b) :: L)) w) (hlen : bs.length ≤ 900000) :
    Calls Try.prog 39 #[.int .u8 (t0.toNat : Int), .pointer (some ⟨q, 0, none⟩)] w fun e w' => e = .returned (.tuple #[]) ∧ ∃ v' l', SL v' (bs ++ [t0]) l' ∧ HS W ((b, mob 68 d [x, y, v']) :: (l' ++ (q, bxo 37 b) :: L)) w' := by
  go_enter Try.func39, Try.ntmps39
  go_upto_region 0 with fail
  refine wp_region_held_drew (S := fun V9 => V9.cell? ⟨q, 0, none⟩ = some (.pointer (some ⟨b, 0, none⟩))) (by kernel_rfl) ?_ (fun hHeld => ?_)
  · exact hs.drew.bx (q := q) (b := b) (t := 37) (by simp)
  have hs0 := hs.drew
  refine wpAnyH_take (i := 0) (oi := { dst := some 3, op := Op.load 37 (Operand.tmp 1), type := 37, pos := "writer.go:25", after := #[], guard := none }) (v := ?_) rfl (by kernel_rfl) (by kernel_rfl) (by kernel_rfl) (fun _ _ _ h => h) (Or.inl ⟨by kernel_rfl, ?_⟩) (by assumption) ?_
  rotate_left 1
  focus (intro w hSw; (try dsimp only at hSw); go_simp; (try with_reducible rfl))
  try simp only [Act.put, List.setIfInBounds_toArray, List.set_cons_zero, List.set_cons_succ]
  refine wpAnyH_take (i := 1) (oi := { dst := some 4, op := Op.load 37 (Operand.tmp 1), type := 37, pos := "writer.go:25", after := #[], guard := none }) (v := ?_) rfl (by kernel_rfl) (by kernel_rfl) (by kernel_rfl) (fun _ _ _ h => h) (Or.inl ⟨by kernel_rfl, ?_⟩) (by assumption) ?_
  rotate_left 1
  focus (intro w hSw; (try dsimp only at hSw); go_simp; (try with_reducible rfl))
  try simp only [Act.put, List.setIfInBounds_toArray, List.set_cons_zero, List.set_cons_succ]
  refine wpAnyH_take (i := 2) (oi := { dst := some 5, op := Op.nilCheck (Operand.tmp 4), type := 0, pos := "writer.go:25", after := #[{ on := 1, ground := Ground.data }], guard := none }) (v := ?_) rfl (by kernel_rfl) (by kernel_rfl) (by kernel_rfl) (fun _ _ _ h => h) (Or.inl ⟨by kernel_rfl, ?_⟩) (by assumption) ?_
  rotate_left 1
  focus (intro w hSw; (try dsimp only at hSw); go_simp; (try with_reducible rfl))
  try simp only [Act.put, List.setIfInBounds_toArray, List.set_cons_zero, List.set_cons_succ]
  refine wpAnyH_take (i := 3) (oi := { dst := some 6, op := Op.fieldAddr 68 (Operand.tmp 5) 2, type := 0, pos := "writer.go:25", after := #[{ on := 2, ground := Ground.data }], guard := none }) (v := ?_) rfl (by kernel_rfl) (by kernel_rfl) (by kernel_rfl) (fun _ _ _ h => h) (Or.inl ⟨by kernel_rfl, ?_⟩) (by assumption) ?_
  rotate_left 1
  focus (intro w hSw; (try dsimp only at hSw); go_simp; (try with_reducible rfl))
  try simp only [Act.put, List.setIfInBounds_toArray, List.set_cons_zero, List.set_cons_succ]
  refine wpAnyH_take (i := 5) (oi := { dst := some 8, op := Op.move (Operand.tmp 0), type := 5, pos := "writer.go:25", after := #[], guard := none }) (v := ?_) rfl (by kernel_rfl) (by kernel_rfl) (by kernel_rfl) (fun _ _ _ h => h) (Or.inl ⟨by kernel_rfl, ?_⟩) (by assumption) ?_
  rotate_left 1
  focus (intro w hSw; (try dsimp only at hSw); go_simp; (try with_reducible rfl))
  try simp only [Act.put, List.setIfInBounds_toArray, List.set_cons_zero, List.set_cons_succ]
  refine wpAnyH_ready (rs := [4, 6]) (by kernel_rfl) (by simp) (AllReadyH.cons (o := { dst := some 7, op := Op.load 33 (Operand.tmp 6), type := 33, pos := "writer.go:25", after := #[{ on := 3, ground := Ground.data }], guard := none }) rfl (fun K hK => ?_) (AllReadyH.cons (o := { dst := some 9, op := Op.buildSlice 33 1 #[(0, Operand.tmp 8)], type := 33, pos := "writer.go:25", after := #[{ on := 5, ground := Ground.data }], guard := none }) rfl (fun K hK => ?_) AllReadyH.nil))
  · refine wp_load_of 33 (.tmp 6) rfl v (load_sl (hs0.cellr (b := b) (t := 68) (d := d) (r := [x, y, v]) (by simp) 2)) ?_
    refine hK.out _ _ ?_ (fun hHeld => ?_)
    · exact hs0.bx (q := q) (b := b) (t := 37) (by simp)
    clear hK K
    try simp only [Act.put, List.setIfInBounds_toArray, List.set_cons_zero, List.set_cons_succ]
    refine wpAnyH_ready (rs := [6]) (by kernel_rfl) (by simp) (AllReadyH.cons (o := { dst := some 9, op := Op.buildSlice 33 1 #[(0, Operand.tmp 8)], type := 33, pos := "writer.go:25", after := #[{ on := 5, ground := Ground.data }], guard := none }) rfl (fun K hK => ?_) AllReadyH.nil)
    have hs2r0 := hs0.alloc (.cells #[.int .u8 (t0.toNat : Int)] 5)
    refine wp_sl1 (.tmp 8) rfl rfl ?_
    refine hK.out _ _ ?_ (fun hHeld => ?_)
    · exact hs2r0.bx (q := q) (b := b) (t := 37) (by simp)
    clear hK K
    try simp only [Act.put, List.setIfInBounds_toArray, List.set_cons_zero, List.set_cons_succ]
    refine wpAnyH_ready (rs := [7]) (by kernel_rfl) (by simp) (AllReadyH.cons (o := { dst := some 10, op := Op.call { callee := Callee.builtin Builtin.append, args := #[Operand.tmp 7, Operand.tmp 9], argTypes := #[33, 33] }, type := 33, pos := "writer.go:25", after := #[{ on := 4, ground := Ground.data }, { on := 6, ground := Ground.data }], guard := none }) rfl (fun K hK => ?_) AllReadyH.nil)
    refine wp_app (.tmp 7) (.tmp 9) rfl v _ bs [t0] l rfl rfl hv hs2r0.in2 (Src.one _ t0 hs2r0.hd) (by simp only [List.length_cons, List.length_nil]; omega) ?_
    intro v2 V3r0 l2 hv2 hs3r00
    have hs3r0 := hs3r00.out2
    refine hK.out _ _ ?_ (fun hHeld => ?_)
    · exact hs3r0.bx (q := q) (b := b) (t := 37) (by simp)
    clear hK K
    try simp only [Act.put, List.setIfInBounds_toArray, List.set_cons_zero, List.set_cons_succ]
    refine wpAnyH_take (i := 8) (oi := { dst := some 11, op := Op.nilCheck (Operand.tmp 3), type := 0, pos := "writer.go:25", after := #[{ on := 0, ground := Ground.data }, { on := 0, ground := Ground.phase }, { on := 1, ground := Ground.phase }, { on := 2, ground := Ground.phase }, { on := 3, ground := Ground.phase }, { on := 4, ground := Ground.phase }, { on := 5, ground := Ground.phase }, { on := 6, ground := Ground.phase }, { on := 7, ground := Ground.phase }], guard := none }) (v := ?_) rfl (by kernel_rfl) (by kernel_rfl) (by kernel_rfl) (fun _ _ _ h => h) (Or.inl ⟨by kernel_rfl, ?_⟩) (by assumption) ?_
    rotate_left 1
    focus (intro w hSw; (try dsimp only at hSw); go_simp; (try with_reducible rfl))
    try simp only [Act.put, List.setIfInBounds_toArray, List.set_cons_zero, List.set_cons_succ]
    refine wpAnyH_take (i := 9) (oi := { dst := some 12, op := Op.fieldAddr 68 (Operand.tmp 11) 2, type := 0, pos := "writer.go:25", after := #[{ on := 8, ground := Ground.data }, { on := 0, ground := Ground.phase }, { on := 1, ground := Ground.phase }, { on := 2, ground := Ground.phase }, { on := 3, ground := Ground.phase }, { on := 4, ground := Ground.phase }, { on := 5, ground := Ground.phase }, { on := 6, ground := Ground.phase }, { on := 7, ground := Ground.phase }], guard := none }) (v := ?_) rfl (by kernel_rfl) (by kernel_rfl) (by kernel_rfl) (fun _ _ _ h => h) (Or.inl ⟨by kernel_rfl, ?_⟩) (by assumption) ?_
    rotate_left 1
    focus (intro w hSw; (try dsimp only at hSw); go_simp; (try with_reducible rfl))
    try simp only [Act.put, List.setIfInBounds_toArray, List.set_cons_zero, List.set_cons_succ]
    refine wpAnyH_ready (rs := [10]) (by kernel_rfl) (by simp) (AllReadyH.cons (o := { dst := none, op := Op.store 33 (Operand.tmp 12) (Operand.tmp 10), type := 0, pos := "writer.go:25", after := #[{ on := 9, ground := Ground.data }, { on := 7, ground := Ground.data }, { on := 7, ground := Ground.chain }, { on := 0, ground := Ground.phase }, { on := 1, ground := Ground.phase }, { on := 2, ground := Ground.phase }, { on := 3, ground := Ground.phase }, { on := 4, ground := Ground.phase }, { on := 5, ground := Ground.phase }, { on := 6, ground := Ground.phase }, { on := 7, ground := Ground.phase }], guard := none }) rfl (fun K hK => ?_) AllReadyH.nil)
    have hs4r0 := hs3r0.putr 2 v2
    refine wp_store_of 33 (.tmp 12) (.tmp 10) rfl (store_sl (hs3r0.hd_r 2) (hs3r0.hfro 258) hv2.one) ?_
    refine hK.out _ _ ?_ (fun hHeld => ?_)
    · exact hs4r0.bx (q := q) (b := b) (t := 37) (by simp)
    clear hK K
    try simp only [Act.put]
    refine wpAnyH_done (by kernel_rfl) ?_ _
    go_wp2_with fail
    exact bodyPost_end (results_none rfl _ _ _) rfl ⟨rfl, v2, l2, hv2, hs4r0⟩
  · have hs5r0 := hs0.alloc (.cells #[.int .u8 (t0.toNat : Int)] 5)
    refine wp_sl1 (.tmp 8) rfl rfl ?_
    refine hK.out _ _ ?_ (fun hHeld => ?_)
    · exact hs5r0.bx (q := q) (b := b) (t := 37) (by simp)
    clear hK K
    try simp only [Act.put, List.setIfInBounds_toArray, List.set_cons_zero, List.set_cons_succ]
    refine wpAnyH_ready (rs := [4]) (by kernel_rfl) (by simp) (AllReadyH.cons (o := { dst := some 7, op := Op.load 33 (Operand.tmp 6), type := 33, pos := "writer.go:25", after := #[{ on := 3, ground := Ground.data }], guard := none }) rfl (fun K hK => ?_) AllReadyH.nil)
    refine wp_load_of 33 (.tmp 6) rfl v (load_sl (hs5r0.cellr (b := b) (t := 68) (d := d) (r := [x, y, v]) (by simp) 2)) ?_
    refine hK.out _ _ ?_ (fun hHeld => ?_)
    · exact hs5r0.bx (q := q) (b := b) (t := 37) (by simp)
    clear hK K
    try simp only [Act.put, List.setIfInBounds_toArray, List.set_cons_zero, List.set_cons_succ]
    refine wpAnyH_ready (rs := [7]) (by kernel_rfl) (by simp) (AllReadyH.cons (o := { dst := some 10, op := Op.call { callee := Callee.builtin Builtin.append, args := #[Operand.tmp 7, Operand.tmp 9], argTypes := #[33, 33] }, type := 33, pos := "writer.go:25", after := #[{ on := 4, ground := Ground.data }, { on := 6, ground := Ground.data }], guard := none }) rfl (fun K hK => ?_) AllReadyH.nil)
    refine wp_app (.tmp 7) (.tmp 9) rfl v _ bs [t0] l rfl rfl hv hs5r0.in2 (Src.one _ t0 hs5r0.hd) (by simp only [List.length_cons, List.length_nil]; omega) ?_
    intro v2 V7r0 l2 hv2 hs7r00
    have hs7r0 := hs7r00.out2
    refine hK.out _ _ ?_ (fun hHeld => ?_)
    · exact hs7r0.bx (q := q) (b := b) (t := 37) (by simp)
    clear hK K
    try simp only [Act.put, List.setIfInBounds_toArray, List.set_cons_zero, List.set_cons_succ]
    refine wpAnyH_take (i := 8) (oi := { dst := some 11, op := Op.nilCheck (Operand.tmp 3), type := 0, pos := "writer.go:25", after := #[{ on := 0, ground := Ground.data }, { on := 0, ground := Ground.phase }, { on := 1, ground := Ground.phase }, { on := 2, ground := Ground.phase }, { on := 3, ground := Ground.phase }, { on := 4, ground := Ground.phase }, { on := 5, ground := Ground.phase }, { on := 6, ground := Ground.phase }, { on := 7, ground := Ground.phase }], guard := none }) (v := ?_) rfl (by kernel_rfl) (by kernel_rfl) (by kernel_rfl) (fun _ _ _ h => h) (Or.inl ⟨by kernel_rfl, ?_⟩) (by assumption) ?_
    rotate_left 1
    focus (intro w hSw; (try dsimp only at hSw); go_simp; (try with_reducible rfl))
    try simp only [Act.put, List.setIfInBounds_toArray, List.set_cons_zero, List.set_cons_succ]
    refine wpAnyH_take (i := 9) (oi := { dst := some 12, op := Op.fieldAddr 68 (Operand.tmp 11) 2, type := 0, pos := "writer.go:25", after := #[{ on := 8, ground := Ground.data }, { on := 0, ground := Ground.phase }, { on := 1, ground := Ground.phase }, { on := 2, ground := Ground.phase }, { on := 3, ground := Ground.phase }, { on := 4, ground := Ground.phase }, { on := 5, ground := Ground.phase }, { on := 6, ground := Ground.phase }, { on := 7, ground := Ground.phase }], guard := none }) (v := ?_) rfl (by kernel_rfl) (by kernel_rfl) (by kernel_rfl) (fun _ _ _ h => h) (Or.inl ⟨by kernel_rfl, ?_⟩) (by assumption) ?_
    rotate_left 1
    focus (intro w hSw; (try dsimp only at hSw); go_simp; (try with_reducible rfl))
    try simp only [Act.put, List.setIfInBounds_toArray, List.set_cons_zero, List.set_cons_succ]
    refine wpAnyH_ready (rs := [10]) (by kernel_rfl) (by simp) (AllReadyH.cons (o := { dst := none, op := Op.store 33 (Operand.tmp 12) (Operand.tmp 10), type := 0, pos := "writer.go:25", after := #[{ on := 9, ground := Ground.data }, { on := 7, ground := Ground.data }, { on := 7, ground := Ground.chain }, { on := 0, ground := Ground.phase }, { on := 1, ground := Ground.phase }, { on := 2, ground := Ground.phase }, { on := 3, ground := Ground.phase }, { on := 4, ground := Ground.phase }, { on := 5, ground := Ground.phase }, { on := 6, ground := Ground.phase }, { on := 7, ground := Ground.phase }], guard := none }) rfl (fun K hK => ?_) AllReadyH.nil)
    have hs8r0 := hs7r0.putr 2 v2
    refine wp_store_of 33 (.tmp 12) (.tmp 10) rfl (store_sl (hs7r0.hd_r 2) (hs7r0.hfro 258) hv2.one) ?_
    refine hK.out _ _ ?_ (fun hHeld => ?_)
    · exact hs8r0.bx (q := q) (b := b) (t := 37) (by simp)
    clear hK K
    try simp only [Act.put]
    refine wpAnyH_done (by kernel_rfl) ?_ _
    go_wp2_with fail
    exact bodyPost_end (results_none rfl _ _ _) rfl ⟨rfl, v2, l2, hv2, hs8r0⟩
end Go.Proofs.Ytbfnahclkajahaa.C
