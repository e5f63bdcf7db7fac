/-
  Solid of tile and of the reference (contracts).
-/
import Derived.Test.YtkomknhloimhcaaTZero
namespace Go.Proofs.Ytkomknhloimhcaa.T
open Go.RowKit Go.Shelf

/-- are all pixels equal to the first? -/
def sb (f : Nat → Px) : Bool := teq f (fun _ => f 0)
def sp (f : Nat → Px) : Px := if sb f then f 0 else zp
theorem peq_comm (p q : Px) : peq p q = peq q p := by rw [peq_eq, peq_eq]; by_cases h : p = q <;> simp [h, eq_comm]
theorem teq_comm (f g : Nat → Px) : teq f g = teq g f := by unfold teq; congr 1; funext i; exact peq_comm _ _
theorem sp_true {f : Nat → Px} (h : sb f = true) : sp f = f 0 := if_pos h
theorem sp_false {f : Nat → Px} (h : sb f = false) : sp f = zp := by unfold sp; rw [h]; rfl
set_option maxRecDepth 100000 in
set_option maxHeartbeats 4000000 in
theorem solid_any (f : Nat → Px) (w : World) : Calls Try.prog 13 #[tv f] w fun e w' => e = .returned (.tuple #[(sp f).v, .bool (sb f)]) ∧ Below w.heap.size w w' := by
  obtain ⟨V2, hV2⟩ : ∃ V2, V2 = (w.alloc (tob f)).alloc (pxo zp) := ⟨_, rfl⟩
  have hs := ((St.start w).alloc (tob f)).alloc (pxo zp)
  simp only [World.size_alloc] at hs
  rw [← hV2] at hs
  have hs := (hs.sub (L' := [(w.heap.size, tob f), (w.heap.size + 1, pxo zp)]) (by simp)).drew
  have HV := Lib.hid hV2
  have hix := index_px w.heap.size 0 (by omega)
  have hn := neq_tile (fun _ => f 0) f
  rw [teq_comm] at hn
  have hz : teq f (fun _ => f 0) = sb f := rfl
  rw [hz] at hn
  clear hz
  obtain ⟨z, hz⟩ : ∃ z, z = sb f := ⟨_, rfl⟩
  have HZ := Lib.hid hz
  rw [← hz] at hn
  have HN := Lib.hid hn
  clear hn
  clear hV2 hz
  go_enter Try.func13, Try.ntmps13
  go_upto_region 1 with fail
  have e1 : (w.alloc (tob f)).alloc (po 0 0 0 0) = V2 := HV.out.symm
  rw [e1]
  clear e1
  refine wp_region_held_drew (S := fun V3 => St w [(w.heap.size, tob f), (w.heap.size + 1, pxo zp)] V3) (by kernel_rfl) ?_ (fun hHeld => ?_)
  · (first | exact h4 | exact hs)
  refine wpAnyH_take (i := 0) (oi := { dst := some 4, op := Op.indexAddr 25 (Operand.tmp 1) (Operand.const (Value.int IntKind.i64 0)), type := 0, pos := "tile.go:16", after := #[], guard := none }) (v := ?_) rfl (by kernel_rfl) (by kernel_rfl) (by kernel_rfl) (fun _ _ _ h => h) (Or.inl ⟨by kernel_rfl, ?_⟩) (by assumption) ?_
  rotate_left 1
  focus (intro w hSw; (try dsimp only at hSw); go_simp; (try with_reducible rfl))
  try simp only [Act.put, List.setIfInBounds_toArray, List.set_cons_zero, List.set_cons_succ]
  refine wpAnyH_take (i := 1) (oi := { dst := some 5, op := Op.load 23 (Operand.tmp 4), type := 23, pos := "tile.go:16", after := #[{ on := 0, ground := Ground.data }], guard := none }) rfl (by kernel_rfl) (by kernel_rfl) (by kernel_rfl) (fun _ _ _ h => h) (yields_load (by kernel_rfl) 23 (.tmp 4) rfl (f 0).v (fun V hV => load_px w.heap.size f 0 (by omega) V (hV.row (b := w.heap.size) (o := tob f) (by simp)))) (by assumption) ?_
  try simp only [Act.put, List.setIfInBounds_toArray, List.set_cons_zero, List.set_cons_succ]
  refine wpAnyH_take (i := 3) (oi := { dst := some 7, op := Op.load 25 (Operand.tmp 1), type := 25, pos := "tile.go:16", after := #[], guard := none }) rfl (by kernel_rfl) (by kernel_rfl) (by kernel_rfl) (fun _ _ _ h => h) (yields_load (by kernel_rfl) 25 (.tmp 1) rfl (tv f) (fun V hV => load_tile w.heap.size f V (hV.row (b := w.heap.size) (o := tob f) (by simp)))) (by assumption) ?_
  try simp only [Act.put, List.setIfInBounds_toArray, List.set_cons_zero, List.set_cons_succ]
  refine wpAnyH_ready (rs := [2]) (by kernel_rfl) (by simp) (AllReadyH.cons (o := { dst := some 6, op := Op.call { callee := Callee.value (Operand.func 23), args := #[Operand.tmp 5], argTypes := #[23] }, type := 25, pos := "tile.go:16", after := #[{ on := 1, ground := Ground.data }], guard := none }) rfl (fun K hK => ?_) AllReadyH.nil)
  (go_simp; (go_at_call 23; (refine (St.call hs (fill_any (f 0) _)).mono ?_); rintro e V4 ⟨rfl, h4⟩))
  refine hK.out _ _ ?_ (fun hHeld => ?_)
  · (first | exact h4 | exact hs)
  clear hK K
  try simp only [Act.put, List.setIfInBounds_toArray, List.set_cons_zero, List.set_cons_succ]
  refine wpAnyH_take (i := 4) (oi := { dst := some 8, op := Op.binOp BinOp.neq 25 (Operand.tmp 6) (Operand.tmp 7) 25, type := 4, pos := "tile.go:16", after := #[{ on := 2, ground := Ground.data }, { on := 3, ground := Ground.data }], guard := none }) rfl (by kernel_rfl) (by kernel_rfl) (by kernel_rfl) (fun _ _ _ h => h) (yields_bin (by kernel_rfl) .neq 25 (.tmp 6) (.tmp 7) 25 rfl _ _ rfl rfl guard_tile (.bool (!z)) (fun V => HN.out V)) (by assumption) ?_
  try simp only [Act.put, List.setIfInBounds_toArray, List.set_cons_zero, List.set_cons_succ]
  refine wpAnyH_done (by kernel_rfl) ?_ _
  have H4 := Lib.hid h4
  clear hs h4
  cases z
  · have HR := Lib.hid (H4.out.row (b := w.heap.size + 1) (o := pxo zp) (by simp))
    have h6 := St.rowset (ds := (pl zp).toArray) (H4.out.sub (L' := [(w.heap.size + 1, pxo zp)]) (by simp)) (by omega) (by simp)
    obtain ⟨k0, k1, k2, k3⟩ := h6.pix (b := w.heap.size + 1) (x0 := 0) (x1 := 0) (x2 := 0) (x3 := 0) (by first | exact List.mem_cons_self .. | (simp; done))
    have HB := Lib.hid h6.below
    clear h6
    go_wp2_with (refine wpList_store_of rfl 23 _ _ rfl (store_px0 _ _ zp _ HR.out) ?_)
    exact bodyPost_ret (v := .tuple #[zp.v, .bool false]) (by simp [results, Try.results13, go_sem, *]) rfl ⟨by rw [sp_false HZ.out.symm, ← HZ.out], HB.out⟩
  · have HR := Lib.hid (H4.out.row (b := w.heap.size + 1) (o := pxo zp) (by simp))
    have HL := Lib.hid (load_px w.heap.size f 0 (by omega) _ (H4.out.row (b := w.heap.size) (o := tob f) (by simp)))
    have h6 := St.rowset (ds := (pl (f 0)).toArray) (H4.out.sub (L' := [(w.heap.size + 1, pxo zp)]) (by simp)) (by omega) (by simp)
    obtain ⟨k0, k1, k2, k3⟩ := h6.pix (b := w.heap.size + 1) (x0 := (f 0).r) (x1 := (f 0).g) (x2 := (f 0).b) (x3 := (f 0).a) (by first | exact List.mem_cons_self .. | (simp; done))
    have HB := Lib.hid h6.below
    clear h6
    go_wp2_with (first
      | (refine wpList_load_of rfl 23 _ rfl _ HL.out ?_)
      | (refine wpList_store_of rfl 23 _ _ rfl (store_px0 _ _ (f 0) _ HR.out) ?_))
    exact bodyPost_ret (v := .tuple #[(f 0).v, .bool true]) (by simp [results, Try.results13, go_sem, *]) rfl ⟨by rw [sp_true HZ.out.symm, ← HZ.out], HB.out⟩
set_option maxRecDepth 100000 in
set_option maxHeartbeats 4000000 in
theorem refSolid_any (f : Nat → Px) (w : World) : Calls Try.prog 14 #[tv f] w fun e w' => e = .returned (.tuple #[(sp f).v, .bool (sb f)]) ∧ Below w.heap.size w w' := by
  obtain ⟨V2, hV2⟩ : ∃ V2, V2 = (w.alloc (tob f)).alloc (pxo zp) := ⟨_, rfl⟩
  have hs := ((St.start w).alloc (tob f)).alloc (pxo zp)
  simp only [World.size_alloc] at hs
  rw [← hV2] at hs
  have hs := (hs.sub (L' := [(w.heap.size, tob f), (w.heap.size + 1, pxo zp)]) (by simp)).drew
  have HV := Lib.hid hV2
  have hix := index_px w.heap.size 0 (by omega)
  obtain ⟨z, hz⟩ : ∃ z, z = sb f := ⟨_, rfl⟩
  have HZ := Lib.hid hz
  clear hV2 hz
  go_enter Try.func14, Try.ntmps14
  go_upto_region 1 with fail
  have e1 : (w.alloc (tob f)).alloc (po 0 0 0 0) = V2 := HV.out.symm
  rw [e1]
  clear e1
  refine wp_region_held_drew (S := fun V3 => St w [(w.heap.size, tob f), (w.heap.size + 1, pxo zp)] V3) (by kernel_rfl) ?_ (fun hHeld => ?_)
  · (first | exact h5 | exact h4 | exact hs)
  refine wpAnyH_take (i := 0) (oi := { dst := some 4, op := Op.load 25 (Operand.tmp 1), type := 25, pos := "ref.go:35", after := #[], guard := none }) rfl (by kernel_rfl) (by kernel_rfl) (by kernel_rfl) (fun _ _ _ h => h) (yields_load (by kernel_rfl) 25 (.tmp 1) rfl (tv f) (fun V hV => load_tile w.heap.size f V (hV.row (b := w.heap.size) (o := tob f) (by simp)))) (by assumption) ?_
  try simp only [Act.put, List.setIfInBounds_toArray, List.set_cons_zero, List.set_cons_succ]
  refine wpAnyH_take (i := 1) (oi := { dst := some 5, op := Op.indexAddr 25 (Operand.tmp 1) (Operand.const (Value.int IntKind.i64 0)), type := 0, pos := "ref.go:35", after := #[], guard := none }) (v := ?_) rfl (by kernel_rfl) (by kernel_rfl) (by kernel_rfl) (fun _ _ _ h => h) (Or.inl ⟨by kernel_rfl, ?_⟩) (by assumption) ?_
  rotate_left 1
  focus (intro w hSw; (try dsimp only at hSw); go_simp; (try with_reducible rfl))
  try simp only [Act.put, List.setIfInBounds_toArray, List.set_cons_zero, List.set_cons_succ]
  refine wpAnyH_take (i := 2) (oi := { dst := some 6, op := Op.load 23 (Operand.tmp 5), type := 23, pos := "ref.go:35", after := #[{ on := 1, ground := Ground.data }], guard := none }) rfl (by kernel_rfl) (by kernel_rfl) (by kernel_rfl) (fun _ _ _ h => h) (yields_load (by kernel_rfl) 23 (.tmp 5) rfl (f 0).v (fun V hV => load_px w.heap.size f 0 (by omega) V (hV.row (b := w.heap.size) (o := tob f) (by simp)))) (by assumption) ?_
  try simp only [Act.put, List.setIfInBounds_toArray, List.set_cons_zero, List.set_cons_succ]
  refine wpAnyH_ready (rs := [3]) (by kernel_rfl) (by simp) (AllReadyH.cons (o := { dst := some 7, op := Op.call { callee := Callee.value (Operand.func 12), args := #[Operand.tmp 6], argTypes := #[23] }, type := 25, pos := "ref.go:35", after := #[{ on := 2, ground := Ground.data }], guard := none }) rfl (fun K hK => ?_) AllReadyH.nil)
  (go_simp; (go_at_call 12; (refine (St.call hs (refFill_any (f 0) _)).mono ?_); rintro e V4 ⟨rfl, h4⟩))
  refine hK.out _ _ ?_ (fun hHeld => ?_)
  · (first | exact h5 | exact h4 | exact hs)
  clear hK K
  try simp only [Act.put, List.setIfInBounds_toArray, List.set_cons_zero, List.set_cons_succ]
  refine wpAnyH_ready (rs := [4]) (by kernel_rfl) (by simp) (AllReadyH.cons (o := { dst := some 8, op := Op.call { callee := Callee.value (Operand.func 37), args := #[Operand.tmp 4, Operand.tmp 7], argTypes := #[25, 25] }, type := 4, pos := "ref.go:35", after := #[{ on := 0, ground := Ground.data }, { on := 3, ground := Ground.data }, { on := 3, ground := Ground.chain }], guard := none }) rfl (fun K hK => ?_) AllReadyH.nil)
  (go_simp; (go_at_call 37; (refine (St.call h4 (refSame_any f (fun _ => f 0) _)).mono ?_); rintro e V5 ⟨rfl, h5⟩))
  refine hK.out _ _ ?_ (fun hHeld => ?_)
  · (first | exact h5 | exact h4 | exact hs)
  clear hK K
  try simp only [Act.put, List.setIfInBounds_toArray, List.set_cons_zero, List.set_cons_succ]
  refine wpAnyH_done (by kernel_rfl) ?_ _
  have ez : teq f (fun _ => f 0) = z := HZ.out.symm
  try rw [ez]
  clear ez
  have H4 := Lib.hid h5
  clear hs h4 h5
  cases z
  · have HR := Lib.hid (H4.out.row (b := w.heap.size + 1) (o := pxo zp) (by simp))
    have h6 := St.rowset (ds := (pl zp).toArray) (H4.out.sub (L' := [(w.heap.size + 1, pxo zp)]) (by simp)) (by omega) (by simp)
    obtain ⟨k0, k1, k2, k3⟩ := h6.pix (b := w.heap.size + 1) (x0 := 0) (x1 := 0) (x2 := 0) (x3 := 0) (by first | exact List.mem_cons_self .. | (simp; done))
    have HB := Lib.hid h6.below
    clear h6
    go_wp2_with (refine wpList_store_of rfl 23 _ _ rfl (store_px0 _ _ zp _ HR.out) ?_)
    exact bodyPost_ret (v := .tuple #[zp.v, .bool false]) (by simp [results, Try.results14, go_sem, *]) rfl ⟨by rw [sp_false HZ.out.symm, ← HZ.out], HB.out⟩
  · have HR := Lib.hid (H4.out.row (b := w.heap.size + 1) (o := pxo zp) (by simp))
    have HL := Lib.hid (load_px w.heap.size f 0 (by omega) _ (H4.out.row (b := w.heap.size) (o := tob f) (by simp)))
    have h6 := St.rowset (ds := (pl (f 0)).toArray) (H4.out.sub (L' := [(w.heap.size + 1, pxo zp)]) (by simp)) (by omega) (by simp)
    obtain ⟨k0, k1, k2, k3⟩ := h6.pix (b := w.heap.size + 1) (x0 := (f 0).r) (x1 := (f 0).g) (x2 := (f 0).b) (x3 := (f 0).a) (by first | exact List.mem_cons_self .. | (simp; done))
    have HB := Lib.hid h6.below
    clear h6
    go_wp2_with (first
      | (refine wpList_load_of rfl 23 _ rfl _ HL.out ?_)
      | (refine wpList_store_of rfl 23 _ _ rfl (store_px0 _ _ (f 0) _ HR.out) ?_))
    exact bodyPost_ret (v := .tuple #[(f 0).v, .bool true]) (by simp [results, Try.results14, go_sem, *]) rfl ⟨by rw [sp_true HZ.out.symm, ← HZ.out], HB.out⟩
end Go.Proofs.Ytkomknhloimhcaa.T
