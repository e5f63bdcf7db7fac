/-
  For every tile the law of symmetries holds: Flip and Turn return what the reference returns.
-/
import Derived.Test.YtkomknhloimhcaaTLaw
import Derived.Test.YtkomknhloimhcaaTRefFlip
import Derived.Test.YtkomknhloimhcaaTRefTurn
namespace Go.Proofs.Ytkomknhloimhcaa.T.TLSymmetries
open Go.ChangeShapes Go.WideShapes Go.ChangeAt Go.RowKit Go.Shelf


set_option maxHeartbeats 8000000 in
set_option maxRecDepth 100000 in
theorem walk (f : Nat → Px) (w : World) (_hf : ∀ i, i < 64 → Pc (f i)) : Calls Try.prog 5 #[tv f] w fun e w' => e = .returned (.bool true) ∧ Below w.heap.size w w' := by
  have hs := (St.start w).alloc (tob f)
  have HE1 := Lib.hid (eqlTT (f := fun i => f (flipI i)) (g := fun i => f (flipI i)) (fun _ _ => rfl))
  have HE2 := Lib.hid (eqlTT (f := fun i => f (turnI i)) (g := fun i => f (turnI i)) (fun _ _ => rfl))
  go_enter Try.func5, Try.ntmps5
  go_upto_region 2 with (go_at_call 11; (refine (St.call hs (sane_any _)).mono ?_); rintro e V1 ⟨rfl, h1⟩)
  clear hs
  refine wp_region_held_drew (S := fun V9 => St w [(w.heap.size, tob f)] V9) (by kernel_rfl) ?_ (fun hHeld => ?_)
  · exact h1.drew
  have h10 := h1.drew
  refine wpAnyH_take (i := 0) (oi := { dst := some 5, op := Op.move (Operand.tmp 3), type := 4, pos := "law.go:57", after := #[], guard := none }) (v := ?_) rfl (by kernel_rfl) (by kernel_rfl) (by kernel_rfl) (fun _ _ _ h => h) (Or.inl ⟨by kernel_rfl, ?_⟩) (by assumption) ?_
  rotate_left 1
  focus (intro w hSw; (try dsimp only at hSw); go_simp; (try with_reducible rfl))
  try simp only [Act.put, List.setIfInBounds_toArray, List.set_cons_zero, List.set_cons_succ]
  refine wpAnyH_take (i := 1) (oi := { dst := some 6, op := Op.move (Operand.tmp 5), type := 4, pos := "law.go:57", after := #[{ on := 0, ground := Ground.data }], guard := none }) (v := ?_) rfl (by kernel_rfl) (by kernel_rfl) (by kernel_rfl) (fun _ _ _ h => h) (Or.inl ⟨by kernel_rfl, ?_⟩) (by assumption) ?_
  rotate_left 1
  focus (intro w hSw; (try dsimp only at hSw); go_simp; (try with_reducible rfl))
  try simp only [Act.put, List.setIfInBounds_toArray, List.set_cons_zero, List.set_cons_succ]
  refine wpAnyH_take (i := 2) (oi := { dst := some 7, op := Op.load 25 (Operand.tmp 1), type := 25, pos := "law.go:57", after := #[{ on := 1, ground := Ground.guard }], guard := some (1, true) }) rfl (by kernel_rfl) (by kernel_rfl) (by kernel_rfl) (fun _ _ _ h => h) (yields_load (by kernel_rfl) 25 (.tmp 1) rfl (tv (f)) (fun V hV => ld (b := w.heap.size) (f := f) hV (by simp))) (by assumption) ?_
  try simp only [Act.put, List.setIfInBounds_toArray, List.set_cons_zero, List.set_cons_succ]
  refine wpAnyH_take (i := 4) (oi := { dst := some 9, op := Op.load 25 (Operand.tmp 1), type := 25, pos := "law.go:57", after := #[{ on := 1, ground := Ground.guard }], guard := some (1, true) }) rfl (by kernel_rfl) (by kernel_rfl) (by kernel_rfl) (fun _ _ _ h => h) (yields_load (by kernel_rfl) 25 (.tmp 1) rfl (tv (f)) (fun V hV => ld (b := w.heap.size) (f := f) hV (by simp))) (by assumption) ?_
  try simp only [Act.put, List.setIfInBounds_toArray, List.set_cons_zero, List.set_cons_succ]
  refine wpAnyH_ready (rs := [3]) (by kernel_rfl) (by simp) (AllReadyH.cons (o := { dst := some 8, op := Op.call { callee := Callee.value (Operand.func 28), args := #[Operand.tmp 7], argTypes := #[25] }, type := 25, pos := "law.go:57", after := #[{ on := 2, ground := Ground.data }, { on := 1, ground := Ground.chain }, { on := 1, ground := Ground.guard }], guard := some (1, true) }) rfl (fun K hK => ?_) AllReadyH.nil)
  (go_simp; (go_at_call 28; (refine (St.call h10 (flip_any f _)).mono ?_); rintro e V1r2 ⟨rfl, h11r2⟩))
  refine hK.out _ _ ?_ (fun hHeld => ?_)
  · (first | exact h11r2 | exact h11r2.tl)
  clear hK K
  try simp only [Act.put, List.setIfInBounds_toArray, List.set_cons_zero, List.set_cons_succ]
  refine wpAnyH_ready (rs := [5]) (by kernel_rfl) (by simp) (AllReadyH.cons (o := { dst := some 10, op := Op.call { callee := Callee.value (Operand.func 29), args := #[Operand.tmp 9], argTypes := #[25] }, type := 25, pos := "law.go:57", after := #[{ on := 4, ground := Ground.data }, { on := 3, ground := Ground.chain }, { on := 1, ground := Ground.guard }], guard := some (1, true) }) rfl (fun K hK => ?_) AllReadyH.nil)
  (go_simp; (go_at_call 29; (refine (St.call h11r2 (refFlip_any f _)).mono ?_); rintro e V2r2 ⟨rfl, h12r2⟩))
  refine hK.out _ _ ?_ (fun hHeld => ?_)
  · (first | exact h12r2 | exact h12r2.tl)
  clear hK K
  try simp only [Act.put, List.setIfInBounds_toArray, List.set_cons_zero, List.set_cons_succ]
  refine wpAnyH_take (i := 6) (oi := { dst := some 11, op := Op.binOp BinOp.eql 25 (Operand.tmp 8) (Operand.tmp 10) 25, type := 4, pos := "law.go:57", after := #[{ on := 3, ground := Ground.data }, { on := 5, ground := Ground.data }, { on := 1, ground := Ground.guard }], guard := some (1, true) }) rfl (by kernel_rfl) (by kernel_rfl) (by kernel_rfl) (fun _ _ _ h => h) (yields_bin (by kernel_rfl) .eql 25 (.tmp 8) (.tmp 10) 25 rfl _ _ rfl rfl guard_tile (.bool true) (fun V => HE1.out V)) (by assumption) ?_
  try simp only [Act.put, List.setIfInBounds_toArray, List.set_cons_zero, List.set_cons_succ]
  refine wpAnyH_take (i := 7) (oi := { dst := some 12, op := Op.pick (Operand.tmp 6) (Operand.tmp 11) (Operand.const (Value.bool false)), type := 4, pos := "law.go:57", after := #[{ on := 1, ground := Ground.data }, { on := 6, ground := Ground.data }], guard := none }) (v := ?_) rfl (by kernel_rfl) (by kernel_rfl) (by kernel_rfl) (fun _ _ _ h => h) (Or.inl ⟨by kernel_rfl, ?_⟩) (by assumption) ?_
  rotate_left 1
  focus (intro w hSw; (try dsimp only at hSw); go_simp; (try with_reducible rfl))
  try simp only [Act.put, List.setIfInBounds_toArray, List.set_cons_zero, List.set_cons_succ]
  refine wpAnyH_take (i := 8) (oi := { dst := some 13, op := Op.move (Operand.tmp 12), type := 4, pos := "law.go:57", after := #[{ on := 7, ground := Ground.data }, { on := 5, ground := Ground.chain }], guard := none }) (v := ?_) rfl (by kernel_rfl) (by kernel_rfl) (by kernel_rfl) (fun _ _ _ h => h) (Or.inl ⟨by kernel_rfl, ?_⟩) (by assumption) ?_
  rotate_left 1
  focus (intro w hSw; (try dsimp only at hSw); go_simp; (try with_reducible rfl))
  try simp only [Act.put, List.setIfInBounds_toArray, List.set_cons_zero, List.set_cons_succ]
  refine wpAnyH_take (i := 9) (oi := { dst := some 14, op := Op.load 25 (Operand.tmp 1), type := 25, pos := "law.go:57", after := #[{ on := 8, ground := Ground.guard }], guard := some (8, true) }) rfl (by kernel_rfl) (by kernel_rfl) (by kernel_rfl) (fun _ _ _ h => h) (yields_load (by kernel_rfl) 25 (.tmp 1) rfl (tv (f)) (fun V hV => ld (b := w.heap.size) (f := f) hV (by simp))) (by assumption) ?_
  try simp only [Act.put, List.setIfInBounds_toArray, List.set_cons_zero, List.set_cons_succ]
  refine wpAnyH_take (i := 11) (oi := { dst := some 16, op := Op.load 25 (Operand.tmp 1), type := 25, pos := "law.go:57", after := #[{ on := 8, ground := Ground.guard }], guard := some (8, true) }) rfl (by kernel_rfl) (by kernel_rfl) (by kernel_rfl) (fun _ _ _ h => h) (yields_load (by kernel_rfl) 25 (.tmp 1) rfl (tv (f)) (fun V hV => ld (b := w.heap.size) (f := f) hV (by simp))) (by assumption) ?_
  try simp only [Act.put, List.setIfInBounds_toArray, List.set_cons_zero, List.set_cons_succ]
  refine wpAnyH_ready (rs := [10]) (by kernel_rfl) (by simp) (AllReadyH.cons (o := { dst := some 15, op := Op.call { callee := Callee.value (Operand.func 30), args := #[Operand.tmp 14], argTypes := #[25] }, type := 25, pos := "law.go:57", after := #[{ on := 9, ground := Ground.data }, { on := 8, ground := Ground.chain }, { on := 8, ground := Ground.guard }], guard := some (8, true) }) rfl (fun K hK => ?_) AllReadyH.nil)
  (go_simp; (go_at_call 30; (refine (St.call h12r2 (turn_any f _)).mono ?_); rintro e V3r2 ⟨rfl, h13r2⟩))
  refine hK.out _ _ ?_ (fun hHeld => ?_)
  · (first | exact h13r2 | exact h13r2.tl)
  clear hK K
  try simp only [Act.put, List.setIfInBounds_toArray, List.set_cons_zero, List.set_cons_succ]
  refine wpAnyH_ready (rs := [12]) (by kernel_rfl) (by simp) (AllReadyH.cons (o := { dst := some 17, op := Op.call { callee := Callee.value (Operand.func 31), args := #[Operand.tmp 16], argTypes := #[25] }, type := 25, pos := "law.go:57", after := #[{ on := 11, ground := Ground.data }, { on := 10, ground := Ground.chain }, { on := 8, ground := Ground.guard }], guard := some (8, true) }) rfl (fun K hK => ?_) AllReadyH.nil)
  (go_simp; (go_at_call 31; (refine (St.call h13r2 (refTurn_any f _)).mono ?_); rintro e V4r2 ⟨rfl, h14r2⟩))
  refine hK.out _ _ ?_ (fun hHeld => ?_)
  · (first | exact h14r2 | exact h14r2.tl)
  clear hK K
  try simp only [Act.put, List.setIfInBounds_toArray, List.set_cons_zero, List.set_cons_succ]
  refine wpAnyH_take (i := 13) (oi := { dst := some 18, op := Op.binOp BinOp.eql 25 (Operand.tmp 15) (Operand.tmp 17) 25, type := 4, pos := "law.go:57", after := #[{ on := 10, ground := Ground.data }, { on := 12, ground := Ground.data }, { on := 8, ground := Ground.guard }], guard := some (8, true) }) rfl (by kernel_rfl) (by kernel_rfl) (by kernel_rfl) (fun _ _ _ h => h) (yields_bin (by kernel_rfl) .eql 25 (.tmp 15) (.tmp 17) 25 rfl _ _ rfl rfl guard_tile (.bool true) (fun V => HE2.out V)) (by assumption) ?_
  try simp only [Act.put, List.setIfInBounds_toArray, List.set_cons_zero, List.set_cons_succ]
  refine wpAnyH_take (i := 14) (oi := { dst := some 19, op := Op.pick (Operand.tmp 13) (Operand.tmp 18) (Operand.const (Value.bool false)), type := 4, pos := "law.go:57", after := #[{ on := 8, ground := Ground.data }, { on := 13, ground := Ground.data }], guard := none }) (v := ?_) rfl (by kernel_rfl) (by kernel_rfl) (by kernel_rfl) (fun _ _ _ h => h) (Or.inl ⟨by kernel_rfl, ?_⟩) (by assumption) ?_
  rotate_left 1
  focus (intro w hSw; (try dsimp only at hSw); go_simp; (try with_reducible rfl))
  try simp only [Act.put, List.setIfInBounds_toArray, List.set_cons_zero, List.set_cons_succ]
  refine wpAnyH_take (i := 15) (oi := { dst := some 2, op := Op.assign (Operand.tmp 19), type := 4, pos := "law.go:57", after := #[{ on := 14, ground := Ground.data }, { on := 12, ground := Ground.chain }, { on := 0, ground := Ground.phase }, { on := 1, ground := Ground.phase }, { on := 2, ground := Ground.phase }, { on := 3, ground := Ground.phase }, { on := 4, ground := Ground.phase }, { on := 5, ground := Ground.phase }, { on := 6, ground := Ground.phase }, { on := 7, ground := Ground.phase }, { on := 8, ground := Ground.phase }, { on := 9, ground := Ground.phase }, { on := 10, ground := Ground.phase }, { on := 11, ground := Ground.phase }, { on := 12, ground := Ground.phase }, { on := 13, ground := Ground.phase }, { on := 14, ground := Ground.phase }], guard := none }) (v := ?_) rfl (by kernel_rfl) (by kernel_rfl) (by kernel_rfl) (fun _ _ _ h => h) (Or.inl ⟨by kernel_rfl, ?_⟩) (by assumption) ?_
  rotate_left 1
  focus (intro w hSw; (try dsimp only at hSw); go_simp; (try with_reducible rfl))
  try simp only [Act.put, List.setIfInBounds_toArray, List.set_cons_zero, List.set_cons_succ]
  refine wpAnyH_done (by kernel_rfl) ?_ _
  have HB := Lib.hid h14r2.below
  go_wp2_with fail
  go_ret
  exact ⟨rfl, HB.out⟩

theorem okin (W : World) (base : Nat) : Input.okWide Try.checked.prog W .any base 5 ⟨#[], #[tv z0], []⟩ := by
  refine ⟨by simp, by simp, by kernel_rfl, Try.f5, Try.func5, by kernel_rfl, by kernel_rfl, by kernel_rfl, by rw [Try.params5]; rfl, ?_⟩
  intro j t v ht hv
  rw [Try.params5] at ht
  match j with
  | 0 => cases (Option.some.inj ht); cases (Option.some.inj hv); exact ok_tile W base
  | j + 1 => simp at ht
set_option maxRecDepth 100000 in
theorem lifted (os : Os) (started : os.Started) (H : Type) (enc : TypeId × Value → H) :
    ReturnsInHanded {} Try.checked os 5 .any (Rows.tileSymmetriesSpec.pre6 enc Try.prog Try.f5 Rows.tileSymmetriesRow.domain false) (Rows.tileSymmetriesSpec.post enc Try.prog Try.f5 false true false false) := by
  refine returnsInHanded_of_change_sized (C := Try.checked) own started (by kernel_rfl) Try.func5
    (witness7 (enc := enc) (C := Try.checked) false ⟨#[], #[tv z0], []⟩ 8 (by kernel_rfl) (by kernel_rfl) (fun W base => okin W base) (by kernel_rfl) (by kernel_rfl)) ?_
  intro W base args ds gs before hval0 hW _ _ _
  have hval : ∀ (j : Nat) t v, Try.f5.params[j]? = some t → args[j]? = some v → Value.okWide Try.prog W .any base t v := hval0
  have hW' := hW
  obtain ⟨p, q, hA0, hV, rfl, hfz, hnd⟩ := hW
  have hA : DataW.TrodAll enc Try.prog W 0 (fun _ => true) true Try.f5.params.toList args.toList ds p := hA0
  rw [Try.params5] at hA hval
  obtain ⟨v0, d0, rfl, rfl, h0⟩ := trodAll_one hA
  obtain ⟨rfl, rfl⟩ := trodVars_none hV
  obtain ⟨f, rfl, hf⟩ := open_tile (hval 0 25 v0 rfl rfl)
  refine (walk f W hf).mono fun e W' ⟨he, hb⟩ => ?_
  subst he
  exact ⟨_, rfl, law_post hW' rfl (by kernel_rfl) rfl (by intro t ht; rw [Try.params5] at ht; simp at ht; subst ht; exact ⟨by kernel_rfl, of_decide_eq_true (by kernel_rfl)⟩) hb⟩

theorem holds : Rows.TileSymmetriesSaid :=
  OpenClaim.holds_of_wide 5 Try.f5 rfl rfl rfl rfl rfl rfl rfl ⟨rfl, rfl, rfl, rfl, rfl⟩ rfl rfl rfl rfl rfl (by kernel_rfl) Try.func5 (by kernel_rfl)
    (of_decide_eq_true (by kernel_rfl)) (by unfold Func.isWrapper; first | (rw [if_pos (by decide +kernel)]; kernel_rfl) | (rw [if_neg (by decide +kernel)]; exact ⟨rfl, rfl⟩))
    (fun os started H enc _ => lifted os started H enc)
end Go.Proofs.Ytkomknhloimhcaa.T.TLSymmetries
