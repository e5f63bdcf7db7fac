/-
  Zero and Solid of tile and of the reference, Same of the reference (contracts).
-/
import Derived.Test.YtkomknhloimhcaaTRefFill
import Derived.Test.YtkomknhloimhcaaTEq
import Derived.Test.YtkomknhloimhcaaTGet
namespace Go.Proofs.Ytkomknhloimhcaa.T
open Go.RowKit Go.Shelf

/-- are all pixels below n transparent? -/
def azn (f : Nat → Px) (n : Nat) : Bool := (List.range n).all fun i => (f i).a == 0
theorem azn_succ (f : Nat → Px) (n : Nat) : azn f (n + 1) = (azn f n && ((f n).a == 0)) := by unfold azn; rw [List.range_succ, List.all_append]; simp
theorem azn_false (f : Nat → Px) (k n : Nat) (hk : k < n) (h : ((f k).a == 0) = false) : azn f n = false := by
  unfold azn
  rw [List.all_eq_false]
  exact ⟨k, List.mem_range.2 hk, by rw [h]; simp⟩
def tz (f : Nat → Px) : Bool := azn f 64
theorem tz_iff (f : Nat → Px) : tz f = true ↔ ∀ i, i < 64 → (f i).a = 0 := by unfold tz azn; simp [List.all_eq_true, List.mem_range]
theorem cln_zp (p : Px) : cln p = zp ↔ p.a = 0 := by
  obtain ⟨r, g, b, a⟩ := p
  unfold cln
  by_cases h : a = 0
  · simp [h, zp]
  · simp [h, zp]
theorem tz_teq (f : Nat → Px) : teq (fun i => cln (f i)) z0 = tz f := by
  rw [Bool.eq_iff_iff, teq_iff, tz_iff]
  exact ⟨fun h i hi => (cln_zp _).1 (h i hi), fun h i hi => (cln_zp _).2 (h i hi)⟩
set_option maxRecDepth 100000 in
set_option maxHeartbeats 2000000 in
theorem zero_any (f : Nat → Px) (w : World) : Calls Try.prog 15 #[tv f] w fun e w' => e = .returned (.bool (tz f)) ∧ Below w.heap.size w w' := by
  obtain ⟨V2, hV2⟩ : ∃ V2, V2 = w.alloc (tob f) := ⟨_, rfl⟩
  have hs := (St.start w).alloc (tob f)
  rw [← hV2] at hs
  have HL := Lib.hid (load_tile w.heap.size f V2 (hs.row (b := w.heap.size) (o := tob f) (by simp)))
  have HX := Lib.hid (St.call hs (tclean_any f V2))
  have HV := Lib.hid hV2
  have hql := eql_tile (fun i => cln (f i)) z0
  rw [tz_teq] at hql
  have HQL := Lib.hid hql
  clear hs hV2 hql
  generalize (fun i => cln (f i)) = g at *
  generalize tz f = z at *
  go_enter Try.func15, Try.ntmps15
  go_upto_region 1 with fail
  have e1 : w.alloc (tob f) = V2 := HV.out.symm
  rw [e1]
  clear e1
  go_wp2_with (first
    | (refine wpList_load_of rfl 25 _ rfl _ HL.out ?_)
    | (refine wpList_build0 rfl 25 rfl _ (built0 _) ?_)
    | (refine wpList_bin_of rfl .eql 25 _ _ _ rfl _ _ rfl rfl guard_tile _ (HQL.out _) ?_)
    | (go_at_call 17; (refine HX.out.mono ?_); rintro e V4 ⟨rfl, h4⟩; have HB := Lib.hid h4.below; clear h4))
  go_ret
  exact ⟨rfl, HB.out⟩
set_option maxRecDepth 100000 in
set_option maxHeartbeats 2000000 in
theorem refZero_any (f : Nat → Px) (w : World) : Calls Try.prog 16 #[tv f] w fun e w' => e = .returned (.bool (tz f)) ∧ Below w.heap.size w w' := by
  obtain ⟨V2, hV2⟩ : ∃ V2, V2 = w.alloc (tob f) := ⟨_, rfl⟩
  have hs := (St.start w).alloc (tob f)
  rw [← hV2] at hs
  have HV := Lib.hid hV2
  have HS := Lib.hid hs
  clear hs hV2
  go_enter Try.func16, Try.ntmps16
  go_upto_region 1 with fail
  have e1 : w.alloc (tob f) = V2 := HV.out.symm
  rw [e1]
  clear e1
  go_wp2
  go_loopw [3] (fun v wr => ∃ k : Nat, k ≤ 64 ∧ v = .int .i64 k ∧ Hid (azn f k = true ∧ St w [(w.heap.size, tob f)] wr)) (fun i _ => 64 - (intOf i).toNat)
  case atStart => exact ⟨0, by omega, rfl, rfl, HS.out⟩
  case round =>
    obtain ⟨k, hk, rfl, HT⟩ := hrel
    by_cases hlt : k < 64
    · have hix := index_px w.heap.size k hlt
      obtain ⟨_, _, _, c3⟩ := HT.out.2.q4 (b := w.heap.size) (f := f) (by simp) k hlt
      have HE := Lib.hid (azn_false f k 64 hlt)
      have HSU := Lib.hid (azn_succ f k)
      generalize (f k).a = x at *
      cases hx : x == 0
      · have hx' : (x == 0) = false := hx
        have hx2 : (x = 0) = False := by simpa using hx
        go_wp2
        go_ret
        exact ⟨by rw [show tz f = false from HE.out hx']; rfl, HT.out.2.below⟩
      · have hx2 : x = 0 := by simpa using hx
        subst hx2
        go_wp2
        go_roundw
        case rel => exact ⟨k + 1, by omega, by go_num, by rw [HSU.out, HT.out.1]; rfl, HT.out.2⟩
        case measure => simp [intOf]; omega
    · obtain rfl : k = 64 := by omega
      go_wp2
      go_ret
      exact ⟨by rw [show tz f = true from HT.out.1]; rfl, HT.out.2.below⟩
/-- are the pixels below n equal? -/
def teqn (f g : Nat → Px) (n : Nat) : Bool := (List.range n).all fun i => peq (f i) (g i)
theorem teqn_succ (f g : Nat → Px) (n : Nat) : teqn f g (n + 1) = (teqn f g n && peq (f n) (g n)) := by unfold teqn; rw [List.range_succ, List.all_append]; simp
theorem teqn_false (f g : Nat → Px) (k n : Nat) (hk : k < n) (h : peq (f k) (g k) = false) : teqn f g n = false := by
  unfold teqn
  rw [List.all_eq_false]
  exact ⟨k, List.mem_range.2 hk, by rw [h]; simp⟩
set_option maxRecDepth 100000 in
set_option maxHeartbeats 2000000 in
theorem refSame_any (f g : Nat → Px) (w : World) : Calls Try.prog 37 #[tv f, tv g] w fun e w' => e = .returned (.bool (teq f g)) ∧ Below w.heap.size w w' := by
  obtain ⟨V2, hV2⟩ : ∃ V2, V2 = (w.alloc (tob f)).alloc (tob g) := ⟨_, rfl⟩
  have hs := ((St.start w).alloc (tob f)).alloc (tob g)
  simp only [World.size_alloc] at hs
  rw [← hV2] at hs
  have HV := Lib.hid hV2
  have HS := Lib.hid hs
  clear hs hV2
  go_enter Try.func37, Try.ntmps37
  go_upto_region 1 with fail
  have e1 : (w.alloc (tob f)).alloc (tob g) = V2 := HV.out.symm
  rw [e1]
  clear e1
  go_wp2
  go_loopw [5] (fun v wr => ∃ k : Nat, k ≤ 64 ∧ v = .int .i64 k ∧ Hid (teqn f g k = true ∧ St w [(w.heap.size + 1, tob g), (w.heap.size, tob f)] wr)) (fun i _ => 64 - (intOf i).toNat)
  case atStart => exact ⟨0, by omega, rfl, rfl, HS.out⟩
  case round =>
    obtain ⟨k, hk, rfl, HT⟩ := hrel
    by_cases hlt : k < 64
    · have hix := index_px w.heap.size k hlt
      have hiy := index_px (w.heap.size + 1) k hlt
      have hs := HT.out.2.drew
      have HE := Lib.hid (teqn_false f g k 64 hlt)
      have HSU := Lib.hid (teqn_succ f g k)
      have HN := Lib.hid (neq_px (f k) (g k))
      generalize peq (f k) (g k) = z at *
      go_upto_region 4 with fail
      refine wp_region_held_drew (S := fun V3 => St w [(w.heap.size + 1, tob g), (w.heap.size, tob f)] V3) (by kernel_rfl) ?_ (fun hHeld => ?_)
      · (assumption)
      refine wpAnyH_take (i := 0) (oi := { dst := some 10, op := Op.move (Operand.tmp 5), type := 3, pos := "ref.go:26", after := #[], guard := none }) (v := ?_) rfl (by kernel_rfl) (by kernel_rfl) (by kernel_rfl) (fun _ _ _ h => h) (Or.inl ⟨by kernel_rfl, ?_⟩) (by assumption) ?_
      rotate_left 1
      focus (intro w hSw; (try dsimp only at hSw); go_simp; (try with_reducible rfl))
      try simp only [Act.put, List.setIfInBounds_toArray, List.set_cons_zero, List.set_cons_succ]
      refine wpAnyH_take (i := 1) (oi := { dst := some 11, op := Op.indexAddr 25 (Operand.tmp 2) (Operand.tmp 10), type := 0, pos := "ref.go:26", after := #[{ on := 0, ground := Ground.data }], guard := none }) (v := ?_) rfl (by kernel_rfl) (by kernel_rfl) (by kernel_rfl) (fun _ _ _ h => h) (Or.inl ⟨by kernel_rfl, ?_⟩) (by assumption) ?_
      rotate_left 1
      focus (intro w hSw; (try dsimp only at hSw); go_simp; (try with_reducible rfl))
      try simp only [Act.put, List.setIfInBounds_toArray, List.set_cons_zero, List.set_cons_succ]
      refine wpAnyH_take (i := 2) (oi := { dst := some 12, op := Op.load 23 (Operand.tmp 11), type := 23, pos := "ref.go:26", after := #[{ on := 1, ground := Ground.data }], guard := none }) rfl (by kernel_rfl) (by kernel_rfl) (by kernel_rfl) (fun _ _ _ h => h) (yields_load (by kernel_rfl) 23 (.tmp 11) rfl (f k).v (fun V hV => load_px w.heap.size f k hlt V (hV.row (b := w.heap.size) (o := tob f) (by simp)))) (by assumption) ?_
      try simp only [Act.put, List.setIfInBounds_toArray, List.set_cons_zero, List.set_cons_succ]
      refine wpAnyH_take (i := 3) (oi := { dst := some 13, op := Op.move (Operand.tmp 5), type := 3, pos := "ref.go:26", after := #[], guard := none }) (v := ?_) rfl (by kernel_rfl) (by kernel_rfl) (by kernel_rfl) (fun _ _ _ h => h) (Or.inl ⟨by kernel_rfl, ?_⟩) (by assumption) ?_
      rotate_left 1
      focus (intro w hSw; (try dsimp only at hSw); go_simp; (try with_reducible rfl))
      try simp only [Act.put, List.setIfInBounds_toArray, List.set_cons_zero, List.set_cons_succ]
      refine wpAnyH_take (i := 4) (oi := { dst := some 14, op := Op.indexAddr 25 (Operand.tmp 3) (Operand.tmp 13), type := 0, pos := "ref.go:26", after := #[{ on := 3, ground := Ground.data }], guard := none }) (v := ?_) rfl (by kernel_rfl) (by kernel_rfl) (by kernel_rfl) (fun _ _ _ h => h) (Or.inl ⟨by kernel_rfl, ?_⟩) (by assumption) ?_
      rotate_left 1
      focus (intro w hSw; (try dsimp only at hSw); go_simp; (try with_reducible rfl))
      try simp only [Act.put, List.setIfInBounds_toArray, List.set_cons_zero, List.set_cons_succ]
      refine wpAnyH_take (i := 5) (oi := { dst := some 15, op := Op.load 23 (Operand.tmp 14), type := 23, pos := "ref.go:26", after := #[{ on := 4, ground := Ground.data }], guard := none }) rfl (by kernel_rfl) (by kernel_rfl) (by kernel_rfl) (fun _ _ _ h => h) (yields_load (by kernel_rfl) 23 (.tmp 14) rfl (g k).v (fun V hV => load_px (w.heap.size + 1) g k hlt V (hV.row (b := w.heap.size + 1) (o := tob g) (by simp)))) (by assumption) ?_
      try simp only [Act.put, List.setIfInBounds_toArray, List.set_cons_zero, List.set_cons_succ]
      refine wpAnyH_take (i := 6) (oi := { dst := some 16, op := Op.binOp BinOp.neq 23 (Operand.tmp 12) (Operand.tmp 15) 23, type := 4, pos := "ref.go:26", after := #[{ on := 2, ground := Ground.data }, { on := 5, ground := Ground.data }], guard := none }) rfl (by kernel_rfl) (by kernel_rfl) (by kernel_rfl) (fun _ _ _ h => h) (yields_bin (by kernel_rfl) .neq 23 (.tmp 12) (.tmp 15) 23 rfl _ _ rfl rfl guard_px (.bool (!z)) (fun V => HN.out V)) (by assumption) ?_
      try simp only [Act.put, List.setIfInBounds_toArray, List.set_cons_zero, List.set_cons_succ]
      refine wpAnyH_done (by kernel_rfl) ?_ _
      cases z
      · go_wp2
        go_ret
        exact ⟨by rw [show teq f g = false from HE.out (by first | rfl | trivial)]; rfl, hs.below⟩
      · go_wp2
        go_roundw
        case rel => exact ⟨k + 1, by omega, by go_num, by rw [HSU.out, HT.out.1]; rfl, hs⟩
        case measure => simp [intOf]; omega
    · obtain rfl : k = 64 := by omega
      go_wp2
      go_ret
      exact ⟨by rw [show teq f g = true from HT.out.1]; rfl, HT.out.2.below⟩
end Go.Proofs.Ytkomknhloimhcaa.T
