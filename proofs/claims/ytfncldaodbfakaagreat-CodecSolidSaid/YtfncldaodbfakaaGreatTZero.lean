/-
  Zero and Solid of tile and of the reference, Same of the reference (contracts). Solid of tile and of the reference (contracts). What the laws' walks share: comparisons that come out, new tiles.
-/
import Derived.Test.YtfncldaodbfakaaGreatTRefAt
import Derived.Test.YtfncldaodbfakaaGreatTSt
import Derived.Test.YtfncldaodbfakaaGreatTGen
namespace Go.Proofs.YtfncldaodbfakaaGreat.T
open Go.RowKit Go.Shelf

/-- are all pixels below n transparent? -/
def azn (f : Nat → Px) (n : Nat) : Bool := (List.range n).all fun i => (f i).a == 0
theorem azn_succ (f : Nat → Px) (n : Nat) : azn f (n + 1) = (azn f n && ((f n).a == 0)) := by unfold azn; rw [List.range_succ, List.all_append]; simp
theorem azn_false (f : Nat → Px) (k n : Nat) (hk : k < n) (h : ((f k).a == 0) = false) : azn f n = false := by
  unfold azn
  rw [List.all_eq_false]
  exact ⟨k, List.mem_range.2 hk, by rw [h]; simp⟩
def tz (f : Nat → Px) : Bool := azn f 64
theorem tz_iff (f : Nat → Px) : tz f = true ↔ ∀ i, i < 64 → (f i).a = 0 := by unfold tz azn; simp [List.all_eq_true, List.mem_range]
theorem cln_zp (p : Px) : cln p = zp ↔ p.a = 0 := by
  obtain ⟨r, g, b, a⟩ := p
  unfold cln
  by_cases h : a = 0
  · simp [h, zp]
  · simp [h, zp]
theorem tz_teq (f : Nat → Px) : teq (fun i => cln (f i)) z0 = tz f := by
  rw [Bool.eq_iff_iff, teq_iff, tz_iff]
  exact ⟨fun h i hi => (cln_zp _).1 (h i hi), fun h i hi => (cln_zp _).2 (h i hi)⟩
set_option maxRecDepth 100000 in
set_option maxHeartbeats 2000000 in
theorem zero_any (f : Nat → Px) (w : World) : Calls Tryz.prog 126 #[tv f] w fun e w' => e = .returned (.bool (tz f)) ∧ Below w.heap.size w w' := by
  obtain ⟨V2, hV2⟩ : ∃ V2, V2 = w.alloc (tob f) := ⟨_, rfl⟩
  have hs := (St.start w).alloc (tob f)
  rw [← hV2] at hs
  have HL := Lib.hid (load_tile w.heap.size f V2 (hs.row (b := w.heap.size) (o := tob f) (by simp)))
  have HX := Lib.hid (St.call hs (tclean_any f V2))
  have HV := Lib.hid hV2
  have hql := eql_tile (fun i => cln (f i)) z0
  rw [tz_teq] at hql
  have HQL := Lib.hid hql
  clear hs hV2 hql
  generalize (fun i => cln (f i)) = g at *
  generalize tz f = z at *
  go_enter Tryz.func126, Tryz.ntmps126
  go_upto_region 1 with fail
  have e1 : w.alloc (tob f) = V2 := HV.out.symm
  rw [e1]
  clear e1
  go_wp2_with (first
    | (refine wpList_load_of rfl 38 _ rfl _ HL.out ?_)
    | (refine wpList_build0 rfl 38 rfl _ (built0 _) ?_)
    | (refine wpList_bin_of rfl .eql 38 _ _ _ rfl _ _ rfl rfl guard_tile _ (HQL.out _) ?_)
    | (go_at_call 77; (refine HX.out.mono ?_); rintro e V4 ⟨rfl, h4⟩; have HB := Lib.hid h4.below; clear h4))
  go_ret
  exact ⟨rfl, HB.out⟩
set_option maxRecDepth 100000 in
set_option maxHeartbeats 2000000 in
theorem refZero_any (f : Nat → Px) (w : World) : Calls Tryz.prog 47 #[tv f] w fun e w' => e = .returned (.bool (tz f)) ∧ Below w.heap.size w w' := by
  obtain ⟨V2, hV2⟩ : ∃ V2, V2 = w.alloc (tob f) := ⟨_, rfl⟩
  have hs := (St.start w).alloc (tob f)
  rw [← hV2] at hs
  have HV := Lib.hid hV2
  have HS := Lib.hid hs
  clear hs hV2
  go_enter Tryz.func47, Tryz.ntmps47
  go_upto_region 1 with fail
  have e1 : w.alloc (tob f) = V2 := HV.out.symm
  rw [e1]
  clear e1
  go_wp2
  go_loopw [3] (fun v wr => ∃ k : Nat, k ≤ 64 ∧ v = .int .i64 k ∧ Hid (azn f k = true ∧ St w [(w.heap.size, tob f)] wr)) (fun i _ => 64 - (intOf i).toNat)
  case atStart => exact ⟨0, by omega, rfl, rfl, HS.out⟩
  case round =>
    obtain ⟨k, hk, rfl, HT⟩ := hrel
    by_cases hlt : k < 64
    · have hix := index_px w.heap.size k hlt
      obtain ⟨_, _, _, c3⟩ := HT.out.2.q4 (b := w.heap.size) (f := f) (by simp) k hlt
      have HE := Lib.hid (azn_false f k 64 hlt)
      have HSU := Lib.hid (azn_succ f k)
      generalize (f k).a = x at *
      cases hx : x == 0
      · have hx' : (x == 0) = false := hx
        have hx2 : (x = 0) = False := by simpa using hx
        go_wp2
        go_ret
        exact ⟨by rw [show tz f = false from HE.out hx']; rfl, HT.out.2.below⟩
      · have hx2 : x = 0 := by simpa using hx
        subst hx2
        go_wp2
        go_roundw
        case rel => exact ⟨k + 1, by omega, by go_num, by rw [HSU.out, HT.out.1]; rfl, HT.out.2⟩
        case measure => simp [intOf]; omega
    · obtain rfl : k = 64 := by omega
      go_wp2
      go_ret
      exact ⟨by rw [show tz f = true from HT.out.1]; rfl, HT.out.2.below⟩
/-- are the pixels below n equal? -/
def teqn (f g : Nat → Px) (n : Nat) : Bool := (List.range n).all fun i => peq (f i) (g i)
theorem teqn_succ (f g : Nat → Px) (n : Nat) : teqn f g (n + 1) = (teqn f g n && peq (f n) (g n)) := by unfold teqn; rw [List.range_succ, List.all_append]; simp
theorem teqn_false (f g : Nat → Px) (k n : Nat) (hk : k < n) (h : peq (f k) (g k) = false) : teqn f g n = false := by
  unfold teqn
  rw [List.all_eq_false]
  exact ⟨k, List.mem_range.2 hk, by rw [h]; simp⟩
set_option maxRecDepth 100000 in
set_option maxHeartbeats 2000000 in
theorem refSame_any (f g : Nat → Px) (w : World) : Calls Tryz.prog 111 #[tv f, tv g] w fun e w' => e = .returned (.bool (teq f g)) ∧ Below w.heap.size w w' := by
  obtain ⟨V2, hV2⟩ : ∃ V2, V2 = (w.alloc (tob f)).alloc (tob g) := ⟨_, rfl⟩
  have hs := ((St.start w).alloc (tob f)).alloc (tob g)
  simp only [World.size_alloc] at hs
  rw [← hV2] at hs
  have HV := Lib.hid hV2
  have HS := Lib.hid hs
  clear hs hV2
  go_enter Tryz.func111, Tryz.ntmps111
  go_upto_region 1 with fail
  have e1 : (w.alloc (tob f)).alloc (tob g) = V2 := HV.out.symm
  rw [e1]
  clear e1
  go_wp2
  go_loopw [5] (fun v wr => ∃ k : Nat, k ≤ 64 ∧ v = .int .i64 k ∧ Hid (teqn f g k = true ∧ St w [(w.heap.size + 1, tob g), (w.heap.size, tob f)] wr)) (fun i _ => 64 - (intOf i).toNat)
  case atStart => exact ⟨0, by omega, rfl, rfl, HS.out⟩
  case round =>
    obtain ⟨k, hk, rfl, HT⟩ := hrel
    by_cases hlt : k < 64
    · have hix := index_px w.heap.size k hlt
      have hiy := index_px (w.heap.size + 1) k hlt
      have hs := HT.out.2.drew
      have HE := Lib.hid (teqn_false f g k 64 hlt)
      have HSU := Lib.hid (teqn_succ f g k)
      have HN := Lib.hid (neq_px (f k) (g k))
      generalize peq (f k) (g k) = z at *
      go_upto_region 4 with fail
      refine wp_region_held_drew (S := fun V3 => St w [(w.heap.size + 1, tob g), (w.heap.size, tob f)] V3) (by kernel_rfl) ?_ (fun hHeld => ?_)
      · (assumption)
      refine wpAnyH_take (i := 0) (oi := { dst := some 10, op := Op.move (Operand.tmp 5), type := 3, pos := "ref.go:26", after := #[], guard := none }) (v := ?_) rfl (by kernel_rfl) (by kernel_rfl) (by kernel_rfl) (fun _ _ _ h => h) (Or.inl ⟨by kernel_rfl, ?_⟩) (by assumption) ?_
      rotate_left 1
      focus (intro w hSw; (try dsimp only at hSw); go_simp; (try with_reducible rfl))
      try simp only [Act.put, List.setIfInBounds_toArray, List.set_cons_zero, List.set_cons_succ]
      refine wpAnyH_take (i := 1) (oi := { dst := some 11, op := Op.indexAddr 38 (Operand.tmp 2) (Operand.tmp 10), type := 0, pos := "ref.go:26", after := #[{ on := 0, ground := Ground.data }], guard := none }) (v := ?_) rfl (by kernel_rfl) (by kernel_rfl) (by kernel_rfl) (fun _ _ _ h => h) (Or.inl ⟨by kernel_rfl, ?_⟩) (by assumption) ?_
      rotate_left 1
      focus (intro w hSw; (try dsimp only at hSw); go_simp; (try with_reducible rfl))
      try simp only [Act.put, List.setIfInBounds_toArray, List.set_cons_zero, List.set_cons_succ]
      refine wpAnyH_take (i := 2) (oi := { dst := some 12, op := Op.load 36 (Operand.tmp 11), type := 36, pos := "ref.go:26", after := #[{ on := 1, ground := Ground.data }], guard := none }) rfl (by kernel_rfl) (by kernel_rfl) (by kernel_rfl) (fun _ _ _ h => h) (yields_load (by kernel_rfl) 36 (.tmp 11) rfl (f k).v (fun V hV => load_px w.heap.size f k hlt V (hV.row (b := w.heap.size) (o := tob f) (by simp)))) (by assumption) ?_
      try simp only [Act.put, List.setIfInBounds_toArray, List.set_cons_zero, List.set_cons_succ]
      refine wpAnyH_take (i := 3) (oi := { dst := some 13, op := Op.move (Operand.tmp 5), type := 3, pos := "ref.go:26", after := #[], guard := none }) (v := ?_) rfl (by kernel_rfl) (by kernel_rfl) (by kernel_rfl) (fun _ _ _ h => h) (Or.inl ⟨by kernel_rfl, ?_⟩) (by assumption) ?_
      rotate_left 1
      focus (intro w hSw; (try dsimp only at hSw); go_simp; (try with_reducible rfl))
      try simp only [Act.put, List.setIfInBounds_toArray, List.set_cons_zero, List.set_cons_succ]
      refine wpAnyH_take (i := 4) (oi := { dst := some 14, op := Op.indexAddr 38 (Operand.tmp 3) (Operand.tmp 13), type := 0, pos := "ref.go:26", after := #[{ on := 3, ground := Ground.data }], guard := none }) (v := ?_) rfl (by kernel_rfl) (by kernel_rfl) (by kernel_rfl) (fun _ _ _ h => h) (Or.inl ⟨by kernel_rfl, ?_⟩) (by assumption) ?_
      rotate_left 1
      focus (intro w hSw; (try dsimp only at hSw); go_simp; (try with_reducible rfl))
      try simp only [Act.put, List.setIfInBounds_toArray, List.set_cons_zero, List.set_cons_succ]
      refine wpAnyH_take (i := 5) (oi := { dst := some 15, op := Op.load 36 (Operand.tmp 14), type := 36, pos := "ref.go:26", after := #[{ on := 4, ground := Ground.data }], guard := none }) rfl (by kernel_rfl) (by kernel_rfl) (by kernel_rfl) (fun _ _ _ h => h) (yields_load (by kernel_rfl) 36 (.tmp 14) rfl (g k).v (fun V hV => load_px (w.heap.size + 1) g k hlt V (hV.row (b := w.heap.size + 1) (o := tob g) (by simp)))) (by assumption) ?_
      try simp only [Act.put, List.setIfInBounds_toArray, List.set_cons_zero, List.set_cons_succ]
      refine wpAnyH_take (i := 6) (oi := { dst := some 16, op := Op.binOp BinOp.neq 36 (Operand.tmp 12) (Operand.tmp 15) 36, type := 4, pos := "ref.go:26", after := #[{ on := 2, ground := Ground.data }, { on := 5, ground := Ground.data }], guard := none }) rfl (by kernel_rfl) (by kernel_rfl) (by kernel_rfl) (fun _ _ _ h => h) (yields_bin (by kernel_rfl) .neq 36 (.tmp 12) (.tmp 15) 36 rfl _ _ rfl rfl guard_px (.bool (!z)) (fun V => HN.out V)) (by assumption) ?_
      try simp only [Act.put, List.setIfInBounds_toArray, List.set_cons_zero, List.set_cons_succ]
      refine wpAnyH_done (by kernel_rfl) ?_ _
      cases z
      · go_wp2
        go_ret
        exact ⟨by rw [show teq f g = false from HE.out (by first | rfl | trivial)]; rfl, hs.below⟩
      · go_wp2
        go_roundw
        case rel => exact ⟨k + 1, by omega, by go_num, by rw [HSU.out, HT.out.1]; rfl, hs⟩
        case measure => simp [intOf]; omega
    · obtain rfl : k = 64 := by omega
      go_wp2
      go_ret
      exact ⟨by rw [show teq f g = true from HT.out.1]; rfl, HT.out.2.below⟩
end Go.Proofs.YtfncldaodbfakaaGreat.T

namespace Go.Proofs.YtfncldaodbfakaaGreat.T
open Go.RowKit Go.Shelf

/-- are all pixels equal to the first? -/
def sb (f : Nat → Px) : Bool := teq f (fun _ => f 0)
def sp (f : Nat → Px) : Px := if sb f then f 0 else zp
theorem peq_comm (p q : Px) : peq p q = peq q p := by rw [peq_eq, peq_eq]; by_cases h : p = q <;> simp [h, eq_comm]
theorem teq_comm (f g : Nat → Px) : teq f g = teq g f := by unfold teq; congr 1; funext i; exact peq_comm _ _
theorem sp_true {f : Nat → Px} (h : sb f = true) : sp f = f 0 := if_pos h
theorem sp_false {f : Nat → Px} (h : sb f = false) : sp f = zp := by unfold sp; rw [h]; rfl
set_option maxRecDepth 100000 in
set_option maxHeartbeats 4000000 in
theorem solid_any (f : Nat → Px) (w : World) : Calls Tryz.prog 148 #[tv f] w fun e w' => e = .returned (.tuple #[(sp f).v, .bool (sb f)]) ∧ Below w.heap.size w w' := by
  obtain ⟨V2, hV2⟩ : ∃ V2, V2 = (w.alloc (tob f)).alloc (pxo zp) := ⟨_, rfl⟩
  have hs := ((St.start w).alloc (tob f)).alloc (pxo zp)
  simp only [World.size_alloc] at hs
  rw [← hV2] at hs
  have hs := (hs.sub (L' := [(w.heap.size, tob f), (w.heap.size + 1, pxo zp)]) (by simp)).drew
  have HV := Lib.hid hV2
  have hix := index_px w.heap.size 0 (by omega)
  have hn := neq_tile (fun _ => f 0) f
  rw [teq_comm] at hn
  have hz : teq f (fun _ => f 0) = sb f := rfl
  rw [hz] at hn
  clear hz
  obtain ⟨z, hz⟩ : ∃ z, z = sb f := ⟨_, rfl⟩
  have HZ := Lib.hid hz
  rw [← hz] at hn
  have HN := Lib.hid hn
  clear hn
  clear hV2 hz
  go_enter Tryz.func148, Tryz.ntmps148
  go_upto_region 1 with fail
  have e1 : (w.alloc (tob f)).alloc (po 0 0 0 0) = V2 := HV.out.symm
  rw [e1]
  clear e1
  refine wp_region_held_drew (S := fun V3 => St w [(w.heap.size, tob f), (w.heap.size + 1, pxo zp)] V3) (by kernel_rfl) ?_ (fun hHeld => ?_)
  · (first | exact h4 | exact hs)
  refine wpAnyH_take (i := 0) (oi := { dst := some 4, op := Op.indexAddr 38 (Operand.tmp 1) (Operand.const (Value.int IntKind.i64 0)), type := 0, pos := "tile.go:16", after := #[], guard := none }) (v := ?_) rfl (by kernel_rfl) (by kernel_rfl) (by kernel_rfl) (fun _ _ _ h => h) (Or.inl ⟨by kernel_rfl, ?_⟩) (by assumption) ?_
  rotate_left 1
  focus (intro w hSw; (try dsimp only at hSw); go_simp; (try with_reducible rfl))
  try simp only [Act.put, List.setIfInBounds_toArray, List.set_cons_zero, List.set_cons_succ]
  refine wpAnyH_take (i := 1) (oi := { dst := some 5, op := Op.load 36 (Operand.tmp 4), type := 36, pos := "tile.go:16", after := #[{ on := 0, ground := Ground.data }], guard := none }) rfl (by kernel_rfl) (by kernel_rfl) (by kernel_rfl) (fun _ _ _ h => h) (yields_load (by kernel_rfl) 36 (.tmp 4) rfl (f 0).v (fun V hV => load_px w.heap.size f 0 (by omega) V (hV.row (b := w.heap.size) (o := tob f) (by simp)))) (by assumption) ?_
  try simp only [Act.put, List.setIfInBounds_toArray, List.set_cons_zero, List.set_cons_succ]
  refine wpAnyH_take (i := 3) (oi := { dst := some 7, op := Op.load 38 (Operand.tmp 1), type := 38, pos := "tile.go:16", after := #[], guard := none }) rfl (by kernel_rfl) (by kernel_rfl) (by kernel_rfl) (fun _ _ _ h => h) (yields_load (by kernel_rfl) 38 (.tmp 1) rfl (tv f) (fun V hV => load_tile w.heap.size f V (hV.row (b := w.heap.size) (o := tob f) (by simp)))) (by assumption) ?_
  try simp only [Act.put, List.setIfInBounds_toArray, List.set_cons_zero, List.set_cons_succ]
  refine wpAnyH_ready (rs := [2]) (by kernel_rfl) (by simp) (AllReadyH.cons (o := { dst := some 6, op := Op.call { callee := Callee.value (Operand.func 175), args := #[Operand.tmp 5], argTypes := #[36] }, type := 38, pos := "tile.go:16", after := #[{ on := 1, ground := Ground.data }], guard := none }) rfl (fun K hK => ?_) AllReadyH.nil)
  (go_simp; (go_at_call 175; (refine (St.call hs (fill_any (f 0) _)).mono ?_); rintro e V4 ⟨rfl, h4⟩))
  refine hK.out _ _ ?_ (fun hHeld => ?_)
  · (first | exact h4 | exact hs)
  clear hK K
  try simp only [Act.put, List.setIfInBounds_toArray, List.set_cons_zero, List.set_cons_succ]
  refine wpAnyH_take (i := 4) (oi := { dst := some 8, op := Op.binOp BinOp.neq 38 (Operand.tmp 6) (Operand.tmp 7) 38, type := 4, pos := "tile.go:16", after := #[{ on := 2, ground := Ground.data }, { on := 3, ground := Ground.data }], guard := none }) rfl (by kernel_rfl) (by kernel_rfl) (by kernel_rfl) (fun _ _ _ h => h) (yields_bin (by kernel_rfl) .neq 38 (.tmp 6) (.tmp 7) 38 rfl _ _ rfl rfl guard_tile (.bool (!z)) (fun V => HN.out V)) (by assumption) ?_
  try simp only [Act.put, List.setIfInBounds_toArray, List.set_cons_zero, List.set_cons_succ]
  refine wpAnyH_done (by kernel_rfl) ?_ _
  have H4 := Lib.hid h4
  clear hs h4
  cases z
  · have HR := Lib.hid (H4.out.row (b := w.heap.size + 1) (o := pxo zp) (by simp))
    have h6 := St.rowset (ds := (pl zp).toArray) (H4.out.sub (L' := [(w.heap.size + 1, pxo zp)]) (by simp)) (by omega) (by simp)
    obtain ⟨k0, k1, k2, k3⟩ := h6.pix (b := w.heap.size + 1) (x0 := 0) (x1 := 0) (x2 := 0) (x3 := 0) (by first | exact List.mem_cons_self .. | (simp; done))
    have HB := Lib.hid h6.below
    clear h6
    go_wp2_with (refine wpList_store_of rfl 36 _ _ rfl (store_px0 _ _ zp _ HR.out) ?_)
    exact bodyPost_ret (v := .tuple #[zp.v, .bool false]) (by simp [results, Tryz.results148, go_sem, *]) rfl ⟨by rw [sp_false HZ.out.symm, ← HZ.out], HB.out⟩
  · have HR := Lib.hid (H4.out.row (b := w.heap.size + 1) (o := pxo zp) (by simp))
    have HL := Lib.hid (load_px w.heap.size f 0 (by omega) _ (H4.out.row (b := w.heap.size) (o := tob f) (by simp)))
    have h6 := St.rowset (ds := (pl (f 0)).toArray) (H4.out.sub (L' := [(w.heap.size + 1, pxo zp)]) (by simp)) (by omega) (by simp)
    obtain ⟨k0, k1, k2, k3⟩ := h6.pix (b := w.heap.size + 1) (x0 := (f 0).r) (x1 := (f 0).g) (x2 := (f 0).b) (x3 := (f 0).a) (by first | exact List.mem_cons_self .. | (simp; done))
    have HB := Lib.hid h6.below
    clear h6
    go_wp2_with (first
      | (refine wpList_load_of rfl 36 _ rfl _ HL.out ?_)
      | (refine wpList_store_of rfl 36 _ _ rfl (store_px0 _ _ (f 0) _ HR.out) ?_))
    exact bodyPost_ret (v := .tuple #[(f 0).v, .bool true]) (by simp [results, Tryz.results148, go_sem, *]) rfl ⟨by rw [sp_true HZ.out.symm, ← HZ.out], HB.out⟩
set_option maxRecDepth 100000 in
set_option maxHeartbeats 4000000 in
theorem refSolid_any (f : Nat → Px) (w : World) : Calls Tryz.prog 138 #[tv f] w fun e w' => e = .returned (.tuple #[(sp f).v, .bool (sb f)]) ∧ Below w.heap.size w w' := by
  obtain ⟨V2, hV2⟩ : ∃ V2, V2 = (w.alloc (tob f)).alloc (pxo zp) := ⟨_, rfl⟩
  have hs := ((St.start w).alloc (tob f)).alloc (pxo zp)
  simp only [World.size_alloc] at hs
  rw [← hV2] at hs
  have hs := (hs.sub (L' := [(w.heap.size, tob f), (w.heap.size + 1, pxo zp)]) (by simp)).drew
  have HV := Lib.hid hV2
  have hix := index_px w.heap.size 0 (by omega)
  obtain ⟨z, hz⟩ : ∃ z, z = sb f := ⟨_, rfl⟩
  have HZ := Lib.hid hz
  clear hV2 hz
  go_enter Tryz.func138, Tryz.ntmps138
  go_upto_region 1 with fail
  have e1 : (w.alloc (tob f)).alloc (po 0 0 0 0) = V2 := HV.out.symm
  rw [e1]
  clear e1
  refine wp_region_held_drew (S := fun V3 => St w [(w.heap.size, tob f), (w.heap.size + 1, pxo zp)] V3) (by kernel_rfl) ?_ (fun hHeld => ?_)
  · (first | exact h5 | exact h4 | exact hs)
  refine wpAnyH_take (i := 0) (oi := { dst := some 4, op := Op.load 38 (Operand.tmp 1), type := 38, pos := "ref.go:35", after := #[], guard := none }) rfl (by kernel_rfl) (by kernel_rfl) (by kernel_rfl) (fun _ _ _ h => h) (yields_load (by kernel_rfl) 38 (.tmp 1) rfl (tv f) (fun V hV => load_tile w.heap.size f V (hV.row (b := w.heap.size) (o := tob f) (by simp)))) (by assumption) ?_
  try simp only [Act.put, List.setIfInBounds_toArray, List.set_cons_zero, List.set_cons_succ]
  refine wpAnyH_take (i := 1) (oi := { dst := some 5, op := Op.indexAddr 38 (Operand.tmp 1) (Operand.const (Value.int IntKind.i64 0)), type := 0, pos := "ref.go:35", after := #[], guard := none }) (v := ?_) rfl (by kernel_rfl) (by kernel_rfl) (by kernel_rfl) (fun _ _ _ h => h) (Or.inl ⟨by kernel_rfl, ?_⟩) (by assumption) ?_
  rotate_left 1
  focus (intro w hSw; (try dsimp only at hSw); go_simp; (try with_reducible rfl))
  try simp only [Act.put, List.setIfInBounds_toArray, List.set_cons_zero, List.set_cons_succ]
  refine wpAnyH_take (i := 2) (oi := { dst := some 6, op := Op.load 36 (Operand.tmp 5), type := 36, pos := "ref.go:35", after := #[{ on := 1, ground := Ground.data }], guard := none }) rfl (by kernel_rfl) (by kernel_rfl) (by kernel_rfl) (fun _ _ _ h => h) (yields_load (by kernel_rfl) 36 (.tmp 5) rfl (f 0).v (fun V hV => load_px w.heap.size f 0 (by omega) V (hV.row (b := w.heap.size) (o := tob f) (by simp)))) (by assumption) ?_
  try simp only [Act.put, List.setIfInBounds_toArray, List.set_cons_zero, List.set_cons_succ]
  refine wpAnyH_ready (rs := [3]) (by kernel_rfl) (by simp) (AllReadyH.cons (o := { dst := some 7, op := Op.call { callee := Callee.value (Operand.func 45), args := #[Operand.tmp 6], argTypes := #[36] }, type := 38, pos := "ref.go:35", after := #[{ on := 2, ground := Ground.data }], guard := none }) rfl (fun K hK => ?_) AllReadyH.nil)
  (go_simp; (go_at_call 45; (refine (St.call hs (refFill_any (f 0) _)).mono ?_); rintro e V4 ⟨rfl, h4⟩))
  refine hK.out _ _ ?_ (fun hHeld => ?_)
  · (first | exact h5 | exact h4 | exact hs)
  clear hK K
  try simp only [Act.put, List.setIfInBounds_toArray, List.set_cons_zero, List.set_cons_succ]
  refine wpAnyH_ready (rs := [4]) (by kernel_rfl) (by simp) (AllReadyH.cons (o := { dst := some 8, op := Op.call { callee := Callee.value (Operand.func 111), args := #[Operand.tmp 4, Operand.tmp 7], argTypes := #[38, 38] }, type := 4, pos := "ref.go:35", after := #[{ on := 0, ground := Ground.data }, { on := 3, ground := Ground.data }, { on := 3, ground := Ground.chain }], guard := none }) rfl (fun K hK => ?_) AllReadyH.nil)
  (go_simp; (go_at_call 111; (refine (St.call h4 (refSame_any f (fun _ => f 0) _)).mono ?_); rintro e V5 ⟨rfl, h5⟩))
  refine hK.out _ _ ?_ (fun hHeld => ?_)
  · (first | exact h5 | exact h4 | exact hs)
  clear hK K
  try simp only [Act.put, List.setIfInBounds_toArray, List.set_cons_zero, List.set_cons_succ]
  refine wpAnyH_done (by kernel_rfl) ?_ _
  have ez : teq f (fun _ => f 0) = z := HZ.out.symm
  try rw [ez]
  clear ez
  have H4 := Lib.hid h5
  clear hs h4 h5
  cases z
  · have HR := Lib.hid (H4.out.row (b := w.heap.size + 1) (o := pxo zp) (by simp))
    have h6 := St.rowset (ds := (pl zp).toArray) (H4.out.sub (L' := [(w.heap.size + 1, pxo zp)]) (by simp)) (by omega) (by simp)
    obtain ⟨k0, k1, k2, k3⟩ := h6.pix (b := w.heap.size + 1) (x0 := 0) (x1 := 0) (x2 := 0) (x3 := 0) (by first | exact List.mem_cons_self .. | (simp; done))
    have HB := Lib.hid h6.below
    clear h6
    go_wp2_with (refine wpList_store_of rfl 36 _ _ rfl (store_px0 _ _ zp _ HR.out) ?_)
    exact bodyPost_ret (v := .tuple #[zp.v, .bool false]) (by simp [results, Tryz.results138, go_sem, *]) rfl ⟨by rw [sp_false HZ.out.symm, ← HZ.out], HB.out⟩
  · have HR := Lib.hid (H4.out.row (b := w.heap.size + 1) (o := pxo zp) (by simp))
    have HL := Lib.hid (load_px w.heap.size f 0 (by omega) _ (H4.out.row (b := w.heap.size) (o := tob f) (by simp)))
    have h6 := St.rowset (ds := (pl (f 0)).toArray) (H4.out.sub (L' := [(w.heap.size + 1, pxo zp)]) (by simp)) (by omega) (by simp)
    obtain ⟨k0, k1, k2, k3⟩ := h6.pix (b := w.heap.size + 1) (x0 := (f 0).r) (x1 := (f 0).g) (x2 := (f 0).b) (x3 := (f 0).a) (by first | exact List.mem_cons_self .. | (simp; done))
    have HB := Lib.hid h6.below
    clear h6
    go_wp2_with (first
      | (refine wpList_load_of rfl 36 _ rfl _ HL.out ?_)
      | (refine wpList_store_of rfl 36 _ _ rfl (store_px0 _ _ (f 0) _ HR.out) ?_))
    exact bodyPost_ret (v := .tuple #[(f 0).v, .bool true]) (by simp [results, Tryz.results138, go_sem, *]) rfl ⟨by rw [sp_true HZ.out.symm, ← HZ.out], HB.out⟩
end Go.Proofs.YtfncldaodbfakaaGreat.T

namespace Go.Proofs.YtfncldaodbfakaaGreat
open Go.RowKit T
variable {W w w' : World} {L : List (Nat × Obj)}
theorem St.tl {x : Nat × Obj} (h : St W (x :: L) w) : St W L w := h.sub fun _ hx => List.mem_cons_of_mem _ hx
theorem St.hd {b : Nat} {o : Obj} (h : St W ((b, o) :: L) w) : w.heap[b]? = some o := h.row (List.mem_cons_self ..)
theorem St.newT {b : Nat} (T : Nat → Px) (h : St W ((b, tob z0) :: L) w) (hb : W.heap.size ≤ b) (hL : ∀ x ∈ L, x.1 ≠ b) : St W ((b, tob T) :: L) (w.setRow b (tc T)) := St.rowset h hb hL
theorem St.ne (h : St W L w) : ∀ x ∈ L, x.1 ≠ w.heap.size := fun x hx => Nat.ne_of_lt (Array.getElem?_eq_some_iff.1 (h.rows x hx)).1
end Go.Proofs.YtfncldaodbfakaaGreat
namespace Go.Proofs.YtfncldaodbfakaaGreat.T
open Go.RowKit Go.Shelf
theorem peq_self (p : Px) : peq p p = true := (peq_iff p p).2 rfl
theorem eqlT {p q : Px} (h : p = q) (V : World) : (Go.binOp .eql 36 p.v q.v).run Tryz.prog V = .ok (.bool true) V := by rw [eql_px, h, peq_self]
theorem neqT {p q : Px} (h : p = q) (V : World) : (Go.binOp .neq 36 p.v q.v).run Tryz.prog V = .ok (.bool false) V := by rw [neq_px, h, peq_self]; rfl
theorem eqlTT {f g : Nat → Px} (h : ∀ i, i < 64 → f i = g i) (V : World) : (Go.binOp .eql 38 (tv f) (tv g)).run Tryz.prog V = .ok (.bool true) V := by rw [eql_tile, teq_true h]
theorem neqTT {f g : Nat → Px} (h : ∀ i, i < 64 → f i = g i) (V : World) : (Go.binOp .neq 38 (tv f) (tv g)).run Tryz.prog V = .ok (.bool false) V := by rw [neq_tile, teq_true h]; rfl
theorem wp_alloc_of {P : Program} {o : Oper} {a : Act} {w : World} {K : Act → World → Prop} {Q : Exit → Act → World → Prop} (t : TypeId) (ho : o.op = .alloc t) (cs : Array Value) (hz : (zeroValue t).run P w = .ok (.agg cs) w)
    (h : K (a.put o.dst (.pointer (some ⟨w.heap.size, 0, none⟩))) (w.alloc (.cells cs t))) : o.wp P a w K Q := by
  have hn : (newVar t (.agg cs)).run P w = .ok ⟨w.heap.size, 0, none⟩ (w.alloc (.cells cs t)) := rfl
  unfold Oper.wp execOp
  simp only [ho, Instr.alloc, Sem.run_bind, hz, hn, Result.andThen_ok, Sem.run_pure]
  exact h
theorem wp_bin_of {P : Program} {o : Oper} {a : Act} {w : World} {K : Act → World → Prop} {Q : Exit → Act → World → Prop} (bop : BinOp) (t : TypeId) (x y : Operand) (t' : TypeId) (ho : o.op = .binOp bop t x y t') (xs ys : Array Value) (hx : a.eval x = .agg xs) (hy : a.eval y = .agg ys)
    (hm : P.eqGuardType P.depth t = false) (v : Value) (hl : (Go.binOp bop t (.agg xs) (.agg ys)).run P w = .ok v w) (h : K (a.put o.dst v) w) : o.wp P a w K Q := by
  unfold Oper.wp execOp
  simp only [ho, hx, hy, Sem.run_bind, run_eqGuard_agg _ bop t x y xs ys hm, hl, Result.andThen_ok, Sem.run_pure]
  exact h
/-- an operation under a guard that lets it by -/
theorem wpList_on {P : Program} {ops : Array Oper} {rest : List Oper} {o : Oper} {a : Act} {Q : Exit → Act → World → Prop} {w : World} (hw : Region.wanted o (yielded ops a.tmps) = true) (h : o.wp P a w (wpList P ops Q rest) Q) : wpList P ops Q (o :: rest) a w := by
  show if Region.wanted o (yielded ops a.tmps) = true then _ else _
  rw [if_pos hw]
  exact .inl h
/-- the tile in block b -/
theorem ld {L : List (Nat × Obj)} {W V : World} {b : Nat} {f : Nat → Px} (h : St W L V) (hm : (b, tob f) ∈ L) : (Instr.loadAt 38 (.pointer (some ⟨b, 0, none⟩))).run Tryz.prog V = .ok (tv f) V := load_tile b f V (h.row hm)
theorem ldp {L : List (Nat × Obj)} {W V : World} {b : Nat} {p : Px} (h : St W L V) (hm : (b, pxo p) ∈ L) : (Instr.loadAt 36 (.pointer (some ⟨b, 0, none⟩))).run Tryz.prog V = .ok p.v V := load_px0 b p V (h.row hm)
theorem ldi {L : List (Nat × Obj)} {W V : World} {b : Nat} {f : Nat → Px} (h : St W L V) (hm : (b, tob f) ∈ L) (i : Nat) (hi : i < 64) : (Instr.loadAt 36 (.pointer (some ⟨b, 4 * i, none⟩))).run Tryz.prog V = .ok (f i).v V := load_px b f i hi V (h.row hm)
end Go.Proofs.YtfncldaodbfakaaGreat.T
