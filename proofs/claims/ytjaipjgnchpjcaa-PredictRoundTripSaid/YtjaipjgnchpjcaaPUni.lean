/-
  The tile of planes (contract).
-/
import Derived.Test.YtjaipjgnchpjcaaPSpl
namespace Go.Proofs.Ytjaipjgnchpjcaa.P
open Go.RowKit T
set_option maxRecDepth 100000
variable {W w w' : World} {L : List (Nat × Obj)}

/-- the tile of planes -/
def un (y u v a : Nat → Int) : Nat → Px := fun i => ⟨kR (y i) (u i) (v i), kG (y i) (v i), kB (y i) (u i) (v i), a i⟩
theorem load_ats {b : Nat} {f g : Nat → Px} {w : World} (h : w.heap[b]? = some (tob (pt f g 64))) : (Instr.loadAt 25 (.pointer (some ⟨b, 0, none⟩))).run Try.prog w = .ok (tv g) w := by
  have e : tob (pt f g 64) = tob g := congrArg (fun c => Obj.cells c 25) (pt_all f g)
  rw [e] at h
  exact load_tile b g w h
set_option maxHeartbeats 4000000 in
theorem unite_any (y u v a : Nat → Int) (w : World) (hy : ∀ i, i < 64 → Ch (y i)) (hu : ∀ i, i < 64 → Ch (u i)) (hv : ∀ i, i < 64 → Ch (v i)) :
    Calls Try.prog 30 #[pv y, pv u, pv v, pv a] w fun e w' => e = .returned (tv (un y u v a)) ∧ Below w.heap.size w w' := by
  have hs := ((((((St.start w).alloc (pob y)).alloc (pob u)).alloc (pob v)).alloc (pob a)).alloc (tob z0)).alloc (tob z0)
  simp only [World.size_alloc] at hs
  obtain ⟨V2, hV2⟩ : ∃ V2, V2 = (((((w.alloc (pob y)).alloc (pob u)).alloc (pob v)).alloc (pob a)).alloc (tob z0)).alloc (tob z0) := ⟨_, rfl⟩
  rw [← hV2] at hs
  obtain ⟨b0, hb0⟩ : ∃ b0, b0 = w.heap.size := ⟨_, rfl⟩
  rw [← hb0] at hs
  have HV := Lib.hid hV2
  have HB0 := Lib.hid hb0
  have hs' := hs.sub (L' := [(b0 + 1 + 1 + 1 + 1 + 1, tob z0), (b0 + 1 + 1 + 1 + 1, tob z0), (b0, pob y), (b0 + 1, pob u), (b0 + 1 + 1, pob v), (b0 + 1 + 1 + 1, pob a)]) (by simp)
  have HS := Lib.hid hs'
  clear hV2 hs hb0 hs'
  have hzt := zero_tile
  go_enter Try.func30, Try.ntmps30
  go_upto_region 2 with fail
  try simp only [Act.put, List.setIfInBounds_toArray, List.set_cons_zero, List.set_cons_succ]
  have e1 : (((((w.alloc (pob y)).alloc (pob u)).alloc (pob v)).alloc (pob a)).alloc (tob z0)).alloc (tob z0) = V2 := HV.out.symm
  rw [e1]
  clear e1 hzt
  try simp only [World.size_alloc]
  try rw [← HB0.out]
  clear HV
  go_wp2
  go_loopw [14] (fun i wr => ∃ j : Nat, j ≤ 64 ∧ i = .int .i64 j ∧ Hid (St w [(b0 + 1 + 1 + 1 + 1 + 1, tob (pt z0 (un y u v a) j)), (b0 + 1 + 1 + 1 + 1, tob z0), (b0, pob y), (b0 + 1, pob u), (b0 + 1 + 1, pob v), (b0 + 1 + 1 + 1, pob a)] wr)) (fun i _ => 64 - (intOf i).toNat)
  case atStart => exact ⟨0, by omega, rfl, by rw [pt_zero]; exact HS.out⟩
  case round =>
    clear HS
    obtain ⟨j, hj, rfl, HT⟩ := hrel
    by_cases hlt : j < 64
    · have cy := hy j hlt
      have cu := hu j hlt
      have cv := hv j hlt
      have e0 : un y u v a j = ⟨kR (y j) (u j) (v j), kG (y j) (v j), kB (y j) (u j) (v j), a j⟩ := rfl
      have HE := Lib.hid e0
      clear e0
      have k0 := St.pcell HT.out (b := b0) (f := y) (by simp) hlt
      have x0 := fun W => index_pl (b0) j hlt W
      have k1 := St.pcell HT.out (b := b0 + 1) (f := u) (by simp) hlt
      have x1 := fun W => index_pl (b0 + 1) j hlt W
      have k2 := St.pcell HT.out (b := b0 + 1 + 1) (f := v) (by simp) hlt
      have x2 := fun W => index_pl (b0 + 1 + 1) j hlt W
      go_upto_region 5 with fail
      go_quiet ((go_at_call 16; exact quiet_same (back_any _ _ _ _ cy cu cv)))
      have h1 := HT.out.drewN nq
      generalize wr.drewN nq = w5 at h1 ⊢
      have k3 := St.pcell h1 (b := b0 + 1 + 1 + 1) (f := a) (by simp) hlt
      have x3 := fun W => index_pl (b0 + 1 + 1 + 1) j hlt W
      have x4 := index_px (b0 + 1 + 1 + 1 + 1 + 1) j hlt
      have HST := Lib.hid (store_px (b0 + 1 + 1 + 1 + 1 + 1) (pt z0 (un y u v a) j) j (un y u v a j) hlt w5 (h1.row (b := b0 + 1 + 1 + 1 + 1 + 1) (o := tob (pt z0 (un y u v a) j)) (by simp)))
      have h5 := St.rowset (ds := tc (upd (pt z0 (un y u v a) j) j (un y u v a j))) h1 (by have := HB0.out; omega) (by first | (simp; done) | (simp; omega))
      rw [pt_succ] at h5
      have H5 := Lib.hid h5
      clear h5 h1
      go_wp2_with (refine wpList_store_of rfl 23 _ _ rfl HST.out ?_)
      rw [pt_succ]
      go_roundw
      case rel => exact ⟨j + 1, by omega, by go_num, H5.out⟩
      case measure => simp [intOf]; omega
    · obtain rfl : j = 64 := by omega
      have HLA := Lib.hid (load_ats (HT.out.row (b := b0 + 1 + 1 + 1 + 1 + 1) (o := tob (pt z0 (un y u v a) 64)) (by simp)))
      have HR := Lib.hid (HT.out.row (b := b0 + 1 + 1 + 1 + 1) (o := tob z0) (by simp))
      have HSA := Lib.hid (store_tile (b0 + 1 + 1 + 1 + 1) z0 (un y u v a) wr HR.out)
      have HB := Lib.hid HT.out.below
      go_wp2_with (first
        | (refine wpList_load_of rfl 25 _ rfl _ HLA.out ?_)
        | (refine wpList_store_of rfl 25 _ _ rfl HSA.out ?_))
      exact bodyPost_ret (v := tv (un y u v a)) (results_cell_row rfl _ _ (b0 + 1 + 1 + 1 + 1) _ _ _ _ rfl (setRow_heap _ _ _ _ _ _ HR.out) Try.underlying25 rfl (by rw [info_tile, tc_size])) rfl ⟨rfl, Below.setRow HB.out (by have := HB0.out; omega) _⟩
end Go.Proofs.Ytjaipjgnchpjcaa.P
