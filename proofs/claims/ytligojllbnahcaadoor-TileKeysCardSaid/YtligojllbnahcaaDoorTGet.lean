/-
  Get and Set of tile and of the reference (contracts).
-/
import Derived.Test.YtligojllbnahcaaDoorTSym
namespace Go.Proofs.YtligojllbnahcaaDoor.T
open Go.RowKit Go.Shelf
variable {W w w' : World} {L : List (Nat × Obj)}

/-- does a tile have a pixel at column x and row y? -/
def ins (x y : Int) : Bool := decide (0 ≤ x ∧ x < 8 ∧ 0 ≤ y ∧ y < 8)
theorem ins_iff (x y : Int) : ins x y = true ↔ (0 ≤ x ∧ x < 8 ∧ 0 ≤ y ∧ y < 8) := by simp [ins]
theorem inside_any (x y : Int) (w : World) : Calls Tryd.prog 27 #[.int .i64 x, .int .i64 y] w fun e w' => e = .returned (.bool (ins x y)) ∧ w = w' := by
  have HI := Lib.hid (ins_iff x y)
  go_enter Tryd.func27, Tryd.ntmps27
  go_wp2
  all_goals go_ret
  all_goals exact ⟨ret_bool (by rw [Bool.eq_iff_iff, HI.out]; simp <;> omega), rfl⟩
/-- what Get and Set give -/
def gt (f : Nat → Px) (x y : Int) : Px := if ins x y then f (8 * y + x).toNat else zp
def st (f : Nat → Px) (x y : Int) (p : Px) : Nat → Px := if ins x y then upd f (8 * y + x).toNat p else f
theorem ins_nat {x y : Int} (h : ins x y = true) : (8 * y + x).toNat < 64 ∧ 8 * y + x = ((8 * y + x).toNat : Int) ∧ 0 ≤ x ∧ x < 8 ∧ 0 ≤ y ∧ y < 8 := by
  obtain ⟨h1, h2, h3, h4⟩ := (ins_iff x y).1 h
  omega
set_option maxRecDepth 100000 in
set_option maxHeartbeats 4000000 in
theorem get_any (f : Nat → Px) (x y : Int) (w : World) : Calls Tryd.prog 16 #[tv f, .int .i64 x, .int .i64 y] w fun e w' => e = .returned (gt f x y).v ∧ Below w.heap.size w w' := by
  obtain ⟨V2, hV2⟩ : ∃ V2, V2 = (w.alloc (tob f)).alloc (pxo zp) := ⟨_, rfl⟩
  have hs := ((St.start w).alloc (tob f)).alloc (pxo zp)
  simp only [World.size_alloc] at hs
  rw [← hV2] at hs
  have HR := Lib.hid (hs.row (b := w.heap.size + 1) (o := pxo zp) (by simp))
  have HT := Lib.hid (hs.row (b := w.heap.size) (o := tob f) (by simp))
  have HB := Lib.hid hs.below
  have HV := Lib.hid hV2
  have HN := Lib.hid (fun V => inside_any x y V)
  clear hs hV2
  cases hin : ins x y
  · have HG : Hid (gt f x y = zp) := by unfold gt; rw [hin]; exact rfl
    rw [hin] at HN
    clear hin
    go_enter Tryd.func16, Tryd.ntmps16
    go_upto_region 1 with fail
    have e1 : (w.alloc (tob f)).alloc (po 0 0 0 0) = V2 := HV.out.symm
    rw [e1]
    clear e1
    go_wp2_with (first
      | (refine wpList_store_of rfl 23 _ _ rfl (store_px0 _ _ zp _ HR.out) ?_)
      | (go_at_call 27; (refine (HN.out _).mono ?_); rintro e V4 ⟨rfl, rfl⟩))
    exact bodyPost_ret (v := zp.v) (results_cell_row rfl _ _ (w.heap.size + 1) _ _ _ _ rfl (setRow_heap _ _ _ _ _ _ HR.out) Tryd.underlying23 rfl info_px) rfl ⟨by rw [HG.out], Below.setRow HB.out (by omega) _⟩
  · obtain ⟨hn, hxy, h1, h2, h3, h4⟩ := ins_nat hin
    have HG : Hid (gt f x y = f (8 * y + x).toNat) := by unfold gt; rw [hin]; exact rfl
    rw [hin] at HN
    have hix := index_px w.heap.size (8 * y + x).toNat hn
    rw [← hxy] at hix
    have HL := Lib.hid (load_px w.heap.size f (8 * y + x).toNat hn V2 HT.out)
    have HI := Lib.hid (fun W => index_any x y W h1 h2 h3 h4)
    clear hin hxy
    generalize (8 * y + x).toNat = n at *
    go_enter Tryd.func16, Tryd.ntmps16
    go_upto_region 1 with fail
    have e1 : (w.alloc (tob f)).alloc (po 0 0 0 0) = V2 := HV.out.symm
    rw [e1]
    clear e1
    go_wp2_with (first
      | (refine wpList_load_of rfl 23 _ rfl _ HL.out ?_)
      | (refine wpList_store_of rfl 23 _ _ rfl (store_px0 _ _ _ _ HR.out) ?_)
      | (go_at_call 27; (refine (HN.out _).mono ?_); rintro e V4 ⟨rfl, rfl⟩)
      | (go_at_call 28; (refine (HI.out _).mono ?_); rintro e V4 ⟨rfl, rfl⟩))
    exact bodyPost_ret (v := (f n).v) (results_cell_row rfl _ _ (w.heap.size + 1) _ _ _ _ rfl (setRow_heap _ _ _ _ _ _ HR.out) Tryd.underlying23 rfl info_px) rfl ⟨by rw [HG.out], Below.setRow HB.out (by omega) _⟩
theorem drew_eqw (w : World) : ({ heap := w.heap, tape := w.tape, drawn := w.drawn + 1, os := w.os, output := w.output } : World) = w.drew := rfl
theorem quiet_sym {P : Program} {f : FuncId} {args : Array Value} {v : Value} {w : World} (h : Calls P f args w fun e w' => e = .returned v ∧ w = w') : Calls P f args w fun e w' => e = .returned v ∧ w' = w := h.mono fun _ _ ⟨h1, h2⟩ => ⟨h1, h2.symm⟩
set_option maxRecDepth 100000 in
set_option maxHeartbeats 4000000 in
theorem set_any (f : Nat → Px) (x y : Int) (p : Px) (w : World) : Calls Tryd.prog 13 #[tv f, .int .i64 x, .int .i64 y, p.v] w fun e w' => e = .returned (tv (st f x y p)) ∧ Below w.heap.size w w' := by
  obtain ⟨V2, hV2⟩ : ∃ V2, V2 = ((w.alloc (tob f)).alloc (po p.r p.g p.b p.a)).alloc (tob z0) := ⟨_, rfl⟩
  have hs := (((St.start w).alloc (tob f)).alloc (po p.r p.g p.b p.a)).alloc (tob z0)
  simp only [World.size_alloc] at hs
  rw [← hV2] at hs
  have HS := Lib.hid hs
  have HV := Lib.hid hV2
  have HN := Lib.hid (fun V => inside_any x y V)
  have hzt := zero_tile
  clear hs hV2
  cases hin : ins x y
  · have HG : Hid (st f x y p = f) := by unfold st; rw [hin]; exact rfl
    rw [hin] at HN
    have HR := Lib.hid (HS.out.row (b := w.heap.size + 1 + 1) (o := tob z0) (by simp))
    have HL := Lib.hid (load_tile _ f V2 (HS.out.row (b := w.heap.size) (o := tob f) (by simp)))
    clear hin
    go_enter Tryd.func13, Tryd.ntmps13
    go_upto_region 1 with fail
    have e1 : ((w.alloc (tob f)).alloc (po p.r p.g p.b p.a)).alloc (tob z0) = V2 := HV.out.symm
    rw [e1]
    clear e1
    go_wp2_with (first
      | (refine wpList_load_of rfl 25 _ rfl _ HL.out ?_)
      | (refine wpList_store_of rfl 25 _ _ rfl (store_tile _ _ _ _ HR.out) ?_)
      | (go_at_call 27; (refine (HN.out _).mono ?_); rintro e V4 ⟨rfl, rfl⟩))
    exact bodyPost_ret (v := tv f) (results_cell_row rfl _ _ (w.heap.size + 1 + 1) _ _ _ _ rfl (setRow_heap _ _ _ _ _ _ HR.out) Tryd.underlying25 rfl (by rw [info_tile, tc_size])) rfl ⟨by rw [HG.out], Below.setRow HS.out.below (by omega) _⟩
  · obtain ⟨hn, hxy, h1, h2, h3, h4⟩ := ins_nat hin
    have HG : Hid (st f x y p = upd f (8 * y + x).toNat p) := by unfold st; rw [hin]; exact rfl
    rw [hin] at HN
    have hix := index_px w.heap.size (8 * y + x).toNat hn
    rw [← hxy] at hix
    have HI := Lib.hid (fun W => index_any x y W h1 h2 h3 h4)
    clear hin hxy
    generalize (8 * y + x).toNat = n at *
    go_enter Tryd.func13, Tryd.ntmps13
    go_upto_region 1 with fail
    have e1 : ((w.alloc (tob f)).alloc (po p.r p.g p.b p.a)).alloc (tob z0) = V2 := HV.out.symm
    rw [e1]
    clear e1
    go_upto_region 2 with (go_at_call 27; (refine (HN.out _).mono ?_); rintro e V4 ⟨rfl, rfl⟩)
    refine wp_region_still_tail 5 (by kernel_rfl) (by kernel_rfl) ?_
    rw [drew_eqw V2]
    have hd := (HS.out).drew
    generalize V2.drew = V3 at hd ⊢
    have HT3 := Lib.hid (hd.row (b := w.heap.size) (o := tob f) (by simp))
    obtain ⟨k0, k1, k2, k3⟩ := hd.pix (b := w.heap.size + 1) (x0 := p.r) (x1 := p.g) (x2 := p.b) (x3 := p.a) (by simp)
    have HS3 := Lib.hid (hd.sub (L' := [(w.heap.size, tob f), (w.heap.size + 1 + 1, tob z0)]) (by simp))
    clear hd
    simp only [List.take_succ_cons, List.take_zero, List.drop_succ_cons, List.drop_zero]
    iterate 2 still_step
    still_call (quiet_sym (HI.out _))
    repeat still_step
    refine wpStill_nil ?_
    go_wp2_with (first
      | (refine wpList_store_of rfl 23 _ _ rfl (store_px _ _ n p hn _ HT3.out) ?_; have h5 := St.rowset (ds := tc (upd f n p)) HS3.out (by omega) (by simp; omega); have HL5 := Lib.hid (load_tile _ _ _ (h5.row (b := w.heap.size) (o := tob (upd f n p)) (by simp))); have HR5 := Lib.hid (h5.row (b := w.heap.size + 1 + 1) (o := tob z0) (by simp)); have HB5 := Lib.hid h5.below; clear h5)
      | (refine wpList_load_of rfl 25 _ rfl _ HL5.out ?_)
      | (refine wpList_store_of rfl 25 _ _ rfl (store_tile _ _ _ _ HR5.out) ?_))
    exact bodyPost_ret (v := tv (upd f n p)) (results_cell_row rfl _ _ (w.heap.size + 1 + 1) _ _ _ _ rfl (setRow_heap _ _ _ _ _ _ HR5.out) Tryd.underlying25 rfl (by rw [info_tile, tc_size])) rfl ⟨by rw [HG.out], Below.setRow HB5.out (by omega) _⟩
end Go.Proofs.YtligojllbnahcaaDoor.T
