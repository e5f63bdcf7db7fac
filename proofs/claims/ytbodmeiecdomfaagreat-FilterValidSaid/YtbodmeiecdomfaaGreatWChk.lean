/-
  The arguments of Apply: what is admissible, well-formed, and no error.
-/
import Derived.Test.YtbodmeiecdomfaaGreatWReach
import Derived.Test.YtbodmeiecdomfaaGreatWPix
namespace Go.Proofs.YtbodmeiecdomfaaGreat.W
open Go.RowKit Go.Shelf
set_option maxRecDepth 100000
variable {W w w' : World} {L : List (Nat × Obj)}

def adm (a b c d : Int) : Bool := wi a (-1048576) 1048576 && wi b (-1048576) 1048576 && wi c (-1048576) 1048576 && wi d (-1048576) 1048576
set_option maxHeartbeats 4000000 in
theorem adm_any (q0 q1 q2 q3 : Int) (w : World) : Calls Tryz.prog 42 #[R.rv q0 q1 q2 q3] w fun e w' => e = .returned (.bool (adm q0 q1 q2 q3)) ∧ Below w.heap.size w w' := by
  have HA : Hid (adm q0 q1 q2 q3 = (wi q0 (-1048576) 1048576 && wi q1 (-1048576) 1048576 && wi q2 (-1048576) 1048576 && wi q3 (-1048576) 1048576)) := rfl
  generalize adm q0 q1 q2 q3 = z at HA ⊢
  have HIX : Hid (∀ k : Nat, k < 4 → ∃ x, x = (if k = 0 then q0 else if k = 1 then q1 else if k = 2 then q2 else q3) ∧ ∀ V, (Instr.index 95 (.agg #[.int .i64 q0, .int .i64 q1, .int .i64 q2, .int .i64 q3]) (.int .i64 k)).run Tryz.prog V = .ok (.int .i64 x) V) := by
    intro k hk
    obtain rfl | rfl | rfl | rfl : k = 0 ∨ k = 1 ∨ k = 2 ∨ k = 3 := by omega
    · exact ⟨_, rfl, fun V => by kernel_rfl⟩
    · exact ⟨_, rfl, fun V => by kernel_rfl⟩
    · exact ⟨_, rfl, fun V => by kernel_rfl⟩
    · exact ⟨_, rfl, fun V => by kernel_rfl⟩
  go_enter Tryz.func42, Tryz.ntmps42
  go_wp2
  go_loopw [14] (fun i wr => ∃ k : Nat, k ≤ 4 ∧ i = .int .i64 k ∧ Hid (∀ j, j < k → wi (if j = 0 then q0 else if j = 1 then q1 else if j = 2 then q2 else q3) (-1048576) 1048576 = true) ∧ wr = w.alloc (R.ro q0 q1 q2 q3)) (fun i _ => 4 - (intOf i).toNat)
  case atStart => exact ⟨0, by omega, rfl, fun i h => absurd h (Nat.not_lt_zero _), rfl⟩
  case round =>
    obtain ⟨k, hk, rfl, HB, rfl⟩ := hrel
    by_cases hlt : k < 4
    · obtain ⟨x, hx, hix⟩ := HIX.out k hlt
      have HX := Lib.hid hx; clear hx
      cases hq : wi x (-1048576) 1048576
      · have HQ := Lib.hid hq; clear hq
        go_wp2_with (go_at_call 19; (with_reducible refine (within_any _ _ _ _).mono ?_); rintro e w' ⟨rfl, rfl⟩; rw [HQ.out])
        go_ret
        refine ⟨ret_bool ?_, below1⟩
        have h1 := HQ.out
        rw [HX.out] at h1
        rw [HA.out]
        obtain rfl | rfl | rfl | rfl : k = 0 ∨ k = 1 ∨ k = 2 ∨ k = 3 := by omega
        all_goals simp at h1; simp [h1]
      · have HQ := Lib.hid hq; clear hq
        go_wp2_with (go_at_call 19; (with_reducible refine (within_any _ _ _ _).mono ?_); rintro e w' ⟨rfl, rfl⟩; rw [HQ.out])
        go_roundw
        case rel => exact ⟨k + 1, by omega, by go_num, fun j hj => by
          by_cases he : j = k
          · subst he; rw [← HX.out]; exact HQ.out
          · exact HB.out j (by omega), by first | rfl | trivial⟩
        case measure => simp [intOf]; omega
    · obtain rfl : k = 4 := by omega
      go_wp2
      go_ret
      refine ⟨ret_bool ?_, below1⟩
      have h0 := HB.out 0 (by omega)
      have h1 := HB.out 1 (by omega)
      have h2 := HB.out 2 (by omega)
      have h3 := HB.out 3 (by omega)
      simp at h0 h1 h2 h3
      rw [HA.out, h0, h1, h2, h3]; rfl
abbrev im0 (x0 y0 x1 y1 : Int) (P : Value) : Obj := .cells #[.int .i64 x0, .int .i64 y0, .int .i64 x1, .int .i64 y1, P] 37
set_option maxHeartbeats 4000000 in
theorem form_any (q0 q1 q2 q3 : Int) (p : Option Addr) (n c : Nat) (w : World) (ha : adm q0 q1 q2 q3 = true) (hn : R.area q0 q1 q2 q3 = n) : Calls Tryz.prog 41 #[imv q0 q1 q2 q3 (.slice p n c)] w fun e w' => e = .returned (.bool true) ∧ Below w.heap.size w w' := by
  have HA : Hid (∀ V, Calls Tryz.prog 42 #[R.rv q0 q1 q2 q3] V fun e w' => e = .returned (.bool true) ∧ Below V.heap.size V w') := fun V => ha ▸ adm_any q0 q1 q2 q3 V
  have HR : Hid (∀ V, Calls Tryz.prog 28 #[R.rv q0 q1 q2 q3] V fun e w' => e = .returned (.int .i64 n) ∧ Below V.heap.size V w') := fun V => hn ▸ R.area_any q0 q1 q2 q3 V
  clear ha hn
  go_enter Tryz.func41, Tryz.ntmps41
  go_upto_region 1 with fail
  have hs := (St.start w).alloc (im0 q0 q1 q2 q3 (.slice p n c))
  generalize w.alloc (im0 q0 q1 q2 q3 (.slice p n c)) = w1 at hs ⊢
  have HC : Hid (∀ V, St w [(w.heap.size, im0 q0 q1 q2 q3 (.slice p n c))] V → St w [(w.heap.size, im0 q0 q1 q2 q3 (.slice p n c))] V ∧ (V.cell? ⟨w.heap.size, 0, none⟩ = some (.int .i64 q0) ∧ V.cell? ⟨w.heap.size, 1, none⟩ = some (.int .i64 q1) ∧ V.cell? ⟨w.heap.size, 2, none⟩ = some (.int .i64 q2) ∧ V.cell? ⟨w.heap.size, 3, none⟩ = some (.int .i64 q3)) ∧ V.cell? ⟨w.heap.size, 4, none⟩ = some (.slice p n c)) := fun V h => by
    have hr := h.row (b := w.heap.size) (o := im0 q0 q1 q2 q3 (.slice p n c)) (by simp)
    exact ⟨h, ⟨cell_of_row _ _ 0 _ _ _ hr, cell_of_row _ _ 1 _ _ _ hr, cell_of_row _ _ 2 _ _ _ hr, cell_of_row _ _ 3 _ _ _ hr⟩, cell_of_row _ _ 4 _ _ _ hr⟩
  have hd := hs.drew
  obtain ⟨_, ⟨c0, c1, c2, c3⟩, c4⟩ := HC.out _ hs
  go_region_held3 (fun V => St w [(w.heap.size, im0 q0 q1 q2 q3 (.slice p n c))] V ∧ (V.cell? ⟨w.heap.size, 0, none⟩ = some (.int .i64 q0) ∧ V.cell? ⟨w.heap.size, 1, none⟩ = some (.int .i64 q1) ∧ V.cell? ⟨w.heap.size, 2, none⟩ = some (.int .i64 q2) ∧ V.cell? ⟨w.heap.size, 3, none⟩ = some (.int .i64 q3)) ∧ V.cell? ⟨w.heap.size, 4, none⟩ = some (.slice p n c)) (exact HC.out _ (by assumption)) (first
    | (go_at_call 42; (with_reducible refine (St.call (W := w) (L := [(w.heap.size, im0 q0 q1 q2 q3 (.slice p n c))]) ?_ (HA.out _)).mono ?_); (focus assumption); rintro e w4 ⟨rfl, h4⟩)
    | (go_at_call 28; (with_reducible refine (St.call (W := w) (L := [(w.heap.size, im0 q0 q1 q2 q3 (.slice p n c))]) ?_ (HR.out _)).mono ?_); (focus assumption); rintro e w5 ⟨rfl, h5⟩))
  all_goals go_wp2_with fail
  all_goals go_ret
  all_goals exact ⟨by simp, St.below (by assumption)⟩
/-- a filter in memory -/
abbrev fo (k r : Int) (K : Value) (d v : Int) (C : Value) : Obj := .cells #[.int .i64 k, .int .i64 r, K, .int .i64 d, .int .i64 v, C] 25
set_option maxHeartbeats 4000000 in
theorem need_any (k r d v q0 q1 q2 q3 : Int) (ks cs : List Int) (K C : Value) (w : World) (hK : Cm w K ks) (hC : Cm w C cs) : Calls Tryz.prog 15 #[fv k r K d v C, R.rv q0 q1 q2 q3] w fun e w' => e = .returned (rch (-1) (vf k r ks d v cs) k r v q0 q1 q2 q3).v ∧ Below w.heap.size w w' := by
  have HR : Hid (∀ V, Below w.heap.size w V → Calls Tryz.prog 31 #[fv k r K d v C, R.rv q0 q1 q2 q3, .int .i64 (-1)] V fun e w' => e = .returned (rch (-1) (vf k r ks d v cs) k r v q0 q1 q2 q3).v ∧ Below V.heap.size V w') := fun V h => reach_any k r d v q0 q1 q2 q3 (-1) ks cs K C V (hK.later h) (hC.later h)
  generalize rch (-1) (vf k r ks d v cs) k r v q0 q1 q2 q3 = z at HR ⊢
  clear hK hC
  go_enter Tryz.func15, Tryz.ntmps15
  go_wp2_with (go_at_call 31; (with_reducible refine (bcall (w0 := w) ?_ (HR.out _ R.below3)).mono ?_); (focus with_reducible exact R.below3); rintro e w2 ⟨rfl, hb2, hb2'⟩; obtain ⟨hc2, hf2⟩ := bcell hb2'; have hy2 : w.heap.size + 2 < w2.heap.size := (by have := hb2'.size; (try simp at this); omega))
  exact bodyPost_ret (v := z.v) (by simp [results, Tryz.results15, go_sem, *]) rfl ⟨rfl, by exact R.below_set4 (by assumption) (by omega) _ _ _ _⟩
set_option maxHeartbeats 8000000 in
theorem check_ok (k r d v x0 y0 x1 y1 q0 q1 q2 q3 : Int) (ks cs : List Int) (K C : Value) (p : Option Addr) (n c : Nat) (w : World) (hK : Cm w K ks) (hC : Cm w C cs) (hv : vf k r ks d v cs = true) (ha : adm x0 y0 x1 y1 = true) (hn : R.area x0 y0 x1 y1 = n) (hq : adm q0 q1 q2 q3 = true)
    (hz : R.area q0 q1 q2 q3 ≤ 262144) (hin : R.ins (rch (-1) true k r v q0 q1 q2 q3).x0 (rch (-1) true k r v q0 q1 q2 q3).y0 (rch (-1) true k r v q0 q1 q2 q3).x1 (rch (-1) true k r v q0 q1 q2 q3).y1 x0 y0 x1 y1 = true) :
    Calls Tryz.prog 26 #[fv k r K d v C, imv x0 y0 x1 y1 (.slice p n c), R.rv q0 q1 q2 q3] w fun e w' => e = .returned (.int .i64 0) ∧ Below w.heap.size w w' := by
  have HV : Hid (∀ V, Below w.heap.size w V → Calls Tryz.prog 7 #[fv k r K d v C] V fun e w' => e = .returned (.bool true) ∧ Below V.heap.size V w') := fun V h => hv ▸ fvalid_any k r d v ks cs K C V (hK.later h) (hC.later h)
  have HF : Hid (∀ V, Calls Tryz.prog 41 #[imv x0 y0 x1 y1 (.slice p n c)] V fun e w' => e = .returned (.bool true) ∧ Below V.heap.size V w') := fun V => form_any x0 y0 x1 y1 p n c V ha hn
  have HA : Hid (∀ V, Calls Tryz.prog 42 #[R.rv q0 q1 q2 q3] V fun e w' => e = .returned (.bool true) ∧ Below V.heap.size V w') := fun V => hq ▸ adm_any q0 q1 q2 q3 V
  have HR : Hid (∀ V, Calls Tryz.prog 28 #[R.rv q0 q1 q2 q3] V fun e w' => e = .returned (.int .i64 (R.area q0 q1 q2 q3)) ∧ Below V.heap.size V w') := fun V => R.area_any q0 q1 q2 q3 V
  have HN : Hid (∀ V, Below w.heap.size w V → Calls Tryz.prog 15 #[fv k r K d v C, R.rv q0 q1 q2 q3] V fun e w' => e = .returned (rch (-1) true k r v q0 q1 q2 q3).v ∧ Below V.heap.size V w') := fun V h => hv ▸ need_any k r d v q0 q1 q2 q3 ks cs K C V (hK.later h) (hC.later h)
  generalize rch (-1) true k r v q0 q1 q2 q3 = z at HN hin
  have HI : Hid (∀ V, Calls Tryz.prog 43 #[z.v, R.rv x0 y0 x1 y1] V fun e w' => e = .returned (.bool true) ∧ Below V.heap.size V w') := fun V => hin ▸ R.inside_any _ _ _ _ x0 y0 x1 y1 V
  generalize R.area q0 q1 q2 q3 = ar at HR hz
  clear hK hC hv ha hn hq hin
  go_enter Tryz.func26, Tryz.ntmps26
  go_upto_region 1 with fail
  have hs := (((St.start w).alloc (fo k r K d v C)).alloc (im0 x0 y0 x1 y1 (.slice p n c))).alloc (R.ro q0 q1 q2 q3)
  simp only [World.size_alloc] at hs
  generalize ((w.alloc (fo k r K d v C)).alloc (im0 x0 y0 x1 y1 (.slice p n c))).alloc (R.ro q0 q1 q2 q3) = w1 at hs ⊢
  obtain ⟨L, hL⟩ : ∃ L, L = [(w.heap.size + 1 + 1, R.ro q0 q1 q2 q3), (w.heap.size + 1, im0 x0 y0 x1 y1 (.slice p n c)), (w.heap.size, fo k r K d v C)] := ⟨_, rfl⟩
  rw [← hL] at hs
  have HC : Hid (∀ V, St w L V → St w L V ∧ Below w.heap.size w V ∧ (V.cell? ⟨w.heap.size, 0, none⟩ = some (.int .i64 k) ∧ V.cell? ⟨w.heap.size, 1, none⟩ = some (.int .i64 r) ∧ V.cell? ⟨w.heap.size, 2, none⟩ = some K ∧ V.cell? ⟨w.heap.size, 3, none⟩ = some (.int .i64 d) ∧ V.cell? ⟨w.heap.size, 4, none⟩ = some (.int .i64 v) ∧ V.cell? ⟨w.heap.size, 5, none⟩ = some C) ∧
      (V.cell? ⟨w.heap.size + 1, 0, none⟩ = some (.int .i64 x0) ∧ V.cell? ⟨w.heap.size + 1, 1, none⟩ = some (.int .i64 y0) ∧ V.cell? ⟨w.heap.size + 1, 2, none⟩ = some (.int .i64 x1) ∧ V.cell? ⟨w.heap.size + 1, 3, none⟩ = some (.int .i64 y1) ∧ V.cell? ⟨w.heap.size + 1, 4, none⟩ = some (.slice p n c)) ∧
      (V.cell? ⟨w.heap.size + 1 + 1, 0, none⟩ = some (.int .i64 q0) ∧ V.cell? ⟨w.heap.size + 1 + 1, 1, none⟩ = some (.int .i64 q1) ∧ V.cell? ⟨w.heap.size + 1 + 1, 2, none⟩ = some (.int .i64 q2) ∧ V.cell? ⟨w.heap.size + 1 + 1, 3, none⟩ = some (.int .i64 q3))) := fun V h => by
    subst hL
    have hr := h.row (b := w.heap.size) (o := fo k r K d v C) (by simp)
    have hr1 := h.row (b := w.heap.size + 1) (o := im0 x0 y0 x1 y1 (.slice p n c)) (by simp)
    have hr2 := h.row (b := w.heap.size + 1 + 1) (o := R.ro q0 q1 q2 q3) (by simp)
    exact ⟨h, h.below, ⟨cell_of_row _ _ 0 _ _ _ hr, cell_of_row _ _ 1 _ _ _ hr, cell_of_row _ _ 2 _ _ _ hr, cell_of_row _ _ 3 _ _ _ hr, cell_of_row _ _ 4 _ _ _ hr, cell_of_row _ _ 5 _ _ _ hr⟩, ⟨cell_of_row _ _ 0 _ _ _ hr1, cell_of_row _ _ 1 _ _ _ hr1, cell_of_row _ _ 2 _ _ _ hr1, cell_of_row _ _ 3 _ _ _ hr1, cell_of_row _ _ 4 _ _ _ hr1⟩, ⟨cell_of_row _ _ 0 _ _ _ hr2, cell_of_row _ _ 1 _ _ _ hr2, cell_of_row _ _ 2 _ _ _ hr2, cell_of_row _ _ 3 _ _ _ hr2⟩⟩
  clear hL
  obtain ⟨_, hb, ⟨a0, a1, a2, a3, a4, a5⟩, ⟨b0, b1, b2, b3, b4⟩, ⟨c0, c1, c2, c3⟩⟩ := HC.out _ hs
  go_upto_region 5 with (first
    | (go_at_call 7; (with_reducible refine (St.call (W := w) (L := L) (by assumption) (HV.out _ (by assumption))).mono ?_); rintro e w2 ⟨rfl, h2⟩; obtain ⟨_, hb2, ⟨a0, a1, a2, a3, a4, a5⟩, ⟨b0, b1, b2, b3, b4⟩, ⟨c0, c1, c2, c3⟩⟩ := HC.out _ h2)
    | (go_at_call 41; (with_reducible refine (St.call (W := w) (L := L) (by assumption) (HF.out _)).mono ?_); rintro e w3 ⟨rfl, h3⟩; obtain ⟨_, hb3, ⟨a0, a1, a2, a3, a4, a5⟩, ⟨b0, b1, b2, b3, b4⟩, ⟨c0, c1, c2, c3⟩⟩ := HC.out _ h3)
    | (go_at_call 42; (with_reducible refine (St.call (W := w) (L := L) (by assumption) (HA.out _)).mono ?_); rintro e w4 ⟨rfl, h4⟩; obtain ⟨_, hb4, ⟨a0, a1, a2, a3, a4, a5⟩, ⟨b0, b1, b2, b3, b4⟩, ⟨c0, c1, c2, c3⟩⟩ := HC.out _ h4)
    | (go_at_call 28; (with_reducible refine (St.call (W := w) (L := L) (by assumption) (HR.out _)).mono ?_); rintro e w5 ⟨rfl, h5⟩; obtain ⟨_, hb5, ⟨a0, a1, a2, a3, a4, a5⟩, ⟨b0, b1, b2, b3, b4⟩, ⟨c0, c1, c2, c3⟩⟩ := HC.out _ h5))
  have hd := h5.drew
  clear hs h2 h3 h4
  obtain ⟨_, hbd, _⟩ := HC.out _ hd
  go_region_held3 (fun V => St w L V ∧ Below w.heap.size w V ∧ (V.cell? ⟨w.heap.size, 0, none⟩ = some (.int .i64 k) ∧ V.cell? ⟨w.heap.size, 1, none⟩ = some (.int .i64 r) ∧ V.cell? ⟨w.heap.size, 2, none⟩ = some K ∧ V.cell? ⟨w.heap.size, 3, none⟩ = some (.int .i64 d) ∧ V.cell? ⟨w.heap.size, 4, none⟩ = some (.int .i64 v) ∧ V.cell? ⟨w.heap.size, 5, none⟩ = some C) ∧ (V.cell? ⟨w.heap.size + 1, 0, none⟩ = some (.int .i64 x0) ∧ V.cell? ⟨w.heap.size + 1, 1, none⟩ = some (.int .i64 y0) ∧ V.cell? ⟨w.heap.size + 1, 2, none⟩ = some (.int .i64 x1) ∧ V.cell? ⟨w.heap.size + 1, 3, none⟩ = some (.int .i64 y1) ∧ V.cell? ⟨w.heap.size + 1, 4, none⟩ = some (.slice p n c)) ∧ (V.cell? ⟨w.heap.size + 1 + 1, 0, none⟩ = some (.int .i64 q0) ∧ V.cell? ⟨w.heap.size + 1 + 1, 1, none⟩ = some (.int .i64 q1) ∧ V.cell? ⟨w.heap.size + 1 + 1, 2, none⟩ = some (.int .i64 q2) ∧ V.cell? ⟨w.heap.size + 1 + 1, 3, none⟩ = some (.int .i64 q3))) (exact HC.out _ (by assumption)) (first
    | (go_at_call 15; (with_reducible refine (St.call (W := w) (L := L) (by assumption) (HN.out _ (HC.out _ (by assumption)).2.1)).mono ?_); rintro e w6 ⟨rfl, h6⟩)
    | (go_at_call 43; (with_reducible refine (St.call (W := w) (L := L) (by assumption) (HI.out _)).mono ?_); rintro e w7 ⟨rfl, h7⟩))
  all_goals go_wp2_with fail
  all_goals go_ret
  all_goals exact ⟨rfl, St.below (by assumption)⟩
end Go.Proofs.YtbodmeiecdomfaaGreat.W
