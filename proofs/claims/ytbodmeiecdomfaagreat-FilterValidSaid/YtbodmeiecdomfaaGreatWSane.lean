/-
  The laws' sanity.
-/
import Derived.Test.YtbodmeiecdomfaaGreatWSn6
namespace Go.Proofs.YtbodmeiecdomfaaGreat.W
open Go.RowKit Go.Shelf
set_option maxRecDepth 100000
attribute [local go_sem] run_store_func run_store_nilFunc
variable {W w w' : World}

theorem one_any (x y : Int) (w : World) (hx : -1000000000 ≤ x ∧ x ≤ 1000000000) (hy : -1000000000 ≤ y ∧ y ≤ 1000000000) : Calls Tryz.prog 14 #[.int .i64 x, .int .i64 y] w fun e w' => e = .returned (R.rv x y (x + 1) (y + 1)) ∧ Below w.heap.size w w' := by
  go_enter Tryz.func14, Tryz.ntmps14
  go_wp2
  exact bodyPost_ret (v := R.rv x y (x + 1) (y + 1)) (by simp [results, Tryz.results14, go_sem, *]) rfl ⟨rfl, by first | exact below1 | exact R.below_set4 below1 (by omega) _ _ _ _⟩
theorem infoInt : (Tryz.prog.info? 3).map (fun i => (i.zero, i.size, i.bytes)) = some (some (.int .i64 0), 1, 8) := by kernel_rfl
/-- the pixels of the first image -/
def ps9 : List Px := [zp, zp, zp, zp, ⟨255, 255, 255, 255⟩, zp, zp, zp, zp]
def z36 : Array Value := Array.replicate 36 (.int .u8 0)
theorem made36 : madeCells (Value.cells (pv 0 0 0 0)) (9 * 4) = z36 := by kernel_rfl
theorem pm9 {w : World} {b : Nat} (h : w.heap[b]? = some (.cells ((((z36.setIfInBounds 16 (.int .u8 255)).setIfInBounds 17 (.int .u8 255)).setIfInBounds 18 (.int .u8 255)).setIfInBounds 19 (.int .u8 255)) 39)) : PM w (.slice (some ⟨b, 0, none⟩) 9 9) ps9 := by
  refine ⟨_, 9, rfl, by decide, by decide, fun _ => ⟨b, 0, rfl, (Array.getElem?_eq_some_iff.1 h).1, fun i hi => ?_⟩⟩
  have hc := fun j => cell_of_row _ _ j _ _ _ h
  have hi9 : i < 9 := hi
  rcases (by omega : i = 0 ∨ i = 1 ∨ i = 2 ∨ i = 3 ∨ i = 4 ∨ i = 5 ∨ i = 6 ∨ i = 7 ∨ i = 8) with rfl | rfl | rfl | rfl | rfl | rfl | rfl | rfl | rfl
  all_goals exact ⟨(hc _).trans rfl, (hc _).trans rfl, (hc _).trans rfl, (hc _).trans rfl⟩
def ks9 : List Int := [1, 1, 1, 1, 1, 1, 1, 1, 1]
theorem cm9 {w : World} {b : Nat} (h : w.heap[b]? = some (.cells #[.int .i64 1, .int .i64 1, .int .i64 1, .int .i64 1, .int .i64 1, .int .i64 1, .int .i64 1, .int .i64 1, .int .i64 1] 3)) : Cm w (.slice (some ⟨b, 0, none⟩) 9 9) ks9 := by
  refine ⟨_, 9, rfl, by decide, by decide, fun _ => ⟨b, 0, rfl, (Array.getElem?_eq_some_iff.1 h).1, fun i hi => ?_⟩⟩
  have hc := fun j => cell_of_row _ _ j _ _ _ h
  have hi9 : i < 9 := hi
  rcases (by omega : i = 0 ∨ i = 1 ∨ i = 2 ∨ i = 3 ∨ i = 4 ∨ i = 5 ∨ i = 6 ∨ i = 7 ∨ i = 8) with rfl | rfl | rfl | rfl | rfl | rfl | rfl | rfl | rfl
  all_goals exact (hc _).trans rfl
theorem ps9_pc (i : Nat) : Pc (pg ps9 i) := by
  by_cases h : i < 9
  · rcases (by omega : i = 0 ∨ i = 1 ∨ i = 2 ∨ i = 3 ∨ i = 4 ∨ i = 5 ∨ i = 6 ∨ i = 7 ∨ i = 8) with rfl | rfl | rfl | rfl | rfl | rfl | rfl | rfl | rfl
    all_goals exact ⟨⟨by decide, by decide⟩, ⟨by decide, by decide⟩, ⟨by decide, by decide⟩, ⟨by decide, by decide⟩⟩
  · have : pg ps9 i = zp := by simp [pg, List.getD, ps9, List.getElem?_eq_none, h]
    rw [this]; exact zp_pc
theorem one_mem {w : World} {b : Nat} {p : Px} {l : List Px} (h : PM w (.slice (some ⟨b, 0, none⟩) 1 1) l) (hl : l = [p]) : PB w b 0 p := by
  subst hl
  obtain ⟨q, cap, h1, h2, h3, h4⟩ := h
  obtain ⟨b', off, h5, h6⟩ := h4 (by simp)
  simp at h1
  obtain ⟨rfl, rfl⟩ := h1
  cases h5
  exact h6.at' 0 (by simp)
theorem rv_of {a b c d : Int} {q : R.Rc} (h : q = ⟨a, b, c, d⟩) : q.x0 = a ∧ q.y0 = b ∧ q.x1 = c ∧ q.y1 = d := by subst h; exact ⟨rfl, rfl, rfl, rfl⟩
theorem cov1 : cov 0 0 1 = ⟨-1, -1, 2, 2⟩ := by kernel_rfl
theorem wnd1 : Wnd (-1) (-1) 2 2 ps9 0 0 1 9 3 where
  dpos := by decide
  dmax := by decide
  wide := by kernel_rfl
  xlo := by rw [cov1]; decide
  xhi := by rw [cov1]; decide
  ylo := by rw [cov1]; decide
  yhi := by rw [cov1]; decide
  nmax := by decide
  area := by kernel_rfl
  plc := fun i hi => by
    rw [cov1]
    rcases (by omega : i = 0 ∨ i = 1 ∨ i = 2 ∨ i = 3 ∨ i = 4 ∨ i = 5 ∨ i = 6 ∨ i = 7 ∨ i = 8) with rfl | rfl | rfl | rfl | rfl | rfl | rfl | rfl | rfl
    all_goals exact ⟨by decide, by decide, by decide, by decide, by decide, by decide⟩
theorem fit1 : Fit (-1) (-1) 2 2 0 0 1 1 9 1 1 := ⟨by kernel_rfl, by kernel_rfl, by kernel_rfl, by kernel_rfl, by decide, by kernel_rfl, by decide, by decide⟩
theorem out1 : cln (cpx (cst ks9 (wpx (-1) (-1) 2 ps9 0 0 1 3) 9) 9) = ⟨255, 255, 255, 28⟩ := by kernel_rfl
set_option maxHeartbeats 4000000 in
theorem app1 {k b : Nat} (w : World) (hk : w.heap[k]? = some (.cells #[.int .i64 1, .int .i64 1, .int .i64 1, .int .i64 1, .int .i64 1, .int .i64 1, .int .i64 1, .int .i64 1, .int .i64 1] 3)) (hb : PM w (.slice (some ⟨b, 0, none⟩) 9 9) ps9) :
    Calls Tryz.prog 13 #[fv 1 1 (.slice (some ⟨k, 0, none⟩) 9 9) 9 0 (.slice none 0 0), imv (-1) (-1) 2 2 (.slice (some ⟨b, 0, none⟩) 9 9), R.rv 0 0 (0 + 1) (0 + 1)] w fun e w' => ∃ v, e = .returned v ∧ Below w.heap.size w w' ∧ Two1 0 0 ⟨255, 255, 255, 28⟩ v w' := by
  refine (apply_conv 1 9 0 (-1) (-1) 2 2 0 0 1 1 ks9 [] _ _ _ 9 9 1 1 9 3 ps9 w (cm9 hk) (cm_nil w) hb ps9_pc (by kernel_rfl) fit1 (by kernel_rfl) rfl (fun i hi => ?_)).mono ?_
  · obtain rfl : i = 0 := by omega
    exact wnd1
  · rintro e w' ⟨b', rfl, _, hpm, hbl⟩
    exact ⟨_, rfl, hbl, b', rfl, one_mem hpm (congrArg (fun z => [z]) out1)⟩
theorem fit2 : Fit 5 5 6 6 5 5 6 6 1 1 1 := ⟨by kernel_rfl, by kernel_rfl, by kernel_rfl, by kernel_rfl, by decide, by kernel_rfl, by decide, by decide⟩
theorem pm1 {w : World} {b : Nat} {p : Px} (h : PB w b 0 p) : PM w (.slice (some ⟨b, 0, none⟩) 1 1) [p] := by
  have hlt : b < w.heap.size := by
    rcases Nat.lt_or_ge b w.heap.size with h' | h'
    · exact h'
    · have h0 := h.1; unfold World.cell? at h0; simp [Array.getElem?_eq_none h'] at h0
  exact ⟨_, 1, rfl, by simp, by decide, fun _ => ⟨b, 0, rfl, hlt, fun i hi => by
    obtain rfl : i = 0 := by simpa using hi
    exact h⟩⟩
set_option maxHeartbeats 4000000 in
theorem app2 {b : Nat} (w : World) (hb : PB w b 0 ⟨200, 100, 90, 255⟩) :
    Calls Tryz.prog 13 #[fv 7 0 (.slice none 0 0) 0 128 (.slice none 0 0), imv 5 5 (5 + 1) (5 + 1) (.slice (some ⟨b, 0, none⟩) 1 1), R.rv 5 5 (5 + 1) (5 + 1)] w fun e w' => ∃ v, e = .returned v ∧ Below w.heap.size w w' ∧ Two1 5 5 ⟨255, 255, 255, 255⟩ v w' := by
  refine (apply_thr 0 0 128 5 5 6 6 5 5 6 6 [] [] _ _ _ 1 1 1 1 [⟨200, 100, 90, 255⟩] w (cm_nil w) (cm_nil w) (pm1 hb) (fun i => ?_) (by kernel_rfl) fit2 (by kernel_rfl) (fun i hi => ?_)).mono ?_
  · cases i with
    | zero => exact ⟨⟨by decide, by decide⟩, ⟨by decide, by decide⟩, ⟨by decide, by decide⟩, ⟨by decide, by decide⟩⟩
    | succ i => exact zp_pc
  · obtain rfl : i = 0 := by omega
    exact ⟨by decide, by decide, by decide, by decide, by decide, by decide⟩
  · rintro e w' ⟨b', rfl, _, hpm, hbl⟩
    exact ⟨_, rfl, hbl, b', rfl, one_mem hpm rfl⟩
theorem ld_fo {b : Nat} {k r d v : Int} {K C : Value} (h : w.heap[b]? = some (fo k r K d v C)) : (Instr.loadAt 25 (.pointer (some ⟨b, 0, none⟩))).run Tryz.prog w = .ok (fv k r K d v C) w := by
  have c := fun j => cell_of_row _ _ j _ _ _ h
  have c0 := c 0; have c1 := c 1; have c2 := c 2; have c3 := c 3; have c4 := c 4; have c5 := c 5
  simp at c0 c1 c2 c3 c4 c5
  simp [Instr.loadAt, Instr.sureAddr, loadVar, go_sem, c0, c1, c2, c3, c4, c5]
theorem ld_im {b : Nat} {x0 y0 x1 y1 : Int} {P : Value} (h : w.heap[b]? = some (im0 x0 y0 x1 y1 P)) : (Instr.loadAt 37 (.pointer (some ⟨b, 0, none⟩))).run Tryz.prog w = .ok (imv x0 y0 x1 y1 P) w := by
  obtain ⟨c0, c1, c2, c3, c4⟩ := im_of h
  simp [Instr.loadAt, Instr.sureAddr, loadVar, go_sem, c0, c1, c2, c3, c4]
theorem st9 {b : Nat} {L : List (Nat × Obj)} (h : St W L w) (hb : W.heap.size ≤ b) (hr : w.heap[b]? = some (.cells z36 39)) (hL : ∀ x ∈ L, x.1 ≠ b) :
    St W L ((((w.setCell ⟨b, 16, none⟩ (.int .u8 255)).setCell ⟨b, 17, none⟩ (.int .u8 255)).setCell ⟨b, 18, none⟩ (.int .u8 255)).setCell ⟨b, 19, none⟩ (.int .u8 255)) ∧ PM ((((w.setCell ⟨b, 16, none⟩ (.int .u8 255)).setCell ⟨b, 17, none⟩ (.int .u8 255)).setCell ⟨b, 18, none⟩ (.int .u8 255)).setCell ⟨b, 19, none⟩ (.int .u8 255)) (.slice (some ⟨b, 0, none⟩) 9 9) ps9 :=
  ⟨(((h.set hb hL).set hb hL).set hb hL).set hb hL, pm9 (set_row (set_row (set_row (set_row hr))))⟩
set_option maxHeartbeats 16000000 in
theorem sane_any (w : World) : Calls Tryz.prog 4 #[] w fun e w' => e = .returned (.bool true) ∧ Below w.heap.size w w' := by
  obtain ⟨ii, hi0, hi1, hi2, hi3⟩ := infoOf infoInt
  have HM9 : Hid (∀ V : World, (Instr.makeSlice 35 (.int .i64 9) (.int .i64 9)).run Tryz.prog V = .ok (.slice (some ⟨V.heap.size, 0, none⟩) 9 9) (V.alloc (.cells z36 39))) := fun V => by
    obtain ⟨i, hi, hz0, hz1, hz2⟩ := infoOf infoPx
    have h := run_make (P := Tryz.prog) V 35 39 i _ Tryz.underlying35 hi hz0 .i64 .i64 9 9 (by omega) (Int.le_refl _) (by rw [hz2]; omega) (by omega)
    rw [hz1] at h
    rw [h]
    show Result.ok _ (V.alloc (.cells (madeCells (Value.cells (pv 0 0 0 0)) (9 * 4)) _)) = _
    rw [made36]; rfl
  go_enter Tryz.func4, Tryz.ntmps4
  go_upto_region 2 with fail
  have h1 := (St.start w).alloc (fo 2 2 (.slice none 0 0) 0 0 (.slice none 0 0))
  have z1 : (w.alloc (fo 2 2 (.slice none 0 0) 0 0 (.slice none 0 0))).heap.size = w.heap.size + 1 := by simp
  generalize w.alloc (fo 2 2 (.slice none 0 0) 0 0 (.slice none 0 0)) = w1 at h1 z1 ⊢
  go_upto_region 3 with (refine wpList_buildSlice rfl 22 3 9 _ rfl #[.int .i64 1, .int .i64 1, .int .i64 1, .int .i64 1, .int .i64 1, .int .i64 1, .int .i64 1, .int .i64 1, .int .i64 1] ii _ Tryz.underlying22 hi0 hi1 (by rw [hi2]; omega) (by rw [hi2]; omega) (by simp only [hi2]; kernel_rfl) ?_)
  have h3 := (h1.alloc (.cells #[.int .i64 1, .int .i64 1, .int .i64 1, .int .i64 1, .int .i64 1, .int .i64 1, .int .i64 1, .int .i64 1, .int .i64 1] 3)).alloc (fo 1 1 (.slice (some ⟨w.heap.size + 1, 0, none⟩) 9 9) 9 0 (.slice none 0 0))
  simp only [World.size_alloc, z1] at h3
  have z3 : ((w1.alloc (.cells #[.int .i64 1, .int .i64 1, .int .i64 1, .int .i64 1, .int .i64 1, .int .i64 1, .int .i64 1, .int .i64 1, .int .i64 1] 3)).alloc (fo 1 1 (.slice (some ⟨w.heap.size + 1, 0, none⟩) 9 9) 9 0 (.slice none 0 0))).heap.size = w.heap.size + 3 := by simp [z1]
  generalize (w1.alloc (.cells #[.int .i64 1, .int .i64 1, .int .i64 1, .int .i64 1, .int .i64 1, .int .i64 1, .int .i64 1, .int .i64 1, .int .i64 1] 3)).alloc (fo 1 1 (.slice (some ⟨w.heap.size + 1, 0, none⟩) 9 9) 9 0 (.slice none 0 0)) = w3 at h3 z3 ⊢
  clear h1 z1
  go_upto_region 4 with fail
  have h4 := h3.alloc (fo 7 0 (.slice none 0 0) 0 128 (.slice none 0 0))
  rw [z3] at h4
  have z4 : (w3.alloc (fo 7 0 (.slice none 0 0) 0 128 (.slice none 0 0))).heap.size = w.heap.size + 4 := by simp [z3]
  generalize w3.alloc (fo 7 0 (.slice none 0 0) 0 128 (.slice none 0 0)) = w4 at h4 z4 ⊢
  clear h3 z3
  go_upto_region 5 with (at_make; refine wpList_make rfl (.const (.int .i64 9)) (.const (.int .i64 9)) 35 rfl _ _ rfl rfl _ (HM9.out _) ?_)
  have h6 := (h4.alloc (.cells z36 39)).alloc (im0 (-1) (-1) 2 2 (.slice (some ⟨w.heap.size + 4, 0, none⟩) 9 9))
  simp only [World.size_alloc, z4] at h6
  have z6 : ((w4.alloc (.cells z36 39)).alloc (im0 (-1) (-1) 2 2 (.slice (some ⟨w.heap.size + 4, 0, none⟩) 9 9))).heap.size = w.heap.size + 6 := by simp [z4]
  generalize (w4.alloc (.cells z36 39)).alloc (im0 (-1) (-1) 2 2 (.slice (some ⟨w.heap.size + 4, 0, none⟩) 9 9)) = w6 at h6 z6 ⊢
  have rp := h6.row (b := w.heap.size + 4) (o := .cells z36 39) (by simp)
  obtain ⟨_, _, _, _, i4⟩ := im_of (h6.row (b := w.heap.size + 4 + 1) (o := im0 (-1) (-1) 2 2 (.slice (some ⟨w.heap.size + 4, 0, none⟩) 9 9)) (by simp))
  obtain ⟨c0, c1, c2, c3⟩ : w6.cell? ⟨w.heap.size + 4, 16, none⟩ = some (.int .u8 0) ∧ w6.cell? ⟨w.heap.size + 4, 17, none⟩ = some (.int .u8 0) ∧ w6.cell? ⟨w.heap.size + 4, 18, none⟩ = some (.int .u8 0) ∧ w6.cell? ⟨w.heap.size + 4, 19, none⟩ = some (.int .u8 0) := ⟨cell_of_row _ _ 16 _ _ _ rp, cell_of_row _ _ 17 _ _ _ rp, cell_of_row _ _ 18 _ _ _ rp, cell_of_row _ _ 19 _ _ _ rp⟩
  have hf := fun j => frozen_of_row _ _ j _ _ rp
  have HRP := Lib.hid rp; clear rp
  have H6 := Lib.hid h6; clear h6 h4
  go_upto_region 6 with fail
  obtain ⟨h7, pm7⟩ := st9 (W := w) (w := w6) (b := w.heap.size + 4) (L := [(w.heap.size + 4 + 1, im0 (-1) (-1) 2 2 (.slice (some ⟨w.heap.size + 4, 0, none⟩) 9 9)), (w.heap.size + 3, fo 7 0 (.slice none 0 0) 0 128 (.slice none 0 0)), (w.heap.size + 1 + 1, fo 1 1 (.slice (some ⟨w.heap.size + 1, 0, none⟩) 9 9) 9 0 (.slice none 0 0)), (w.heap.size + 1, .cells #[.int .i64 1, .int .i64 1, .int .i64 1, .int .i64 1, .int .i64 1, .int .i64 1, .int .i64 1, .int .i64 1, .int .i64 1] 3), (w.heap.size, fo 2 2 (.slice none 0 0) 0 0 (.slice none 0 0))])
    (H6.out.sub (by intro x hx; simp only [List.mem_cons, List.not_mem_nil, or_false] at hx ⊢; rcases hx with rfl | rfl | rfl | rfl | rfl <;> simp)) (by omega) HRP.out
    (by intro x hx; simp only [List.mem_cons, List.not_mem_nil, or_false] at hx; rcases hx with rfl | rfl | rfl | rfl | rfl <;> (dsimp only; omega))
  have z7 : ((((w6.setCell ⟨w.heap.size + 4, 16, none⟩ (.int .u8 255)).setCell ⟨w.heap.size + 4, 17, none⟩ (.int .u8 255)).setCell ⟨w.heap.size + 4, 18, none⟩ (.int .u8 255)).setCell ⟨w.heap.size + 4, 19, none⟩ (.int .u8 255)).heap.size = w.heap.size + 6 := by simp [World.setCell, z6]
  generalize (((w6.setCell ⟨w.heap.size + 4, 16, none⟩ (.int .u8 255)).setCell ⟨w.heap.size + 4, 17, none⟩ (.int .u8 255)).setCell ⟨w.heap.size + 4, 18, none⟩ (.int .u8 255)).setCell ⟨w.heap.size + 4, 19, none⟩ (.int .u8 255) = w7 at h7 pm7 z7 ⊢
  clear H6 HRP z6 z4 c0 c1 c2 c3 i4 hf HM9
  refine (wpIn_wide (n := 6)).1 ?_
  refine reg6 (W := w7.drew) (fvv := fv 1 1 (.slice (some ⟨w.heap.size + 1, 0, none⟩) 9 9) 9 0 (.slice none 0 0)) (imm := imv (-1) (-1) 2 2 (.slice (some ⟨w.heap.size + 4, 0, none⟩) 9 9)) (x := 0) (y := 0) (p := ⟨255, 255, 255, 28⟩) (b2 := w.heap.size + 1 + 1) (b4 := w.heap.size + 4 + 1) rfl (Nat.le_of_ble_eq_true rfl) rfl rfl
    (fun V hb => ⟨ld_fo (row_later (h7.drew.row (by simp)) hb), ld_im (row_later (h7.drew.row (by simp)) hb)⟩)
    (fun V => one_any 0 0 V (by decide) (by decide))
    (fun V hb => app1 V (row_later (h7.drew.row (by simp)) hb) (PM.later (PM.later pm7 (Below.refl _ w7).drew) hb))
    ?_
  rintro k8 w8 ⟨b5, b5', hk5, hb5, hr5, hp5⟩ hk6 hb8
  have h8 : St w [(w.heap.size + 3, fo 7 0 (.slice none 0 0) 0 128 (.slice none 0 0)), (w.heap.size, fo 2 2 (.slice none 0 0) 0 0 (.slice none 0 0))] w8 := (h7.drew.sub (by intro x hx; simp only [List.mem_cons, List.not_mem_nil, or_false] at hx ⊢; rcases hx with rfl | rfl <;> simp)).later hb8
  have z8 : w.heap.size + 6 ≤ w8.heap.size := Nat.le_trans (Nat.le_of_eq z7.symm) hb8.size
  have hb5' : w.heap.size + 6 ≤ b5 := Nat.le_trans (Nat.le_of_eq z7.symm) hb5
  clear hb8 hb5 h7 pm7 z7 w7
  simp only [puts, List.map_cons, List.map_nil, dst6, hk5, hk6]
  clear hk5 hk6
  generalize k8 20 = k20
  generalize k8 21 = k21
  generalize k8 22 = k22
  generalize k8 23 = k23
  generalize k8 24 = k24
  generalize k8 25 = k25
  generalize k8 26 = k26
  clear k8
  have H8 := Lib.hid h8; clear h8
  have HR5 := Lib.hid hr5; clear hr5
  have HP5 := Lib.hid hp5; clear hp5
  simp only [Act.put, List.setIfInBounds_toArray, List.set_cons_zero, List.set_cons_succ]
  go_upto_region 7 with fail
  refine (wpIn_wide (n := 6)).1 ?_
  refine reg7 (W := w8.drew) (fvv := fv 7 0 (.slice none 0 0) 0 128 (.slice none 0 0)) (x := 5) (y := 5) (p := ⟨255, 255, 255, 255⟩) (b3 := w.heap.size + 3) rfl (Nat.le_of_ble_eq_true rfl) rfl
    (fun V hb => ld_fo (row_later (H8.out.drew.row (by simp)) hb))
    (fun V => one_any 5 5 V (by decide) (by decide))
    (fun V b _ hp => app2 V hp)
    ?_
  rintro k9 w9 ⟨b7, b7', hk7, hb7, hr7, hp7⟩ hk8 hb9
  have h9 := H8.out.drew.later hb9
  have hr5 := row_later (w := w8.drew) HR5.out hb9
  have hp5 := PB.later (w := w8.drew) HP5.out hb9
  have hb7' : w.heap.size + 6 ≤ b7 := Nat.le_trans z8 hb7
  clear H8 HR5 HP5 hb9 hb7 z8
  simp only [puts, List.map_cons, List.map_nil, dst7, hk7, hk8]
  clear hk7 hk8
  generalize k9 27 = k27
  generalize k9 28 = k28
  generalize k9 29 = k29
  generalize k9 30 = k30
  generalize k9 31 = k31
  generalize k9 32 = k32
  generalize k9 33 = k33
  generalize k9 34 = k34
  generalize k9 35 = k35
  generalize k9 36 = k36
  clear k9
  simp only [Act.put, List.setIfInBounds_toArray, List.set_cons_zero, List.set_cons_succ]
  have HR7 := Lib.hid hr7; clear hr7
  have HP7 := Lib.hid hp7; clear hp7
  have HR5 := Lib.hid hr5; clear hr5
  have HP5 := Lib.hid hp5; clear hp5
  have H9 := Lib.hid h9; clear h9
  obtain ⟨i0, i1, i2, i3, i4⟩ := im_of HR5.out
  obtain ⟨j0, j1, j2, j3, j4⟩ := im_of HR7.out
  have HN : Hid (∀ V, Calls Tryz.prog 15 #[fv 2 2 (.slice none 0 0) 0 0 (.slice none 0 0), R.rv 0 0 4 4] V fun e w' => e = .returned (R.rv (-2) (-2) 6 6) ∧ Below V.heap.size V w') := fun V => by
    refine (need_any 2 2 0 0 0 0 4 4 [] [] (.slice none 0 0) (.slice none 0 0) V (cm_nil V) (cm_nil V)).mono ?_
    rintro e w' ⟨rfl, h⟩
    exact ⟨by kernel_rfl, h⟩
  have HL : Hid (∀ V, Below w9.heap.size w9 V → V.cell? ⟨b5, 4, none⟩ = some (.slice (some ⟨b5', 0, none⟩) 1 1) ∧ V.cell? ⟨b7, 4, none⟩ = some (.slice (some ⟨b7', 0, none⟩) 1 1) ∧ PB V b5' 0 ⟨255, 255, 255, 28⟩ ∧ PB V b7' 0 ⟨255, 255, 255, 255⟩ ∧ Below w.heap.size w V) := fun V h =>
    ⟨(im_of (row_later HR5.out h)).2.2.2.2, (im_of (row_later HR7.out h)).2.2.2.2, HP5.out.later h, HP7.out.later h, (H9.out.later h).below⟩
  have m0 := H9.out.cell (b := w.heap.size) (cs := #[.int .i64 2, .int .i64 2, .slice none 0 0, .int .i64 0, .int .i64 0, .slice none 0 0]) (t := 25) (by simp)
  have g0 := m0 0; have g1 := m0 1; have g2 := m0 2; have g3 := m0 3; have g4 := m0 4; have g5 := m0 5
  simp at g0 g1 g2 g3 g4 g5
  clear m0 HR5 HR7 HP5 HP7 H9
  go_wp2_with (go_at_call 15; (with_reducible refine (HN.out _).mono ?_); rintro e w10 ⟨rfl, hb10⟩; obtain ⟨n0, n1, ⟨p0, p1, p2, p3⟩, ⟨q0, q1, q2, q3⟩, hbl⟩ := HL.out _ hb10)
  exact bodyPost_ret (v := .bool true) (by simp [results, Tryz.results4, go_sem, *]) rfl ⟨rfl, hbl⟩
end Go.Proofs.YtbodmeiecdomfaaGreat.W
