/-
  Threshold: the closure; the closures that the effects return; the table of effects.
-/
import Derived.Test.YtbodmeiecdomfaaGreatWCon
namespace Go.Proofs.YtbodmeiecdomfaaGreat.W
open Go.RowKit Go.Shelf
set_option maxRecDepth 100000
variable {W w w' : World} {L : List (Nat × Obj)}

def thr (p : Px) (v : Int) : Px := if 3 * v ≤ p.r + p.g + p.b then ⟨255, 255, 255, p.a⟩ else ⟨0, 0, 0, p.a⟩
theorem thr_pc {p : Px} (h : Pc p) (v : Int) : Pc (thr p v) := by
  have h4 := h.2.2.2
  unfold thr; split <;> (simp only [Pc, Ch] at h4 ⊢; omega)
set_option maxHeartbeats 4000000 in
theorem threshold_any (bi be : Nat) (x0 y0 x1 y1 x y k r d v : Int) (K C P : Value) (ps : List Px) (w : World) (hi : w.heap[bi]? = some (imo x0 y0 x1 y1 P)) (he : w.heap[be]? = some (efo k r K d v C)) (hP : PM w P ps)
    (hpc : ∀ i, Pc (pg ps i)) (hpl : Plc x0 y0 x1 y1 ps x y) (hv : 0 ≤ v ∧ v ≤ 256) :
    Calls Tryz.prog 72 #[ptv x y, .pointer (some ⟨bi, 0, none⟩), .pointer (some ⟨be, 0, none⟩)] w fun e w' => e = .returned (thr (pat x0 y0 x1 ps x y) v).v ∧ Below w.heap.size w w' := by
  have HX : Hid (∀ V, Below w.heap.size w V → Calls Tryz.prog 73 #[imv x0 y0 x1 y1 P, ptv x y] V fun e w' => e = .returned (pat x0 y0 x1 ps x y).v ∧ Below V.heap.size V w') := fun V h => pixel_at V (hP.later h) hpl
  have hc : Pc (pat x0 y0 x1 ps x y) := hpc _
  have HT : Hid (thr (pat x0 y0 x1 ps x y) v = if 3 * v ≤ (pat x0 y0 x1 ps x y).r + (pat x0 y0 x1 ps x y).g + (pat x0 y0 x1 ps x y).b then ⟨255, 255, 255, (pat x0 y0 x1 ps x y).a⟩ else ⟨0, 0, 0, (pat x0 y0 x1 ps x y).a⟩) := rfl
  generalize thr (pat x0 y0 x1 ps x y) v = z at *
  generalize pat x0 y0 x1 ps x y = p at *
  obtain ⟨q1, q2, q3, q4⟩ := hc
  unfold Ch at q1 q2 q3 q4
  go_enter Tryz.func72, Tryz.ntmps72
  go_upto_region 1 with fail
  have hb2 : Below w.heap.size w ((w.alloc (pto x y)).alloc (po 0 0 0 0)) := below2
  have hs2 := ((St.start w).alloc (pto x y)).alloc (po 0 0 0 0)
  simp only [World.size_alloc] at hs2
  generalize (w.alloc (pto x y)).alloc (po 0 0 0 0) = W2 at hb2 hs2 ⊢
  obtain ⟨i0, i1, i2, i3, i4⟩ := im_of ((hb2.block _ (Array.getElem?_eq_some_iff.1 hi).1).trans hi)
  obtain ⟨a0, a1⟩ := pt_of (hs2.row (b := w.heap.size) (o := pto x y) (by simp))
  have HHE : Hid (∀ V, St w [(w.heap.size + 1, po 0 0 0 0), (w.heap.size, pto x y)] V → V.cell? ⟨be, 4, none⟩ = some (.int .i64 v)) := fun V h => (ef_of ((h.below.block _ (Array.getElem?_eq_some_iff.1 he).1).trans he)).2.2.2.2.1
  have HS : Hid (∀ V, Below W2.heap.size W2 V → St w [(w.heap.size + 1, po 0 0 0 0), (w.heap.size, pto x y)] V) := fun V h => hs2.later h
  have HA : Hid (∀ V, St w [(w.heap.size + 1, po 0 0 0 0), (w.heap.size, pto x y)] V → V.heap[w.heap.size + 1]? = some (po 0 0 0 0)) := fun V h => h.row (by simp)
  clear hi he hs2
  go_upto_region 2 with (go_at_call 73; (with_reducible refine (HX.out _ hb2).mono ?_); rintro e w4 ⟨rfl, hb4⟩; have hs4 := HS.out _ hb4)
  have hs5 := hs4.alloc p.o
  have hrow := hs5.row (b := w.heap.size + 1) (o := po 0 0 0 0) (by simp)
  have hpr := hs5.row (b := w4.heap.size) (o := p.o) (by simp)
  obtain ⟨c0, c1, c2, c3⟩ : (w4.alloc p.o).cell? ⟨w4.heap.size, 0, none⟩ = some (.int .u8 p.r) ∧ (w4.alloc p.o).cell? ⟨w4.heap.size, 1, none⟩ = some (.int .u8 p.g) ∧ (w4.alloc p.o).cell? ⟨w4.heap.size, 2, none⟩ = some (.int .u8 p.b) ∧ (w4.alloc p.o).cell? ⟨w4.heap.size, 3, none⟩ = some (.int .u8 p.a) :=
    ⟨cell_of_row _ _ 0 _ _ _ hpr, cell_of_row _ _ 1 _ _ _ hpr, cell_of_row _ _ 2 _ _ _ hpr, cell_of_row _ _ 3 _ _ _ hpr⟩
  have e4 := HHE.out _ (hs5.sub (L' := [(w.heap.size + 1, po 0 0 0 0), (w.heap.size, pto x y)]) (by simp))
  have hpf := fun j => frozen_of_row _ _ j _ _ hrow
  obtain ⟨d0, d1, d2, d3⟩ : (w4.alloc p.o).cell? ⟨w.heap.size + 1, 0, none⟩ = some (.int .u8 0) ∧ (w4.alloc p.o).cell? ⟨w.heap.size + 1, 1, none⟩ = some (.int .u8 0) ∧ (w4.alloc p.o).cell? ⟨w.heap.size + 1, 2, none⟩ = some (.int .u8 0) ∧ (w4.alloc p.o).cell? ⟨w.heap.size + 1, 3, none⟩ = some (.int .u8 0) :=
    ⟨cell_of_row _ _ 0 _ _ _ hrow, cell_of_row _ _ 1 _ _ _ hrow, cell_of_row _ _ 2 _ _ _ hrow, cell_of_row _ _ 3 _ _ _ hrow⟩
  have HB5 := Lib.hid hs5.below
  have HR5 := Lib.hid hrow
  clear hs5 hs4 hpr hrow
  generalize w4.alloc p.o = W5 at *
  by_cases hc : 3 * v ≤ p.r + p.g + p.b
  · have hz := HT.out
    rw [if_pos hc] at hz
    go_wp2
    exact bodyPost_ret (v := (⟨255, 255, 255, p.a⟩ : Px).v) (res_px (b := w.heap.size + 1) (z := ⟨255, 255, 255, p.a⟩) rfl rfl (set4_row (z := ⟨255, 255, 255, p.a⟩) zp HR5.out)) rfl ⟨by first | (rw [hz]; done) | rfl, HB5.out.trans ((set4_mv W5 (w.heap.size + 1) _ _ _ _).below (B := w.heap.size) (by simp) HB5.out.size)⟩
  · have hz := HT.out
    rw [if_neg hc] at hz
    go_wp2
    exact bodyPost_ret (v := (⟨0, 0, 0, p.a⟩ : Px).v) (res_px (b := w.heap.size + 1) (z := ⟨0, 0, 0, p.a⟩) rfl rfl (set4_row (z := ⟨0, 0, 0, p.a⟩) zp HR5.out)) rfl ⟨by first | (rw [hz]; done) | rfl, HB5.out.trans ((set4_mv W5 (w.heap.size + 1) _ _ _ _).below (B := w.heap.size) (by simp) HB5.out.size)⟩
/-- a closure over an image and an effect -/
abbrev clo (f : FuncId) (bi be : Nat) : Value := .func (.func f) #[] #[.pointer (some ⟨bi, 0, none⟩), .pointer (some ⟨be, 0, none⟩)]
theorem conv_any (k r d v x0 y0 x1 y1 : Int) (K C P : Value) (w : World) : Calls Tryz.prog 44 #[fv k r K d v C, imv x0 y0 x1 y1 P] w fun e w' => e = .returned (clo 59 (w.heap.size + 1) w.heap.size) ∧ w' = (w.alloc (efo k r K d v C)).alloc (imo x0 y0 x1 y1 P) := by
  go_enter Tryz.func44, Tryz.ntmps44
  go_wp2
  go_ret
  exact ⟨rfl, rfl⟩
theorem thresh_any (k r d v x0 y0 x1 y1 : Int) (K C P : Value) (w : World) : Calls Tryz.prog 50 #[fv k r K d v C, imv x0 y0 x1 y1 P] w fun e w' => e = .returned (clo 72 (w.heap.size + 1) w.heap.size) ∧ w' = (w.alloc (efo k r K d v C)).alloc (imo x0 y0 x1 y1 P) := by
  go_enter Tryz.func50, Tryz.ntmps50
  go_wp2
  go_ret
  exact ⟨rfl, rfl⟩
/-- the table of effects -/
abbrev fnv (f : FuncId) : Value := .func (.func f) #[] #[]
abbrev efs : Value := .agg #[.nilFunc, fnv 44, fnv 45, fnv 46, fnv 47, fnv 48, fnv 49, fnv 50, fnv 51]
end Go.Proofs.YtbodmeiecdomfaaGreat.W
