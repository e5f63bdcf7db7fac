/-
  PixelBounds: each channel of a composited pixel lies between the smallest and the greatest of the backdrop, the source and the blended value; its alpha is at least that of the backdrop and that of the faded source. No conditions.
-/
import Derived.Test.YtfclbfliebdopaaLaw
import Derived.Test.YtfclbfliebdopaaIdent
namespace Go.Proofs.Ytfclbfliebdopaa.LBounds
open Go.ChangeShapes Go.WideShapes Go.ChangeAt Go.RowKit

def mn3 (x y z : Int) : Int := if z < (if y < x then y else x) then z else (if y < x then y else x)
def mx3 (x y z : Int) : Int := if z > (if y > x then y else x) then z else (if y > x then y else x)
theorem run_mn3 (ts : Array TypeId) (t : TypeId) (x y z : Int) (w : World) : (Builtin.min_ ts t #[.int .i64 x, .int .i64 y, .int .i64 z]).run Try.prog w = .ok (.int .i64 (mn3 x y z)) w := by unfold mn3; simp only [run_min_int3]
theorem run_mx3 (ts : Array TypeId) (t : TypeId) (x y z : Int) (w : World) : (Builtin.max_ ts t #[.int .i64 x, .int .i64 y, .int .i64 z]).run Try.prog w = .ok (.int .i64 (mx3 x y z)) w := by unfold mx3; simp only [run_max_int3]
theorem blend_v (m b s v : Int) (w : World) (hb : Ch b) (hs : Ch s) (hv : bl m b s = v) : Calls Try.prog 13 #[.int .i64 m, .int .i64 b, .int .i64 s] w fun e w' => e = .returned (.int .i64 v) ∧ Below w.heap.size w w' := by
  have h := blend_any m b s w
  rw [cl_of hb, cl_of hs, hv] at h; exact h
theorem fade_v (r g b a c f0 f1 f2 f3 : Int) (w : World) (ha : Ch a) (hO : fad ⟨r, g, b, a⟩ c = ⟨f0, f1, f2, f3⟩) : Calls Try.prog 21 #[pv r g b a, .int .i64 c] w fun e w' => e = .returned (.agg #[.int .u8 f0, .int .u8 f1, .int .u8 f2, .int .u8 f3]) ∧ Below w.heap.size w w' := by
  have h := fade_any r g b a c w ha
  rw [hO] at h; exact h
theorem run_fld (f0 f1 f2 f3 : Int) (w : World) : (Instr.field 27 (.agg #[.int .u8 f0, .int .u8 f1, .int .u8 f2, .int .u8 f3]) 3).run Try.prog w = .ok (.int .u8 f3) w := rfl
/-- x lies between the smallest and the greatest of the three -/
abbrev Bn (b s v x : Int) : Prop := mn3 b s v ≤ x ∧ x ≤ mx3 b s v
theorem mn3_le (x y z : Int) : mn3 x y z ≤ x ∧ mn3 x y z ≤ y ∧ mn3 x y z ≤ z := by unfold mn3; (repeat' split) <;> omega
theorem le_mx3 (x y z : Int) : x ≤ mx3 x y z ∧ y ≤ mx3 x y z ∧ z ≤ mx3 x y z := by unfold mx3; (repeat' split) <;> omega
theorem och_bn (m : Int) {u v b s : Int} (hu : Ch u) (hv : Ch v) (hw : 0 < wgt u v) : Bn b s (bl m b s) (och m u v b s) := by
  have h := sq_ch hu hv
  have h1 := nn (A := 255) (B := 255) hu (b := 255 - v) ⟨by omega, by omega⟩
  have h2 := nn (A := 255) (B := 255) (a := 255 - u) ⟨by omega, by omega⟩ hv
  have a1 := mn3_le b s (bl m b s)
  have a2 := le_mx3 b s (bl m b s)
  have h3 := wsum (x := u * (255 - v)) (y := u * v) (z := (255 - u) * v) (s := s) (t := bl m b s) (b := b) (lo := mn3 b s (bl m b s)) (hi := mx3 b s (bl m b s)) h1.1 h.1 h2.1 ⟨a1.2.1, a2.2.1⟩ ⟨a1.2.2, a2.2.2⟩ ⟨a1.1, a2.1⟩
  rw [← wgt_parts] at h3
  exact rd_between hw h3.1 h3.2
theorem walp_ge {u v : Int} (hu : Ch u) (hv : Ch v) : v ≤ rd (wgt u v) 255 ∧ u ≤ rd (wgt u v) 255 := by
  have h1 := nn (A := 255) (B := 255) hu (b := 255 - v) ⟨by omega, by omega⟩
  have h2 := nn (A := 255) (B := 255) (a := 255 - u) ⟨by omega, by omega⟩ hv
  rw [Int.mul_sub] at h1
  rw [Int.sub_mul] at h2
  have h := wgt_md hu hv
  unfold rd
  have e : wgt u v = 255 * u + 255 * v - u * v := rfl
  omega
theorem ovr_facts {p0 p1 p2 p3 q0 q1 q2 q3 : Int} (m c : Int) (hp0 : Ch p0) (hp1 : Ch p1) (hp2 : Ch p2) (hp3 : Ch p3) (hq0 : Ch q0) (hq1 : Ch q1) (hq2 : Ch q2) :
    ∃ o0 o1 o2 o3, ovr ⟨p0, p1, p2, p3⟩ ⟨q0, q1, q2, q3⟩ m c = ⟨o0, o1, o2, o3⟩ ∧ (Ch o0 ∧ Ch o1 ∧ Ch o2 ∧ Ch o3) ∧ p3 ≤ o3 ∧ (fad ⟨q0, q1, q2, q3⟩ c).a ≤ o3 ∧ (o3 = 0 → o0 = 0 ∧ o1 = 0 ∧ o2 = 0) ∧
      (o3 ≠ 0 → Bn p0 q0 (bl m p0 q0) o0 ∧ Bn p1 q1 (bl m p1 q1) o1 ∧ Bn p2 q2 (bl m p2 q2) o2) := by
  have hu := mul_ch q3 c
  have hf : (fad ⟨q0, q1, q2, q3⟩ c).a = mul q3 c := by
    unfold fad cln; dsimp only
    by_cases h : mul q3 c = 0
    · rw [if_pos h, h]
    · rw [if_neg h]
  rw [hf]
  unfold ovr; dsimp only
  generalize mul q3 c = u at *
  have hg := walp_ge hu hp3
  have ha := walp_ch hu hp3
  by_cases h0 : wgt u p3 = 0
  · rw [if_pos h0]
    rw [h0, show rd 0 255 = 0 by decide] at hg
    exact ⟨0, 0, 0, 0, rfl, ⟨⟨by decide, by decide⟩, ⟨by decide, by decide⟩, ⟨by decide, by decide⟩, ⟨by decide, by decide⟩⟩, hg.1, hg.2, fun _ => ⟨rfl, rfl, rfl⟩, fun h => absurd rfl h⟩
  · have hw : 0 < wgt u p3 := by have := wgt_md hu hp3; omega
    rw [if_neg h0]
    refine ⟨_, _, _, _, rfl, ⟨och_ch m hu hp3 hw hp0 hq0, och_ch m hu hp3 hw hp1 hq1, och_ch m hu hp3 hw hp2 hq2, ha⟩, hg.1, hg.2, fun h => ?_, fun _ => ⟨och_bn m hu hp3 hw, och_bn m hu hp3 hw, och_bn m hu hp3 hw⟩⟩
    exfalso
    rw [h] at hg
    obtain rfl : u = 0 := by omega
    obtain rfl : p3 = 0 := by omega
    exact h0 (by decide)

set_option maxHeartbeats 8000000 in
set_option maxRecDepth 100000 in
theorem walk (p0 p1 p2 p3 q0 q1 q2 q3 x0 x1 : Int) (w : World) (hp0 : Ch p0) (hp1 : Ch p1) (hp2 : Ch p2) (hp3 : Ch p3) (hq0 : Ch q0) (hq1 : Ch q1) (hq2 : Ch q2) (hq3 : Ch q3) : Calls Try.prog 9 #[pv p0 p1 p2 p3, pv q0 q1 q2 q3, .agg #[.int .i64 x0, .int .i64 x1]] w fun e w' => e = .returned (.bool true) ∧ Below w.heap.size w w' := by
  have x0' := w64 hp0; have x1' := w64 hp1; have x2' := w64 hp2; have y0' := w64 hq0; have y1' := w64 hq1; have y2' := w64 hq2
  go_enter Try.func9, Try.ntmps9
  go_upto_region 1 with fail
  have hs := (((St.start w).alloc (po p0 p1 p2 p3)).alloc (po q0 q1 q2 q3)).alloc (.cells #[.int .i64 x0, .int .i64 x1] 28)
  rw [World.size_alloc, World.size_alloc] at hs
  generalize ((w.alloc (po p0 p1 p2 p3)).alloc (po q0 q1 q2 q3)).alloc (.cells #[.int .i64 x0, .int .i64 x1] 28) = w1 at hs ⊢
  go_upto_region 2 with (go_at_call 12; (with_reducible refine (St.call hs (sane_any _)).mono ?_); rintro e w2 ⟨rfl, h2⟩)
  clear hs
  have hx0 : w2.cell? ⟨w.heap.size + 1 + 1, 0, none⟩ = some (.int .i64 x0) := h2.cell (cs := #[.int .i64 x0, .int .i64 x1]) (t := 28) (by simp) 0
  have hx1 : w2.cell? ⟨w.heap.size + 1 + 1, 1, none⟩ = some (.int .i64 x1) := h2.cell (cs := #[.int .i64 x0, .int .i64 x1]) (t := 28) (by simp) 1
  obtain ⟨r0, r1, r2, r3⟩ := h2.pix (b := w.heap.size) (x0 := p0) (x1 := p1) (x2 := p2) (x3 := p3) (by simp)
  obtain ⟨s0, s1, s2, s3⟩ := h2.pix (b := w.heap.size + 1) (x0 := q0) (x1 := q1) (x2 := q2) (x3 := q3) (by simp)
  go_upto_region 3 with fail
  generalize bits BinOp.and IntKind.i64 x0 15 = n0
  obtain ⟨o0, o1, o2, o3, hO, ⟨ho0, ho1, ho2, ho3⟩, ha, hf, hz, hb⟩ := ovr_facts n0 x1 hp0 hp1 hp2 hp3 hq0 hq1 hq2
  go_upto_region 4 with (go_at_call 17; (with_reducible refine (St.call h2 (over_px _ _ _ _ _ _ _ _ _ _ _ _ hp0 hp1 hp2 hp3 hq0 hq1 hq2 hq3 hO)).mono ?_); rintro e w3 ⟨rfl, h3⟩)
  clear h2 r0 r1 r2 r3 s0 s1 s2 s3 hx0 hx1
  have hs := h3.alloc (po o0 o1 o2 o3)
  clear h3
  generalize w3.heap.size = bo at hs ⊢
  generalize w3.alloc (po o0 o1 o2 o3) = w4 at hs ⊢
  obtain ⟨L, hL⟩ : ∃ L, L = [(bo, po o0 o1 o2 o3), (w.heap.size + 1 + 1, .cells #[.int .i64 x0, .int .i64 x1] 28), (w.heap.size + 1, po q0 q1 q2 q3), (w.heap.size, po p0 p1 p2 p3)] := ⟨_, rfl⟩
  rw [← hL] at hs
  have HP : Hid (∀ V, St w L V → St w L V ∧ RB V w.heap.size p0 p1 p2 p3 ∧ RB V (w.heap.size + 1) q0 q1 q2 q3 ∧ RB V bo o0 o1 o2 o3 ∧ V.cell? ⟨w.heap.size + 1 + 1, 1, none⟩ = some (.int .i64 x1)) := fun V h => by
    subst hL
    exact ⟨h, h.pix (by simp), h.pix (by simp), h.pix (by simp), h.cell (cs := #[.int .i64 x0, .int .i64 x1]) (t := 28) (by simp) 1⟩
  clear hL
  have l1 : ¬ o3 < p3 := by omega
  obtain ⟨f0, f1, f2, f3, hF⟩ : ∃ f0 f1 f2 f3, fad ⟨q0, q1, q2, q3⟩ x1 = ⟨f0, f1, f2, f3⟩ := ⟨_, _, _, _, rfl⟩
  have l2 : ¬ o3 < f3 := by rw [hF] at hf; dsimp only at hf; omega
  have hd := hs.drew
  clear hs
  have hfl := run_fld f0 f1 f2 f3
  go_region_held3 (fun V => St w L V ∧ RB V w.heap.size p0 p1 p2 p3 ∧ RB V (w.heap.size + 1) q0 q1 q2 q3 ∧ RB V bo o0 o1 o2 o3 ∧ V.cell? ⟨w.heap.size + 1 + 1, 1, none⟩ = some (.int .i64 x1)) ((refine HP.out _ ?_; assumption)) (first
    | (go_at_call 21; (with_reducible refine (St.call (W := w) (L := L) ?_ (fade_v _ _ _ _ _ _ _ _ _ _ hq3 hF)).mono ?_); (focus assumption); rintro e w5 ⟨rfl, h5⟩))
  rename_i hHeld
  obtain ⟨_, ⟨r0, r1, r2, r3⟩, ⟨s0, s1, s2, s3⟩, ⟨t0, t1, t2, t3⟩, _⟩ := hHeld
  clear hd
  by_cases hz3 : o3 = 0
  · obtain ⟨rfl, rfl, rfl⟩ := hz hz3
    subst hz3
    go_wp2_with fail
    go_ret
    exact ⟨rfl, h5.below⟩
  · obtain ⟨⟨a1, a2⟩, ⟨b1, b2⟩, ⟨c1', c2'⟩⟩ := hb hz3
    have z0' := w64 ho0; have z1' := w64 ho1; have z2' := w64 ho2
    clear hz hb
    have hmn := run_mn3
    have hmx := run_mx3
    go_upto_region 9 with fail
    clear l1 l2 r0 r1 r2 r3 s0 s1 s2 s3 t0 t1 t2 t3 x0' x1' x2' y0' y1' y2' z0' z1' z2'
    generalize (o3 == 0) = bz0
    have h6 := h5.alloc (.cells #[.int .i64 p0, .int .i64 q0, .int .i64 o0, .int .i64 p1, .int .i64 q1, .int .i64 o1, .int .i64 p2, .int .i64 q2, .int .i64 o2] 50)
    clear h5
    generalize w5.heap.size = bq at h6 ⊢
    generalize w5.alloc (.cells #[.int .i64 p0, .int .i64 q0, .int .i64 o0, .int .i64 p1, .int .i64 q1, .int .i64 o1, .int .i64 p2, .int .i64 q2, .int .i64 o2] 50) = w6 at h6 ⊢
    have h7 : St w [(bq, .cells #[.int .i64 p0, .int .i64 q0, .int .i64 o0, .int .i64 p1, .int .i64 q1, .int .i64 o1, .int .i64 p2, .int .i64 q2, .int .i64 o2] 50)] w6 := h6.sub (by simp)
    clear h6
    go_wp2_with fail
    go_loopw [11] (fun v wr => ∃ K : Int, 0 ≤ K ∧ K ≤ 3 ∧ v = .int .i64 K ∧ Hid (St w [(bq, .cells #[.int .i64 p0, .int .i64 q0, .int .i64 o0, .int .i64 p1, .int .i64 q1, .int .i64 o1, .int .i64 p2, .int .i64 q2, .int .i64 o2] 50)] wr)) (fun v _ => 3 - (intOf v).toNat)
    case atStart => exact ⟨0, by omega, by omega, rfl, h7⟩
    case round =>
      obtain ⟨K, hk0, hk3, rfl, HS⟩ := hrel
      have h5 := HS.out
      clear HS h7
      rcases (by omega : K = 0 ∨ K = 1 ∨ K = 2 ∨ K = 3) with rfl | rfl | rfl | rfl
      · have HP : Hid (∀ V, St w [(bq, .cells #[.int .i64 p0, .int .i64 q0, .int .i64 o0, .int .i64 p1, .int .i64 q1, .int .i64 o1, .int .i64 p2, .int .i64 q2, .int .i64 o2] 50)] V → St w [(bq, .cells #[.int .i64 p0, .int .i64 q0, .int .i64 o0, .int .i64 p1, .int .i64 q1, .int .i64 o1, .int .i64 p2, .int .i64 q2, .int .i64 o2] 50)] V ∧ V.cell? ⟨bq, 0, none⟩ = some (.int .i64 p0) ∧ V.cell? ⟨bq, 1, none⟩ = some (.int .i64 q0) ∧ V.cell? ⟨bq, 2, none⟩ = some (.int .i64 o0)) := fun V h => ⟨h, h.cell (cs := #[.int .i64 p0, .int .i64 q0, .int .i64 o0, .int .i64 p1, .int .i64 q1, .int .i64 o1, .int .i64 p2, .int .i64 q2, .int .i64 o2]) (t := 50) (by simp) 0, h.cell (cs := #[.int .i64 p0, .int .i64 q0, .int .i64 o0, .int .i64 p1, .int .i64 q1, .int .i64 o1, .int .i64 p2, .int .i64 q2, .int .i64 o2]) (t := 50) (by simp) 1, h.cell (cs := #[.int .i64 p0, .int .i64 q0, .int .i64 o0, .int .i64 p1, .int .i64 q1, .int .i64 o1, .int .i64 p2, .int .i64 q2, .int .i64 o2]) (t := 50) (by simp) 2⟩
        have c1 : ¬ o0 < mn3 p0 q0 (bl n0 p0 q0) := by omega
        have c2 : ¬ mx3 p0 q0 (bl n0 p0 q0) < o0 := by omega
        have C1 := Lib.hid (eq_false c1)
        have C2 := Lib.hid (eq_false c2)
        clear c1 c2
        go_upto_region 12 with fail
        have hd := h5.drew
        clear h5
        go_region_held3 (fun V => St w [(bq, .cells #[.int .i64 p0, .int .i64 q0, .int .i64 o0, .int .i64 p1, .int .i64 q1, .int .i64 o1, .int .i64 p2, .int .i64 q2, .int .i64 o2] 50)] V ∧ V.cell? ⟨bq, 0, none⟩ = some (.int .i64 p0) ∧ V.cell? ⟨bq, 1, none⟩ = some (.int .i64 q0) ∧ V.cell? ⟨bq, 2, none⟩ = some (.int .i64 o0)) ((refine HP.out _ ?_; assumption)) (first
          | (go_at_call 13; (with_reducible refine (St.call (W := w) (L := [(bq, .cells #[.int .i64 p0, .int .i64 q0, .int .i64 o0, .int .i64 p1, .int .i64 q1, .int .i64 o1, .int .i64 p2, .int .i64 q2, .int .i64 o2] 50)]) ?_ (blend_v n0 p0 q0 (bl n0 p0 q0) _ hp0 hq0 rfl)).mono ?_); (focus assumption); rintro e w6 ⟨rfl, h6⟩))
        rename_i hHeld
        clear hHeld
        go_upto_region 13 with fail
        have hd2 := h6.drew
        clear h6 hd
        have c1 := C1.out
        have c2 := C2.out
        go_region_held3 (fun V => St w [(bq, .cells #[.int .i64 p0, .int .i64 q0, .int .i64 o0, .int .i64 p1, .int .i64 q1, .int .i64 o1, .int .i64 p2, .int .i64 q2, .int .i64 o2] 50)] V ∧ V.cell? ⟨bq, 0, none⟩ = some (.int .i64 p0) ∧ V.cell? ⟨bq, 1, none⟩ = some (.int .i64 q0) ∧ V.cell? ⟨bq, 2, none⟩ = some (.int .i64 o0)) ((refine HP.out _ ?_; assumption)) (first | fail)
        rename_i hHeld
        obtain ⟨h7, _⟩ := hHeld
        go_wp2_with fail
        go_roundw
        case rel => exact ⟨1, by omega, by omega, rfl, h7⟩
        case measure => simp [intOf]
      · have HP : Hid (∀ V, St w [(bq, .cells #[.int .i64 p0, .int .i64 q0, .int .i64 o0, .int .i64 p1, .int .i64 q1, .int .i64 o1, .int .i64 p2, .int .i64 q2, .int .i64 o2] 50)] V → St w [(bq, .cells #[.int .i64 p0, .int .i64 q0, .int .i64 o0, .int .i64 p1, .int .i64 q1, .int .i64 o1, .int .i64 p2, .int .i64 q2, .int .i64 o2] 50)] V ∧ V.cell? ⟨bq, 3, none⟩ = some (.int .i64 p1) ∧ V.cell? ⟨bq, 4, none⟩ = some (.int .i64 q1) ∧ V.cell? ⟨bq, 5, none⟩ = some (.int .i64 o1)) := fun V h => ⟨h, h.cell (cs := #[.int .i64 p0, .int .i64 q0, .int .i64 o0, .int .i64 p1, .int .i64 q1, .int .i64 o1, .int .i64 p2, .int .i64 q2, .int .i64 o2]) (t := 50) (by simp) 3, h.cell (cs := #[.int .i64 p0, .int .i64 q0, .int .i64 o0, .int .i64 p1, .int .i64 q1, .int .i64 o1, .int .i64 p2, .int .i64 q2, .int .i64 o2]) (t := 50) (by simp) 4, h.cell (cs := #[.int .i64 p0, .int .i64 q0, .int .i64 o0, .int .i64 p1, .int .i64 q1, .int .i64 o1, .int .i64 p2, .int .i64 q2, .int .i64 o2]) (t := 50) (by simp) 5⟩
        have c1 : ¬ o1 < mn3 p1 q1 (bl n0 p1 q1) := by omega
        have c2 : ¬ mx3 p1 q1 (bl n0 p1 q1) < o1 := by omega
        have C1 := Lib.hid (eq_false c1)
        have C2 := Lib.hid (eq_false c2)
        clear c1 c2
        go_upto_region 12 with fail
        have hd := h5.drew
        clear h5
        go_region_held3 (fun V => St w [(bq, .cells #[.int .i64 p0, .int .i64 q0, .int .i64 o0, .int .i64 p1, .int .i64 q1, .int .i64 o1, .int .i64 p2, .int .i64 q2, .int .i64 o2] 50)] V ∧ V.cell? ⟨bq, 3, none⟩ = some (.int .i64 p1) ∧ V.cell? ⟨bq, 4, none⟩ = some (.int .i64 q1) ∧ V.cell? ⟨bq, 5, none⟩ = some (.int .i64 o1)) ((refine HP.out _ ?_; assumption)) (first
          | (go_at_call 13; (with_reducible refine (St.call (W := w) (L := [(bq, .cells #[.int .i64 p0, .int .i64 q0, .int .i64 o0, .int .i64 p1, .int .i64 q1, .int .i64 o1, .int .i64 p2, .int .i64 q2, .int .i64 o2] 50)]) ?_ (blend_v n0 p1 q1 (bl n0 p1 q1) _ hp1 hq1 rfl)).mono ?_); (focus assumption); rintro e w6 ⟨rfl, h6⟩))
        rename_i hHeld
        clear hHeld
        go_upto_region 13 with fail
        have hd2 := h6.drew
        clear h6 hd
        have c1 := C1.out
        have c2 := C2.out
        go_region_held3 (fun V => St w [(bq, .cells #[.int .i64 p0, .int .i64 q0, .int .i64 o0, .int .i64 p1, .int .i64 q1, .int .i64 o1, .int .i64 p2, .int .i64 q2, .int .i64 o2] 50)] V ∧ V.cell? ⟨bq, 3, none⟩ = some (.int .i64 p1) ∧ V.cell? ⟨bq, 4, none⟩ = some (.int .i64 q1) ∧ V.cell? ⟨bq, 5, none⟩ = some (.int .i64 o1)) ((refine HP.out _ ?_; assumption)) (first | fail)
        rename_i hHeld
        obtain ⟨h7, _⟩ := hHeld
        go_wp2_with fail
        go_roundw
        case rel => exact ⟨2, by omega, by omega, rfl, h7⟩
        case measure => simp [intOf]
      · have HP : Hid (∀ V, St w [(bq, .cells #[.int .i64 p0, .int .i64 q0, .int .i64 o0, .int .i64 p1, .int .i64 q1, .int .i64 o1, .int .i64 p2, .int .i64 q2, .int .i64 o2] 50)] V → St w [(bq, .cells #[.int .i64 p0, .int .i64 q0, .int .i64 o0, .int .i64 p1, .int .i64 q1, .int .i64 o1, .int .i64 p2, .int .i64 q2, .int .i64 o2] 50)] V ∧ V.cell? ⟨bq, 6, none⟩ = some (.int .i64 p2) ∧ V.cell? ⟨bq, 7, none⟩ = some (.int .i64 q2) ∧ V.cell? ⟨bq, 8, none⟩ = some (.int .i64 o2)) := fun V h => ⟨h, h.cell (cs := #[.int .i64 p0, .int .i64 q0, .int .i64 o0, .int .i64 p1, .int .i64 q1, .int .i64 o1, .int .i64 p2, .int .i64 q2, .int .i64 o2]) (t := 50) (by simp) 6, h.cell (cs := #[.int .i64 p0, .int .i64 q0, .int .i64 o0, .int .i64 p1, .int .i64 q1, .int .i64 o1, .int .i64 p2, .int .i64 q2, .int .i64 o2]) (t := 50) (by simp) 7, h.cell (cs := #[.int .i64 p0, .int .i64 q0, .int .i64 o0, .int .i64 p1, .int .i64 q1, .int .i64 o1, .int .i64 p2, .int .i64 q2, .int .i64 o2]) (t := 50) (by simp) 8⟩
        have c1 : ¬ o2 < mn3 p2 q2 (bl n0 p2 q2) := by omega
        have c2 : ¬ mx3 p2 q2 (bl n0 p2 q2) < o2 := by omega
        have C1 := Lib.hid (eq_false c1)
        have C2 := Lib.hid (eq_false c2)
        clear c1 c2
        go_upto_region 12 with fail
        have hd := h5.drew
        clear h5
        go_region_held3 (fun V => St w [(bq, .cells #[.int .i64 p0, .int .i64 q0, .int .i64 o0, .int .i64 p1, .int .i64 q1, .int .i64 o1, .int .i64 p2, .int .i64 q2, .int .i64 o2] 50)] V ∧ V.cell? ⟨bq, 6, none⟩ = some (.int .i64 p2) ∧ V.cell? ⟨bq, 7, none⟩ = some (.int .i64 q2) ∧ V.cell? ⟨bq, 8, none⟩ = some (.int .i64 o2)) ((refine HP.out _ ?_; assumption)) (first
          | (go_at_call 13; (with_reducible refine (St.call (W := w) (L := [(bq, .cells #[.int .i64 p0, .int .i64 q0, .int .i64 o0, .int .i64 p1, .int .i64 q1, .int .i64 o1, .int .i64 p2, .int .i64 q2, .int .i64 o2] 50)]) ?_ (blend_v n0 p2 q2 (bl n0 p2 q2) _ hp2 hq2 rfl)).mono ?_); (focus assumption); rintro e w6 ⟨rfl, h6⟩))
        rename_i hHeld
        clear hHeld
        go_upto_region 13 with fail
        have hd2 := h6.drew
        clear h6 hd
        have c1 := C1.out
        have c2 := C2.out
        go_region_held3 (fun V => St w [(bq, .cells #[.int .i64 p0, .int .i64 q0, .int .i64 o0, .int .i64 p1, .int .i64 q1, .int .i64 o1, .int .i64 p2, .int .i64 q2, .int .i64 o2] 50)] V ∧ V.cell? ⟨bq, 6, none⟩ = some (.int .i64 p2) ∧ V.cell? ⟨bq, 7, none⟩ = some (.int .i64 q2) ∧ V.cell? ⟨bq, 8, none⟩ = some (.int .i64 o2)) ((refine HP.out _ ?_; assumption)) (first | fail)
        rename_i hHeld
        obtain ⟨h7, _⟩ := hHeld
        go_wp2_with fail
        go_roundw
        case rel => exact ⟨3, by omega, by omega, rfl, h7⟩
        case measure => simp [intOf]
      · go_wp2_with fail
        go_ret
        exact ⟨rfl, h5.below⟩

set_option maxRecDepth 100000 in
theorem lifted (os : Os) (started : os.Started) (H : Type) (enc : TypeId × Value → H) :
    ReturnsInHanded {} Try.checked os 9 .any (Rows.pixelBoundsSpec.pre6 enc Try.prog Try.f9 Rows.pixelBoundsRow.domain false) (Rows.pixelBoundsSpec.post enc Try.prog Try.f9 false true false false) := by
  refine returnsInHanded_of_change_sized (C := Try.checked) own started (by kernel_rfl) Try.func9
    (ChangeSpec.witness6 (enc := enc) (C := Try.checked) false ⟨#[], #[pv 0 0 0 0, pv 0 0 0 0, .agg #[.int .i64 0, .int .i64 0]], []⟩ 8 (by kernel_rfl) (by kernel_rfl) (by kernel_rfl) (by kernel_rfl)) ?_
  intro W base args ds gs before hval0 hW _ _ _
  have hval : ∀ (j : Nat) t v, Try.f9.params[j]? = some t → args[j]? = some v → Value.okWide Try.prog W .any base t v := hval0
  have hW' := hW
  obtain ⟨p, q, hA0, hV, rfl, hfz, hnd⟩ := hW
  have hA : DataW.TrodAll enc Try.prog W 0 (fun _ => true) true Try.f9.params.toList args.toList ds p := hA0
  rw [Try.params9] at hA hval
  obtain ⟨v0, v1, v2, d0, d1, d2, p0, p1, p2, rfl, rfl, rfl, h0, h1, h2⟩ := trodAll_three hA
  obtain ⟨rfl, rfl⟩ := trodVars_none hV
  obtain ⟨p0, p1, p2, p3, rfl, hp0, hp1, hp2, hp3⟩ := agg_pix (hval 0 27 v0 rfl rfl)
  obtain ⟨q0, q1, q2, q3, rfl, hq0, hq1, hq2, hq3⟩ := agg_pix (hval 1 27 v1 rfl rfl)
  obtain ⟨x0, x1, rfl⟩ := agg_n2 (hval 2 28 v2 rfl rfl)
  refine (walk p0 p1 p2 p3 q0 q1 q2 q3 x0 x1 W hp0 hp1 hp2 hp3 hq0 hq1 hq2 hq3).mono fun e W' ⟨he, hb⟩ => ?_
  subst he
  exact ⟨_, rfl, law_post hW' rfl (by kernel_rfl) rfl (by intro t ht; rw [Try.params9] at ht; simp at ht; rcases ht with rfl | rfl <;> exact ⟨by kernel_rfl, of_decide_eq_true (by kernel_rfl)⟩) hb⟩

theorem holds : Rows.PixelBoundsSaid :=
  OpenClaim.holds_of_wide 9 Try.f9 rfl rfl rfl rfl rfl rfl rfl ⟨rfl, rfl, rfl, rfl, rfl⟩ rfl rfl rfl rfl rfl (by kernel_rfl) Try.func9 (by kernel_rfl)
    (of_decide_eq_true (by kernel_rfl)) (by unfold Func.isWrapper; first | (rw [if_pos (by decide +kernel)]; kernel_rfl) | (rw [if_neg (by decide +kernel)]; exact ⟨rfl, rfl⟩))
    (fun os started H enc _ => lifted os started H enc)
end Go.Proofs.Ytfclbfliebdopaa.LBounds
