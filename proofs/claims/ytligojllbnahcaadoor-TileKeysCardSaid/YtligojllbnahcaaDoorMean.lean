/-
  A Mean's Add, of pixel and of the reference (contracts).
-/
import Derived.Test.YtligojllbnahcaaDoorIdent
namespace Go.Proofs.YtligojllbnahcaaDoor
open Go.RowKit

/-- a Mean in memory, of pixel and of the reference: the number, the sum of the alphas, the sums of the channels -/
abbrev mo (n a x y z : Int) : Obj := .cells #[.int .i64 n, .int .i64 a, .int .i64 x, .int .i64 y, .int .i64 z] 84
abbrev C5 (V : World) (b : Nat) (x0 x1 x2 x3 x4 : Int) : Prop :=
  (V.cell? ⟨b, 0, none⟩ = some (.int .i64 x0) ∧ V.cell? ⟨b, 1, none⟩ = some (.int .i64 x1) ∧ V.cell? ⟨b, 2, none⟩ = some (.int .i64 x2) ∧ V.cell? ⟨b, 3, none⟩ = some (.int .i64 x3) ∧ V.cell? ⟨b, 4, none⟩ = some (.int .i64 x4)) ∧ ∀ j, V.frozen? ⟨b, j, none⟩ = false
theorem St.five {W w : World} {L : List (Nat × Obj)} (h : St W L w) {b : Nat} {x0 x1 x2 x3 x4 : Int} {t : TypeId} (hm : (b, .cells #[.int .i64 x0, .int .i64 x1, .int .i64 x2, .int .i64 x3, .int .i64 x4] t) ∈ L) : C5 w b x0 x1 x2 x3 x4 :=
  ⟨⟨h.cell hm 0, h.cell hm 1, h.cell hm 2, h.cell hm 3, h.cell hm 4⟩, fun j => h.frozen hm j⟩
theorem drew_eq (w : World) : ({ heap := w.heap, tape := w.tape, drawn := w.drawn + 1, os := w.os, output := w.output } : World) = w.drew := rfl
/-- how often a pixel is added -/
def cnt (k : Int) : Int := if k < 1 then 0 else if 65536 < k then 65536 else k
theorem cnt_le (k : Int) : 0 ≤ cnt k ∧ cnt k ≤ 65536 := by unfold cnt; (repeat' split) <;> omega
/-- what the sums of a Mean obey -/
def Mb (n a x y z : Int) : Prop := (0 ≤ n ∧ n ≤ 68719476736) ∧ (0 ≤ a ∧ a ≤ 255 * n) ∧ (0 ≤ x ∧ x ≤ 255 * a) ∧ (0 ≤ y ∧ y ≤ 255 * a) ∧ (0 ≤ z ∧ z ≤ 255 * a)
theorem Mb.add {n a x y z k r g b al : Int} (h : Mb n a x y z) (hn : n ≤ 68719411200) (hr : Ch r) (hg : Ch g) (hb : Ch b) (ha : Ch al) :
    Mb (n + cnt k) (a + cnt k * al) (x + cnt k * al * r) (y + cnt k * al * g) (z + cnt k * al * b) := by
  have hc := cnt_le k
  generalize cnt k = c at *
  have h1 := nn hc ha
  have h1' : c * al ≤ 255 * c := by rw [Int.mul_comm 255]; exact Int.mul_le_mul_of_nonneg_left ha.2 hc.1
  have q : ∀ v, Ch v → 0 ≤ c * al * v ∧ c * al * v ≤ 255 * (c * al) := fun v hv => ⟨Int.mul_nonneg h1.1 hv.1, by rw [Int.mul_comm 255]; exact Int.mul_le_mul_of_nonneg_left hv.2 h1.1⟩
  have hr' := q r hr
  have hg' := q g hg
  have hb' := q b hb
  obtain ⟨h2, h3, h4, h5, h6⟩ := h
  refine ⟨?_, ?_, ?_, ?_, ?_⟩ <;> constructor <;> omega

theorem add_nil (r g b al k : Int) (w : World) : Calls Tryd.prog 44 #[.pointer none, pv r g b al, .int .i64 k] w fun e w' => e = .returned (.tuple #[]) ∧ Below w.heap.size w w' := by
  go_enter Tryd.func44, Tryd.ntmps44
  go_wp2
  refine bodyPost_ret (results_none rfl _ _ _) rfl ?_
  exact ⟨rfl, below1⟩
set_option maxRecDepth 100000 in
set_option maxHeartbeats 8000000 in
theorem add_any {W : World} {L : List (Nat × Obj)} (bm : Nat) (n a x y z r g b al k : Int) (w : World) (h : St W ((bm, mo n a x y z) :: L) w) (hbm : W.heap.size ≤ bm) (hL : ∀ x ∈ L, x.1 ≠ bm)
    (hM : Mb n a x y z) (hn : n ≤ 68719411200) (hr : Ch r) (hg : Ch g) (hb : Ch b) (ha : Ch al) :
    Calls Tryd.prog 44 #[ptr bm, pv r g b al, .int .i64 k] w fun e w' => e = .returned (.tuple #[]) ∧ St W ((bm, mo (n + cnt k) (a + cnt k * al) (x + cnt k * al * r) (y + cnt k * al * g) (z + cnt k * al * b)) :: L) w' := by
  have hM' := hM.add (k := k) hn hr hg hb ha
  have hc := cnt_le k
  by_cases hk : k < 1
  · have hc0 : cnt k = 0 := if_pos hk
    rw [hc0]
    simp only [Int.zero_mul, Int.add_zero]
    go_enter Tryd.func44, Tryd.ntmps44
    go_wp2
    refine bodyPost_ret (results_none rfl _ _ _) rfl ?_
    exact ⟨rfl, (h.alloc _).sub (fun x hx => List.mem_cons_of_mem _ hx)⟩
  have hmn : ∀ (ts : Array TypeId) (t : TypeId) (w : World), (Builtin.min_ ts t #[.int .i64 k, .int .i64 65536]).run Tryd.prog w = .ok (.int .i64 (cnt k)) w := fun ts t w => by
    have hc1 : cnt k = if (65536 : Int) < k then 65536 else k := if_neg hk
    rw [hc1]; simp only [run_min_int2]
  generalize cnt k = c at *
  have h1 := nn hc ha
  have kr := w64 hr; have kg := w64 hg; have kb := w64 hb; have ka := w64 ha
  generalize hq : c * al = q at *
  have q1 : IntKind.i64.wrap q = q := w64m ⟨by omega, by omega⟩
  have z1 := nn h1 hr
  have z2 := nn h1 hg
  have z3 := nn h1 hb
  obtain ⟨m1, m2, m3, m4, m5⟩ := hM'
  obtain ⟨o1, o2, o3, o4, o5⟩ := hM
  have n1 : IntKind.i64.wrap (n + c) = n + c := w64m ⟨by omega, by omega⟩
  have n2 : IntKind.i64.wrap (a + q) = a + q := w64m ⟨by omega, by omega⟩
  have n3 : IntKind.i64.wrap (x + q * r) = x + q * r := w64m ⟨by omega, by omega⟩
  have n4 : IntKind.i64.wrap (y + q * g) = y + q * g := w64m ⟨by omega, by omega⟩
  have n5 : IntKind.i64.wrap (z + q * b) = z + q * b := w64m ⟨by omega, by omega⟩
  have n6 : IntKind.i64.wrap (q * r) = q * r := w64m ⟨by omega, by omega⟩
  have n7 : IntKind.i64.wrap (q * g) = q * g := w64m ⟨by omega, by omega⟩
  have n8 : IntKind.i64.wrap (q * b) = q * b := w64m ⟨by omega, by omega⟩
  have hlt := h.lt (b := bm) (o := mo n a x y z) (by simp)
  have i0 : ∀ w, (Instr.index 98 (.agg #[.int .u8 r, .int .u8 g, .int .u8 b]) (.int .i64 0)).run Tryd.prog w = .ok (.int .u8 r) w := fun _ => rfl
  have i1 : ∀ w, (Instr.index 98 (.agg #[.int .u8 r, .int .u8 g, .int .u8 b]) (.int .i64 1)).run Tryd.prog w = .ok (.int .u8 g) w := fun _ => rfl
  have i2 : ∀ w, (Instr.index 98 (.agg #[.int .u8 r, .int .u8 g, .int .u8 b]) (.int .i64 2)).run Tryd.prog w = .ok (.int .u8 b) w := fun _ => rfl
  go_enter Tryd.func44, Tryd.ntmps44
  go_upto_region 1 with fail
  have h2 : St W ((bm, mo n a x y z) :: (w.heap.size, po r g b al) :: L) (w.alloc (po r g b al)) := (h.alloc (po r g b al)).sub (fun x hx => by simp only [List.mem_cons] at hx ⊢; rcases hx with h | h | h <;> simp [h])
  have hL2 : ∀ x ∈ (w.heap.size, po r g b al) :: L, x.1 ≠ bm := fun x hx => by
    rcases List.mem_cons.1 hx with rfl | hx
    · exact (Nat.ne_of_gt hlt)
    · exact hL x hx
  generalize w.alloc (po r g b al) = w1 at h2 ⊢
  generalize w.heap.size = bp at h2 hL2 ⊢
  obtain ⟨⟨c0, c1, c2, c3, c4⟩, f0⟩ := h2.five (b := bm) (x0 := n) (x1 := a) (x2 := x) (x3 := y) (x4 := z) (t := 84) (by simp)
  obtain ⟨p0, p1, p2, p3⟩ := h2.pix (b := bp) (x0 := r) (x1 := g) (x2 := b) (x3 := al) (by simp)
  have hne : bp ≠ bm := hL2 (bp, po r g b al) (by simp)
  go_upto_region 7 with fail
  have h3 := (h2.put (j := 0) (v := .int .i64 (n + c)) hbm hL2).put (j := 1) (v := .int .i64 (a + q)) hbm hL2
  simp only [List.setIfInBounds_toArray, List.set_cons_zero, List.set_cons_succ] at h3
  generalize (w1.setCell ⟨bm, 0, none⟩ (.int .i64 (n + c))).setCell ⟨bm, 1, none⟩ (.int .i64 (a + q)) = w2 at h3 ⊢
  clear h2 c0 c1 c2 c3 c4 f0 p0 p1 p2 p3
  go_loopw [45] (fun v wr => ∃ K : Int, 0 ≤ K ∧ K ≤ 3 ∧ v = .int .i64 K ∧ Hid (St W ((bm, mo (n + c) (a + q) (if 0 < K then x + q * r else x) (if 1 < K then y + q * g else y) (if 2 < K then z + q * b else z)) :: (bp, po r g b al) :: L) wr)) (fun v _ => 3 - (intOf v).toNat)
  case atStart => exact ⟨0, by omega, by omega, rfl, h3⟩
  case round =>
    obtain ⟨K, hk0, hk3, rfl, HS⟩ := hrel
    have h5 := HS.out
    clear HS h3
    rcases (by omega : K = 0 ∨ K = 1 ∨ K = 2 ∨ K = 3) with rfl | rfl | rfl | rfl
    · have h6 : St W ((bm, mo (n + c) (a + q) (x) (y) (z)) :: (bp, po r g b al) :: L) wr := h5
      clear h5
      have hd := h6.drew
      go_upto_region 9 with fail
      refine wp_region_still_tail 14 (by kernel_rfl) (by kernel_rfl) ?_
      rw [drew_eq wr]
      generalize wr.drew = wd at hd ⊢
      obtain ⟨⟨c0, c1, c2, c3, c4⟩, f0⟩ := hd.five (b := bm) (x0 := n + c) (x1 := a + q) (x2 := x) (x3 := y) (x4 := z) (t := 84) (by simp)
      simp only [List.take_succ_cons, List.take_zero, List.drop_succ_cons, List.drop_zero]
      repeat still_step
      refine wpStill_nil ?_
      go_wp2_with fail
      go_roundw
      case rel =>
        have h7 := hd.put (j := 2) (v := .int .i64 (x + q * r)) hbm hL2
        simp only [List.setIfInBounds_toArray, List.set_cons_zero, List.set_cons_succ] at h7
        exact ⟨1, by omega, by omega, rfl, h7⟩
      case measure => simp [intOf]
    · have h6 : St W ((bm, mo (n + c) (a + q) (x + q * r) (y) (z)) :: (bp, po r g b al) :: L) wr := h5
      clear h5
      have hd := h6.drew
      go_upto_region 9 with fail
      refine wp_region_still_tail 14 (by kernel_rfl) (by kernel_rfl) ?_
      rw [drew_eq wr]
      generalize wr.drew = wd at hd ⊢
      obtain ⟨⟨c0, c1, c2, c3, c4⟩, f0⟩ := hd.five (b := bm) (x0 := n + c) (x1 := a + q) (x2 := x + q * r) (x3 := y) (x4 := z) (t := 84) (by simp)
      simp only [List.take_succ_cons, List.take_zero, List.drop_succ_cons, List.drop_zero]
      repeat still_step
      refine wpStill_nil ?_
      go_wp2_with fail
      go_roundw
      case rel =>
        have h7 := hd.put (j := 3) (v := .int .i64 (y + q * g)) hbm hL2
        simp only [List.setIfInBounds_toArray, List.set_cons_zero, List.set_cons_succ] at h7
        exact ⟨2, by omega, by omega, rfl, h7⟩
      case measure => simp [intOf]
    · have h6 : St W ((bm, mo (n + c) (a + q) (x + q * r) (y + q * g) (z)) :: (bp, po r g b al) :: L) wr := h5
      clear h5
      have hd := h6.drew
      go_upto_region 9 with fail
      refine wp_region_still_tail 14 (by kernel_rfl) (by kernel_rfl) ?_
      rw [drew_eq wr]
      generalize wr.drew = wd at hd ⊢
      obtain ⟨⟨c0, c1, c2, c3, c4⟩, f0⟩ := hd.five (b := bm) (x0 := n + c) (x1 := a + q) (x2 := x + q * r) (x3 := y + q * g) (x4 := z) (t := 84) (by simp)
      simp only [List.take_succ_cons, List.take_zero, List.drop_succ_cons, List.drop_zero]
      repeat still_step
      refine wpStill_nil ?_
      go_wp2_with fail
      go_roundw
      case rel =>
        have h7 := hd.put (j := 4) (v := .int .i64 (z + q * b)) hbm hL2
        simp only [List.setIfInBounds_toArray, List.set_cons_zero, List.set_cons_succ] at h7
        exact ⟨3, by omega, by omega, rfl, h7⟩
      case measure => simp [intOf]
    · have h6 : St W ((bm, mo (n + c) (a + q) (x + q * r) (y + q * g) (z + q * b)) :: (bp, po r g b al) :: L) wr := h5
      go_wp2_with fail
      go_end0
      exact ⟨rfl, h6.sub (fun x hx => by simp only [List.mem_cons] at hx ⊢; rcases hx with h | h <;> simp [h])⟩
end Go.Proofs.YtligojllbnahcaaDoor
