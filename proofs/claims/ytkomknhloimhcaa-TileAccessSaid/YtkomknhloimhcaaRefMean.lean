/-
  The reference's Mean: Add (contract).
-/
import Derived.Test.YtkomknhloimhcaaMean
namespace Go.Proofs.Ytkomknhloimhcaa
open Go.RowKit

set_option maxRecDepth 100000 in
set_option maxHeartbeats 8000000 in
theorem refAdd_any {W : World} {L : List (Nat × Obj)} (bm : Nat) (n a x y z r g b al k : Int) (w : World) (h : St W ((bm, mr n a x y z) :: L) w) (hbm : W.heap.size ≤ bm) (hL : ∀ x ∈ L, x.1 ≠ bm)
    (hM : Mb n a x y z) (hn : n ≤ 68719411200) (hr : Ch r) (hg : Ch g) (hb : Ch b) (ha : Ch al) :
    Calls Try.prog 56 #[ptr bm, pv r g b al, .int .i64 k] w fun e w' => e = .returned (.tuple #[]) ∧ St W ((bm, mr (n + cnt k) (a + cnt k * al) (x + cnt k * al * r) (y + cnt k * al * g) (z + cnt k * al * b)) :: L) w' := by
  have hM' := hM.add (k := k) hn hr hg hb ha
  have hc := cnt_le k
  by_cases hk : k < 1
  · have hc0 : cnt k = 0 := if_pos hk
    rw [hc0]
    simp only [Int.zero_mul, Int.add_zero]
    go_enter Try.func56, Try.ntmps56
    go_wp2
    refine bodyPost_ret (results_none rfl _ _ _) rfl ?_
    exact ⟨rfl, (h.alloc _).sub (fun x hx => List.mem_cons_of_mem _ hx)⟩
  have hmn : ∀ (ts : Array TypeId) (t : TypeId) (w : World), (Builtin.min_ ts t #[.int .i64 k, .int .i64 65536]).run Try.prog w = .ok (.int .i64 (cnt k)) w := fun ts t w => by
    have hc1 : cnt k = if (65536 : Int) < k then 65536 else k := if_neg hk
    rw [hc1]; simp only [run_min_int2]
  generalize cnt k = c at *
  have h1 := nn hc ha
  have kr := w64 hr; have kg := w64 hg; have kb := w64 hb; have ka := w64 ha
  generalize hq : c * al = q at *
  have hq' : al * c = q := by rw [Int.mul_comm]; exact hq
  have q0 : IntKind.i64.wrap (al * c) = q := by rw [hq']; exact w64m ⟨by omega, by omega⟩
  have q1 : IntKind.i64.wrap q = q := w64m ⟨by omega, by omega⟩
  have z1 := nn h1 hr
  have z2 := nn h1 hg
  have z3 := nn h1 hb
  obtain ⟨m1, m2, m3, m4, m5⟩ := hM'
  obtain ⟨o1, o2, o3, o4, o5⟩ := hM
  have n1 : IntKind.i64.wrap (n + c) = n + c := w64m ⟨by omega, by omega⟩
  have n2 : IntKind.i64.wrap (a + q) = a + q := w64m ⟨by omega, by omega⟩
  have n3 : IntKind.i64.wrap (x + q * r) = x + q * r := w64m ⟨by omega, by omega⟩
  have n4 : IntKind.i64.wrap (y + q * g) = y + q * g := w64m ⟨by omega, by omega⟩
  have n5 : IntKind.i64.wrap (z + q * b) = z + q * b := w64m ⟨by omega, by omega⟩
  have n6 : IntKind.i64.wrap (q * r) = q * r := w64m ⟨by omega, by omega⟩
  have n7 : IntKind.i64.wrap (q * g) = q * g := w64m ⟨by omega, by omega⟩
  have n8 : IntKind.i64.wrap (q * b) = q * b := w64m ⟨by omega, by omega⟩
  have hlt := h.lt (b := bm) (o := mr n a x y z) (by simp)
  go_enter Try.func56, Try.ntmps56
  go_upto_region 1 with fail
  have h2 : St W ((bm, mr n a x y z) :: (w.heap.size, po r g b al) :: L) (w.alloc (po r g b al)) := (h.alloc (po r g b al)).sub (fun x hx => by simp only [List.mem_cons] at hx ⊢; rcases hx with h | h | h <;> simp [h])
  have hL2 : ∀ x ∈ (w.heap.size, po r g b al) :: L, x.1 ≠ bm := fun x hx => by
    rcases List.mem_cons.1 hx with rfl | hx
    · exact (Nat.ne_of_gt hlt)
    · exact hL x hx
  generalize w.alloc (po r g b al) = w1 at h2 ⊢
  generalize w.heap.size = bp at h2 hL2 ⊢
  obtain ⟨⟨c0, c1, c2, c3, c4⟩, f0⟩ := h2.five (b := bm) (x0 := a) (x1 := x) (x2 := y) (x3 := z) (x4 := n) (t := 68) (by simp)
  obtain ⟨p0, p1, p2, p3⟩ := h2.pix (b := bp) (x0 := r) (x1 := g) (x2 := b) (x3 := al) (by simp)
  have hne : bp ≠ bm := hL2 (bp, po r g b al) (by simp)
  go_upto_region 6 with fail
  have h3 := (h2.put (j := 4) (v := .int .i64 (n + c)) hbm hL2).put (j := 0) (v := .int .i64 (a + q)) hbm hL2
  simp only [List.setIfInBounds_toArray, List.set_cons_zero, List.set_cons_succ] at h3
  generalize (w1.setCell ⟨bm, 4, none⟩ (.int .i64 (n + c))).setCell ⟨bm, 0, none⟩ (.int .i64 (a + q)) = w2 at h3 ⊢
  clear h2 c0 c1 c2 c3 c4 f0 p0 p1 p2 p3
  go_upto_region 6 with fail
  have hd := h3.drew
  refine wp_region_still_tail 13 (by kernel_rfl) (by kernel_rfl) ?_
  rw [drew_eq w2]
  generalize w2.drew = wd6 at hd ⊢
  obtain ⟨⟨c0, c1, c2, c3, c4⟩, f0⟩ := hd.five (b := bm) (x0 := a + q) (x1 := x) (x2 := y) (x3 := z) (x4 := n + c) (t := 68) (by simp)
  obtain ⟨p0, p1, p2, p3⟩ := hd.pix (b := bp) (x0 := r) (x1 := g) (x2 := b) (x3 := al) (by simp)
  simp only [List.take_succ_cons, List.take_zero, List.drop_succ_cons, List.drop_zero]
  repeat still_step
  refine wpStill_nil ?_
  go_upto_region 7 with fail
  clear c0 c1 c2 c3 c4 f0 p0 p1 p2 p3 h3
  have h4 := hd.put (j := 1) (v := .int .i64 (x + q * r)) hbm hL2
  simp only [List.setIfInBounds_toArray, List.set_cons_zero, List.set_cons_succ] at h4
  generalize wd6.setCell ⟨bm, 1, none⟩ (.int .i64 (x + q * r)) = w3 at h4 ⊢
  clear hd
  go_upto_region 7 with fail
  have hd := h4.drew
  refine wp_region_still_tail 13 (by kernel_rfl) (by kernel_rfl) ?_
  rw [drew_eq w3]
  generalize w3.drew = wd7 at hd ⊢
  obtain ⟨⟨c0, c1, c2, c3, c4⟩, f0⟩ := hd.five (b := bm) (x0 := a + q) (x1 := x + q * r) (x2 := y) (x3 := z) (x4 := n + c) (t := 68) (by simp)
  obtain ⟨p0, p1, p2, p3⟩ := hd.pix (b := bp) (x0 := r) (x1 := g) (x2 := b) (x3 := al) (by simp)
  simp only [List.take_succ_cons, List.take_zero, List.drop_succ_cons, List.drop_zero]
  repeat still_step
  refine wpStill_nil ?_
  go_upto_region 8 with fail
  clear c0 c1 c2 c3 c4 f0 p0 p1 p2 p3 h4
  have h5 := hd.put (j := 2) (v := .int .i64 (y + q * g)) hbm hL2
  simp only [List.setIfInBounds_toArray, List.set_cons_zero, List.set_cons_succ] at h5
  generalize wd7.setCell ⟨bm, 2, none⟩ (.int .i64 (y + q * g)) = w4 at h5 ⊢
  clear hd
  go_upto_region 8 with fail
  have hd := h5.drew
  refine wp_region_still_tail 13 (by kernel_rfl) (by kernel_rfl) ?_
  rw [drew_eq w4]
  generalize w4.drew = wd8 at hd ⊢
  obtain ⟨⟨c0, c1, c2, c3, c4⟩, f0⟩ := hd.five (b := bm) (x0 := a + q) (x1 := x + q * r) (x2 := y + q * g) (x3 := z) (x4 := n + c) (t := 68) (by simp)
  obtain ⟨p0, p1, p2, p3⟩ := hd.pix (b := bp) (x0 := r) (x1 := g) (x2 := b) (x3 := al) (by simp)
  simp only [List.take_succ_cons, List.take_zero, List.drop_succ_cons, List.drop_zero]
  repeat still_step
  refine wpStill_nil ?_
  go_wp2_with fail
  clear c0 c1 c2 c3 c4 f0 p0 p1 p2 p3 h5
  have h6 := hd.put (j := 3) (v := .int .i64 (z + q * b)) hbm hL2
  simp only [List.setIfInBounds_toArray, List.set_cons_zero, List.set_cons_succ] at h6
  generalize wd8.setCell ⟨bm, 3, none⟩ (.int .i64 (z + q * b)) = w5 at h6 ⊢
  go_end0
  exact ⟨rfl, h6.sub (fun x hx => by simp only [List.mem_cons] at hx ⊢; rcases hx with h | h <;> simp [h])⟩
end Go.Proofs.Ytkomknhloimhcaa
