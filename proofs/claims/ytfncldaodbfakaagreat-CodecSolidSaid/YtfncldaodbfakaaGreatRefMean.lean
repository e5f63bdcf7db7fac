/-
  The reference's Mean: Add (contract). A Mean's Pixel, of pixel and of the reference (contracts). The reference's Mean: Pixel (contract).
-/
import Derived.Test.YtfncldaodbfakaaGreatOver1
namespace Go.Proofs.YtfncldaodbfakaaGreat
open Go.RowKit

set_option maxRecDepth 100000 in
set_option maxHeartbeats 8000000 in
theorem refAdd_any {W : World} {L : List (Nat × Obj)} (bm : Nat) (n a x y z r g b al k : Int) (w : World) (h : St W ((bm, mr n a x y z) :: L) w) (hbm : W.heap.size ≤ bm) (hL : ∀ x ∈ L, x.1 ≠ bm)
    (hM : Mb n a x y z) (hn : n ≤ 68719411200) (hr : Ch r) (hg : Ch g) (hb : Ch b) (ha : Ch al) :
    Calls Tryz.prog 97 #[ptr bm, pv r g b al, .int .i64 k] w fun e w' => e = .returned (.tuple #[]) ∧ St W ((bm, mr (n + cnt k) (a + cnt k * al) (x + cnt k * al * r) (y + cnt k * al * g) (z + cnt k * al * b)) :: L) w' := by
  have hM' := hM.add (k := k) hn hr hg hb ha
  have hc := cnt_le k
  by_cases hk : k < 1
  · have hc0 : cnt k = 0 := if_pos hk
    rw [hc0]
    simp only [Int.zero_mul, Int.add_zero]
    go_enter Tryz.func97, Tryz.ntmps97
    go_wp2
    refine bodyPost_ret (results_none rfl _ _ _) rfl ?_
    exact ⟨rfl, (h.alloc _).sub (fun x hx => List.mem_cons_of_mem _ hx)⟩
  have hmn : ∀ (ts : Array TypeId) (t : TypeId) (w : World), (Builtin.min_ ts t #[.int .i64 k, .int .i64 65536]).run Tryz.prog w = .ok (.int .i64 (cnt k)) w := fun ts t w => by
    have hc1 : cnt k = if (65536 : Int) < k then 65536 else k := if_neg hk
    rw [hc1]; simp only [run_min_int2]
  generalize cnt k = c at *
  have h1 := nn hc ha
  have kr := w64 hr; have kg := w64 hg; have kb := w64 hb; have ka := w64 ha
  generalize hq : c * al = q at *
  have hq' : al * c = q := by rw [Int.mul_comm]; exact hq
  have q0 : IntKind.i64.wrap (al * c) = q := by rw [hq']; exact w64m ⟨by omega, by omega⟩
  have q1 : IntKind.i64.wrap q = q := w64m ⟨by omega, by omega⟩
  have z1 := nn h1 hr
  have z2 := nn h1 hg
  have z3 := nn h1 hb
  obtain ⟨m1, m2, m3, m4, m5⟩ := hM'
  obtain ⟨o1, o2, o3, o4, o5⟩ := hM
  have n1 : IntKind.i64.wrap (n + c) = n + c := w64m ⟨by omega, by omega⟩
  have n2 : IntKind.i64.wrap (a + q) = a + q := w64m ⟨by omega, by omega⟩
  have n3 : IntKind.i64.wrap (x + q * r) = x + q * r := w64m ⟨by omega, by omega⟩
  have n4 : IntKind.i64.wrap (y + q * g) = y + q * g := w64m ⟨by omega, by omega⟩
  have n5 : IntKind.i64.wrap (z + q * b) = z + q * b := w64m ⟨by omega, by omega⟩
  have n6 : IntKind.i64.wrap (q * r) = q * r := w64m ⟨by omega, by omega⟩
  have n7 : IntKind.i64.wrap (q * g) = q * g := w64m ⟨by omega, by omega⟩
  have n8 : IntKind.i64.wrap (q * b) = q * b := w64m ⟨by omega, by omega⟩
  have hlt := h.lt (b := bm) (o := mr n a x y z) (by simp)
  go_enter Tryz.func97, Tryz.ntmps97
  go_upto_region 1 with fail
  have h2 : St W ((bm, mr n a x y z) :: (w.heap.size, po r g b al) :: L) (w.alloc (po r g b al)) := (h.alloc (po r g b al)).sub (fun x hx => by simp only [List.mem_cons] at hx ⊢; rcases hx with h | h | h <;> simp [h])
  have hL2 : ∀ x ∈ (w.heap.size, po r g b al) :: L, x.1 ≠ bm := fun x hx => by
    rcases List.mem_cons.1 hx with rfl | hx
    · exact (Nat.ne_of_gt hlt)
    · exact hL x hx
  generalize w.alloc (po r g b al) = w1 at h2 ⊢
  generalize w.heap.size = bp at h2 hL2 ⊢
  obtain ⟨⟨c0, c1, c2, c3, c4⟩, f0⟩ := h2.five (b := bm) (x0 := a) (x1 := x) (x2 := y) (x3 := z) (x4 := n) (t := 157) (by simp)
  obtain ⟨p0, p1, p2, p3⟩ := h2.pix (b := bp) (x0 := r) (x1 := g) (x2 := b) (x3 := al) (by simp)
  have hne : bp ≠ bm := hL2 (bp, po r g b al) (by simp)
  go_upto_region 6 with fail
  have h3 := (h2.put (j := 4) (v := .int .i64 (n + c)) hbm hL2).put (j := 0) (v := .int .i64 (a + q)) hbm hL2
  simp only [List.setIfInBounds_toArray, List.set_cons_zero, List.set_cons_succ] at h3
  generalize (w1.setCell ⟨bm, 4, none⟩ (.int .i64 (n + c))).setCell ⟨bm, 0, none⟩ (.int .i64 (a + q)) = w2 at h3 ⊢
  clear h2 c0 c1 c2 c3 c4 f0 p0 p1 p2 p3
  go_upto_region 6 with fail
  have hd := h3.drew
  refine wp_region_still_tail 13 (by kernel_rfl) (by kernel_rfl) ?_
  rw [drew_eq w2]
  generalize w2.drew = wd6 at hd ⊢
  obtain ⟨⟨c0, c1, c2, c3, c4⟩, f0⟩ := hd.five (b := bm) (x0 := a + q) (x1 := x) (x2 := y) (x3 := z) (x4 := n + c) (t := 157) (by simp)
  obtain ⟨p0, p1, p2, p3⟩ := hd.pix (b := bp) (x0 := r) (x1 := g) (x2 := b) (x3 := al) (by simp)
  simp only [List.take_succ_cons, List.take_zero, List.drop_succ_cons, List.drop_zero]
  repeat still_step
  refine wpStill_nil ?_
  go_upto_region 7 with fail
  clear c0 c1 c2 c3 c4 f0 p0 p1 p2 p3 h3
  have h4 := hd.put (j := 1) (v := .int .i64 (x + q * r)) hbm hL2
  simp only [List.setIfInBounds_toArray, List.set_cons_zero, List.set_cons_succ] at h4
  generalize wd6.setCell ⟨bm, 1, none⟩ (.int .i64 (x + q * r)) = w3 at h4 ⊢
  clear hd
  go_upto_region 7 with fail
  have hd := h4.drew
  refine wp_region_still_tail 13 (by kernel_rfl) (by kernel_rfl) ?_
  rw [drew_eq w3]
  generalize w3.drew = wd7 at hd ⊢
  obtain ⟨⟨c0, c1, c2, c3, c4⟩, f0⟩ := hd.five (b := bm) (x0 := a + q) (x1 := x + q * r) (x2 := y) (x3 := z) (x4 := n + c) (t := 157) (by simp)
  obtain ⟨p0, p1, p2, p3⟩ := hd.pix (b := bp) (x0 := r) (x1 := g) (x2 := b) (x3 := al) (by simp)
  simp only [List.take_succ_cons, List.take_zero, List.drop_succ_cons, List.drop_zero]
  repeat still_step
  refine wpStill_nil ?_
  go_upto_region 8 with fail
  clear c0 c1 c2 c3 c4 f0 p0 p1 p2 p3 h4
  have h5 := hd.put (j := 2) (v := .int .i64 (y + q * g)) hbm hL2
  simp only [List.setIfInBounds_toArray, List.set_cons_zero, List.set_cons_succ] at h5
  generalize wd7.setCell ⟨bm, 2, none⟩ (.int .i64 (y + q * g)) = w4 at h5 ⊢
  clear hd
  go_upto_region 8 with fail
  have hd := h5.drew
  refine wp_region_still_tail 13 (by kernel_rfl) (by kernel_rfl) ?_
  rw [drew_eq w4]
  generalize w4.drew = wd8 at hd ⊢
  obtain ⟨⟨c0, c1, c2, c3, c4⟩, f0⟩ := hd.five (b := bm) (x0 := a + q) (x1 := x + q * r) (x2 := y + q * g) (x3 := z) (x4 := n + c) (t := 157) (by simp)
  obtain ⟨p0, p1, p2, p3⟩ := hd.pix (b := bp) (x0 := r) (x1 := g) (x2 := b) (x3 := al) (by simp)
  simp only [List.take_succ_cons, List.take_zero, List.drop_succ_cons, List.drop_zero]
  repeat still_step
  refine wpStill_nil ?_
  go_wp2_with fail
  clear c0 c1 c2 c3 c4 f0 p0 p1 p2 p3 h5
  have h6 := hd.put (j := 3) (v := .int .i64 (z + q * b)) hbm hL2
  simp only [List.setIfInBounds_toArray, List.set_cons_zero, List.set_cons_succ] at h6
  generalize wd8.setCell ⟨bm, 3, none⟩ (.int .i64 (z + q * b)) = w5 at h6 ⊢
  go_end0
  exact ⟨rfl, h6.sub (fun x hx => by simp only [List.mem_cons] at hx ⊢; rcases hx with h | h <;> simp [h])⟩
end Go.Proofs.YtfncldaodbfakaaGreat

namespace Go.Proofs.YtfncldaodbfakaaGreat
open Go.RowKit

def mpx (n a x y z : Int) : Px := if n = 0 then zp else if rd a n = 0 then zp else ⟨rd x a, rd y a, rd z a, rd a n⟩
theorem pix_nil (w : World) : Calls Tryz.prog 128 #[.pointer none] w fun e w' => e = .returned (pv 0 0 0 0) ∧ Below w.heap.size w w' := by
  go_enter Tryz.func128, Tryz.ntmps128
  go_wp2
  exact bodyPost_ret (v := pv 0 0 0 0) (by simp [results, Tryz.results128, go_sem]) rfl ⟨rfl, below1⟩
theorem mean_ch {a x : Int} (h : 0 < a) (hx : 0 ≤ x ∧ x ≤ 255 * a) : Ch (rd x a) := rd_between h (by rw [Int.zero_mul]; exact hx.1) hx.2
set_option maxRecDepth 100000 in
set_option maxHeartbeats 8000000 in
theorem pix_to {W : World} {L : List (Nat × Obj)} (bm : Nat) (n a x y z A : Int) (O : Px) (w : World) (h : St W ((bm, mo n a x y z) :: L) w) (hM : Mb n a x y z) (hA : rd a n = A)
    (H0 : n = 0 → O = zp) (H1 : n ≠ 0 → A = 0 → O = zp) (H2 : n ≠ 0 → A ≠ 0 → O = ⟨rd x a, rd y a, rd z a, A⟩) :
    Calls Tryz.prog 128 #[ptr bm] w fun e w' => e = .returned (pv O.r O.g O.b O.a) ∧ Below w.heap.size w w' := by
  obtain ⟨o1, o2, o3, o4, o5⟩ := hM
  have h0 : St w ((bm, mo n a x y z) :: []) w := ⟨Below.refl _ _, fun q hq => h.rows q (by simp at hq; subst hq; simp)⟩
  have hlt := h0.lt (b := bm) (o := mo n a x y z) (by simp)
  clear h
  by_cases hn : n = 0
  · obtain rfl := H0 hn
    have h1 := h0.five (b := bm) (x0 := n) (x1 := a) (x2 := x) (x3 := y) (x4 := z) (t := 183) (by simp)
    obtain ⟨⟨c0, c1, c2, c3, c4⟩, f0⟩ := h1
    subst hn
    go_enter Tryz.func128, Tryz.ntmps128
    go_wp2
    exact bodyPost_ret (v := pv 0 0 0 0) (by simp [results, Tryz.results128, go_sem]) rfl ⟨rfl, below1⟩
  · have hn1 : 0 < n := by omega
    clear H0
    have hA1 : Ch A := by rw [← hA]; exact mean_ch hn1 o2
    go_enter Tryz.func128, Tryz.ntmps128
    go_upto_region 1 with fail
    have hs := h0.alloc (po 0 0 0 0)
    generalize w.alloc (po 0 0 0 0) = w1 at hs ⊢
    have HC : Hid (∀ V L', (bm, mo n a x y z) ∈ L' → St w L' V → C5 V bm n a x y z) := fun V L' hm h => h.five hm
    have HF : Hid (∀ V L', (w.heap.size, po 0 0 0 0) ∈ L' → St w L' V → RB V w.heap.size 0 0 0 0 ∧ ∀ j, V.frozen? ⟨w.heap.size, j, none⟩ = false) := fun V L' hm h => ⟨h.pix hm, fun j => h.frozen (cs := #[.int .u8 0, .int .u8 0, .int .u8 0, .int .u8 0]) (t := 36) hm j⟩
    obtain ⟨⟨c0, c1, c2, c3, c4⟩, _⟩ := HC.out _ _ (by simp) hs
    go_upto_region 3 with fail
    have hd := hs.drew
    clear hs c0 c1 c2 c3 c4 h0
    have HP : Hid (∀ V, St w [(w.heap.size, po 0 0 0 0), (bm, mo n a x y z)] V → St w [(w.heap.size, po 0 0 0 0), (bm, mo n a x y z)] V ∧ C5 V bm n a x y z) := fun V h => ⟨h, HC.out V _ (by simp) h⟩
    go_region_held3 (fun V => St w [(w.heap.size, po 0 0 0 0), (bm, mo n a x y z)] V ∧ C5 V bm n a x y z) ((refine HP.out _ ?_; assumption)) (first
      | (go_at_call 161; (with_reducible refine (near_st (W := w) (L := [(w.heap.size, po 0 0 0 0), (bm, mo n a x y z)]) ?_ n).mono ?_); (focus assumption); rintro e w4 ⟨b3, rfl, h4⟩; have c9 := h4.var (b := b3) (x := .int .i64 n) (t := 3) (by simp); have h5 : St w [(w.heap.size, po 0 0 0 0), (bm, mo n a x y z)] w4 := h4.sub (fun x hx => List.mem_cons_of_mem _ hx))
      | (go_at_call 192; (with_reducible refine (near1_any a n b3 _ ?_ ?_ ?_ ?_ c9).mono ?_); (focus omega); (focus omega); (focus omega); (focus omega); rw [hA]; rintro e w6 ⟨rfl, rfl⟩))
    rename_i hHeld
    clear hHeld hd
    obtain ⟨⟨t0, t1, t2, t3⟩, f0⟩ := HF.out _ _ (by simp) h5
    by_cases hA0 : A = 0
    · obtain rfl := H1 hn hA0
      clear H1 H2
      go_wp2_with fail
      exact bodyPost_ret (v := pv 0 0 0 0) (by simp [results, Tryz.results128, go_sem, *]) rfl ⟨rfl, below_set4 h5.below (by omega) _ _ _ _⟩
    · obtain rfl := H2 hn hA0
      clear H1 H2
      have ha1 : 0 < a := by
        rcases Int.lt_or_eq_of_le o2.1 with h | h
        · exact h
        · exfalso; subst h; apply hA0; rw [← hA]; unfold rd; exact Int.ediv_eq_zero_of_lt (by omega) (by omega)
      have zx := w8 (mean_ch ha1 o3)
      have zy := w8 (mean_ch ha1 o4)
      have zz := w8 (mean_ch ha1 o5)
      have zA := w8 hA1
      clear t0 t1 t2 t3 f0 h4 c9
      obtain ⟨⟨c0, c1, c2, c3, c4⟩, _⟩ := HC.out _ _ (by simp) h5
      go_upto_region 7 with (go_at_call 161; (with_reducible refine (near_st h5 a).mono ?_); rintro e w5 ⟨b4, rfl, h6⟩)
      have hd := h6.drew
      clear h5 c0 c1 c2 c3 c4
      obtain ⟨⟨t0, t1, t2, t3⟩, f0⟩ := HF.out _ _ (by simp) h6
      obtain ⟨⟨s0, s1, s2, s3⟩, g0⟩ := HF.out _ _ (by simp) hd
      have hd3 : St w [(b4, vo (.int .i64 a) 3), (bm, mo n a x y z)] w5 := h6.sub (by simp)
      clear h6
      have hb4 : b4 ≠ w.heap.size := fun e => by
        have r1 := hd.row (b := b4) (o := vo (.int .i64 a) 3) (by simp)
        have r2 := hd.row (b := w.heap.size) (o := po 0 0 0 0) (by simp)
        rw [e, r2] at r1; simp at r1
      have hd2 : St w [(b4, vo (.int .i64 a) 3), (bm, mo n a x y z)] w5.drew := hd.sub (by simp)
      have HP2 : Hid (∀ V, St w [(b4, vo (.int .i64 a) 3), (bm, mo n a x y z)] V → St w [(b4, vo (.int .i64 a) 3), (bm, mo n a x y z)] V ∧ C5 V bm n a x y z) := fun V h => ⟨h, HC.out V _ (by simp) h⟩
      have HN : Hid (∀ V, St w [(b4, vo (.int .i64 a) 3), (bm, mo n a x y z)] V → V.cell? ⟨b4, 0, none⟩ = some (.int .i64 a)) := fun V h => h.var (t := 3) (by simp)
      have HT : Hid (∀ V j v, St w [(b4, vo (.int .i64 a) 3), (bm, mo n a x y z)] V → St w [(b4, vo (.int .i64 a) 3), (bm, mo n a x y z)] (V.setCell ⟨w.heap.size, j, none⟩ v)) := fun V j v h => h.set (Nat.le_refl _) (by simp; exact ⟨hb4, by omega⟩)
      have HD : Hid (∀ V, St w [(b4, vo (.int .i64 a) 3), (bm, mo n a x y z)] V → St w [(b4, vo (.int .i64 a) 3), (bm, mo n a x y z)] V.drew) := fun V h => h.drew
      have hc4 := HN.out _ hd2
      go_region_held3 (fun V => St w [(b4, vo (.int .i64 a) 3), (bm, mo n a x y z)] V ∧ C5 V bm n a x y z) ((refine HP2.out _ ?_; repeat' (first | assumption | refine HT.out _ _ _ ?_ | refine HD.out _ ?_))) (first
        | (go_at_call 192; (with_reducible refine (near1_any _ a b4 _ ?_ ?_ ?_ ?_ hc4).mono ?_); (focus omega); (focus omega); (focus omega); (focus omega); rintro e w6 ⟨rfl, rfl⟩))
      all_goals
        go_wp2_with fail
        exact bodyPost_ret (v := pv (rd x a) (rd y a) (rd z a) A) (by simp [results, Tryz.results128, go_sem, *]) rfl ⟨rfl, by first | exact below_set4 hd2.below (by omega) _ _ _ _ | exact (below_set4 hd3.below (by omega) _ _ _ _).drew⟩
theorem mpx_cases (n a x y z : Int) : (n = 0 → mpx n a x y z = zp) ∧ (n ≠ 0 → rd a n = 0 → mpx n a x y z = zp) ∧ (n ≠ 0 → rd a n ≠ 0 → mpx n a x y z = ⟨rd x a, rd y a, rd z a, rd a n⟩) :=
  ⟨fun h => if_pos h, fun h h2 => by unfold mpx; rw [if_neg h, if_pos h2], fun h h2 => by unfold mpx; rw [if_neg h, if_neg h2]⟩
theorem pix_any {W : World} {L : List (Nat × Obj)} (bm : Nat) (n a x y z : Int) (w : World) (h : St W ((bm, mo n a x y z) :: L) w) (hM : Mb n a x y z) :
    Calls Tryz.prog 128 #[ptr bm] w fun e w' => e = .returned (pv (mpx n a x y z).r (mpx n a x y z).g (mpx n a x y z).b (mpx n a x y z).a) ∧ Below w.heap.size w w' :=
  pix_to bm n a x y z _ _ w h hM rfl (mpx_cases n a x y z).1 (mpx_cases n a x y z).2.1 (mpx_cases n a x y z).2.2
end Go.Proofs.YtfncldaodbfakaaGreat

namespace Go.Proofs.YtfncldaodbfakaaGreat
open Go.RowKit

set_option maxRecDepth 100000 in
set_option maxHeartbeats 8000000 in
theorem refPix_to {W : World} {L : List (Nat × Obj)} (bm : Nat) (n a x y z A : Int) (O : Px) (w : World) (h : St W ((bm, mr n a x y z) :: L) w) (hM : Mb n a x y z) (hA : rd a n = A)
    (H0 : n = 0 → O = zp) (H1 : n ≠ 0 → A = 0 → O = zp) (H2 : n ≠ 0 → A ≠ 0 → O = ⟨rd x a, rd y a, rd z a, A⟩) :
    Calls Tryz.prog 98 #[ptr bm] w fun e w' => e = .returned (pv O.r O.g O.b O.a) ∧ Below w.heap.size w w' := by
  obtain ⟨o1, o2, o3, o4, o5⟩ := hM
  have h0 : St w ((bm, mr n a x y z) :: []) w := ⟨Below.refl _ _, fun q hq => h.rows q (by simp at hq; subst hq; simp)⟩
  have hlt := h0.lt (b := bm) (o := mr n a x y z) (by simp)
  clear h
  have HC : Hid (∀ V L', (bm, mr n a x y z) ∈ L' → St w L' V → C5 V bm a x y z n) := fun V L' hm h => h.five hm
  by_cases hn : n = 0
  · obtain rfl := H0 hn
    obtain ⟨⟨c0, c1, c2, c3, c4⟩, _⟩ := HC.out _ _ (by simp) h0
    clear HC
    subst hn
    go_enter Tryz.func98, Tryz.ntmps98
    go_wp2
    exact bodyPost_ret (v := pv 0 0 0 0) (by simp [results, Tryz.results98, go_sem]) rfl ⟨rfl, below1⟩
  · have hn1 : 0 < n := by omega
    clear H0
    have hA1 : Ch A := by rw [← hA]; exact mean_ch hn1 o2
    go_enter Tryz.func98, Tryz.ntmps98
    go_upto_region 1 with fail
    have hs := h0.alloc (po 0 0 0 0)
    generalize w.alloc (po 0 0 0 0) = w1 at hs ⊢
    have HF : Hid (∀ V L', (w.heap.size, po 0 0 0 0) ∈ L' → St w L' V → RB V w.heap.size 0 0 0 0 ∧ ∀ j, V.frozen? ⟨w.heap.size, j, none⟩ = false) := fun V L' hm h => ⟨h.pix hm, fun j => h.frozen (cs := #[.int .u8 0, .int .u8 0, .int .u8 0, .int .u8 0]) (t := 36) hm j⟩
    obtain ⟨⟨c0, c1, c2, c3, c4⟩, _⟩ := HC.out _ _ (by simp) hs
    go_upto_region 3 with fail
    have hd := hs.drew
    clear hs c0 c1 c2 c3 c4 h0
    have HP : Hid (∀ V, St w [(w.heap.size, po 0 0 0 0), (bm, mr n a x y z)] V → St w [(w.heap.size, po 0 0 0 0), (bm, mr n a x y z)] V ∧ C5 V bm a x y z n) := fun V h => ⟨h, HC.out V _ (by simp) h⟩
    go_region_held3 (fun V => St w [(w.heap.size, po 0 0 0 0), (bm, mr n a x y z)] V ∧ C5 V bm a x y z n) ((refine HP.out _ ?_; assumption)) (first
      | (go_at_call 143; (with_reducible refine (refRound_any a n _ ?_ ?_ ?_ ?_).mono ?_); (focus omega); (focus omega); (focus omega); (focus omega); rw [hA]; rintro e w6 ⟨rfl, rfl⟩))
    rename_i hHeld
    obtain ⟨h5, _⟩ := hHeld
    clear hd
    generalize w1.drew = w5 at h5 ⊢
    obtain ⟨⟨t0, t1, t2, t3⟩, f0⟩ := HF.out _ _ (by simp) h5
    by_cases hA0 : A = 0
    · obtain rfl := H1 hn hA0
      clear H1 H2
      go_wp2_with fail
      exact bodyPost_ret (v := pv 0 0 0 0) (by simp [results, Tryz.results98, go_sem, *]) rfl ⟨rfl, below_set4 h5.below (by omega) _ _ _ _⟩
    · obtain rfl := H2 hn hA0
      clear H1 H2
      have ha1 : 0 < a := by
        rcases Int.lt_or_eq_of_le o2.1 with h | h
        · exact h
        · exfalso; subst h; apply hA0; rw [← hA]; unfold rd; exact Int.ediv_eq_zero_of_lt (by omega) (by omega)
      have zx := w8 (mean_ch ha1 o3)
      have zy := w8 (mean_ch ha1 o4)
      have zz := w8 (mean_ch ha1 o5)
      have zA := w8 hA1
      go_upto_region 6 with fail
      have hd := h5.drew
      obtain ⟨⟨s0, s1, s2, s3⟩, g0⟩ := HF.out _ _ (by simp) hd
      have hd2 : St w [(bm, mr n a x y z)] w5.drew := hd.sub (by simp)
      have hd3 : St w [(bm, mr n a x y z)] w5 := h5.sub (by simp)
      clear h5 hd
      have HP2 : Hid (∀ V, St w [(bm, mr n a x y z)] V → St w [(bm, mr n a x y z)] V ∧ C5 V bm a x y z n) := fun V h => ⟨h, HC.out V _ (by simp) h⟩
      have HT : Hid (∀ V j v, St w [(bm, mr n a x y z)] V → St w [(bm, mr n a x y z)] (V.setCell ⟨w.heap.size, j, none⟩ v)) := fun V j v h => h.set (Nat.le_refl _) (by simp; omega)
      have HD : Hid (∀ V, St w [(bm, mr n a x y z)] V → St w [(bm, mr n a x y z)] V.drew) := fun V h => h.drew
      go_region_held3 (fun V => St w [(bm, mr n a x y z)] V ∧ C5 V bm a x y z n) ((refine HP2.out _ ?_; repeat' (first | assumption | refine HT.out _ _ _ ?_ | refine HD.out _ ?_))) (first
        | (go_at_call 143; (with_reducible refine (refRound_any _ a _ ?_ ?_ ?_ ?_).mono ?_); (focus omega); (focus omega); (focus omega); (focus omega); rintro e w6 ⟨rfl, rfl⟩))
      all_goals
        go_wp2_with fail
        exact bodyPost_ret (v := pv (rd x a) (rd y a) (rd z a) A) (by simp [results, Tryz.results98, go_sem, *]) rfl ⟨rfl, by first | exact below_set4 hd2.below (by omega) _ _ _ _ | exact (below_set4 hd3.below (by omega) _ _ _ _).drew⟩
theorem refPix_any {W : World} {L : List (Nat × Obj)} (bm : Nat) (n a x y z : Int) (w : World) (h : St W ((bm, mr n a x y z) :: L) w) (hM : Mb n a x y z) :
    Calls Tryz.prog 98 #[ptr bm] w fun e w' => e = .returned (pv (mpx n a x y z).r (mpx n a x y z).g (mpx n a x y z).b (mpx n a x y z).a) ∧ Below w.heap.size w w' :=
  refPix_to bm n a x y z _ _ w h hM rfl (mpx_cases n a x y z).1 (mpx_cases n a x y z).2.1 (mpx_cases n a x y z).2.2
end Go.Proofs.YtfncldaodbfakaaGreat
