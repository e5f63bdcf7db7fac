/-
  A Mean's Pixel, of pixel and of the reference (contracts).
-/
import Derived.Test.YtligojllbnahcaaDoorMean
namespace Go.Proofs.YtligojllbnahcaaDoor
open Go.RowKit

def mpx (n a x y z : Int) : Px := if n = 0 then zp else if rd a n = 0 then zp else ⟨rd x a, rd y a, rd z a, rd a n⟩
theorem pix_nil (w : World) : Calls Tryd.prog 45 #[.pointer none] w fun e w' => e = .returned (pv 0 0 0 0) ∧ Below w.heap.size w w' := by
  go_enter Tryd.func45, Tryd.ntmps45
  go_wp2
  exact bodyPost_ret (v := pv 0 0 0 0) (by simp [results, Tryd.results45, go_sem]) rfl ⟨rfl, below1⟩
theorem mean_ch {a x : Int} (h : 0 < a) (hx : 0 ≤ x ∧ x ≤ 255 * a) : Ch (rd x a) := rd_between h (by rw [Int.zero_mul]; exact hx.1) hx.2
set_option maxRecDepth 100000 in
set_option maxHeartbeats 8000000 in
theorem pix_to {W : World} {L : List (Nat × Obj)} (bm : Nat) (n a x y z A : Int) (O : Px) (w : World) (h : St W ((bm, mo n a x y z) :: L) w) (hM : Mb n a x y z) (hA : rd a n = A)
    (H0 : n = 0 → O = zp) (H1 : n ≠ 0 → A = 0 → O = zp) (H2 : n ≠ 0 → A ≠ 0 → O = ⟨rd x a, rd y a, rd z a, A⟩) :
    Calls Tryd.prog 45 #[ptr bm] w fun e w' => e = .returned (pv O.r O.g O.b O.a) ∧ Below w.heap.size w w' := by
  obtain ⟨o1, o2, o3, o4, o5⟩ := hM
  have h0 : St w ((bm, mo n a x y z) :: []) w := ⟨Below.refl _ _, fun q hq => h.rows q (by simp at hq; subst hq; simp)⟩
  have hlt := h0.lt (b := bm) (o := mo n a x y z) (by simp)
  clear h
  by_cases hn : n = 0
  · obtain rfl := H0 hn
    have h1 := h0.five (b := bm) (x0 := n) (x1 := a) (x2 := x) (x3 := y) (x4 := z) (t := 84) (by simp)
    obtain ⟨⟨c0, c1, c2, c3, c4⟩, f0⟩ := h1
    subst hn
    go_enter Tryd.func45, Tryd.ntmps45
    go_wp2
    exact bodyPost_ret (v := pv 0 0 0 0) (by simp [results, Tryd.results45, go_sem]) rfl ⟨rfl, below1⟩
  · have hn1 : 0 < n := by omega
    clear H0
    have hA1 : Ch A := by rw [← hA]; exact mean_ch hn1 o2
    go_enter Tryd.func45, Tryd.ntmps45
    go_upto_region 1 with fail
    have hs := h0.alloc (po 0 0 0 0)
    generalize w.alloc (po 0 0 0 0) = w1 at hs ⊢
    have HC : Hid (∀ V L', (bm, mo n a x y z) ∈ L' → St w L' V → C5 V bm n a x y z) := fun V L' hm h => h.five hm
    have HF : Hid (∀ V L', (w.heap.size, po 0 0 0 0) ∈ L' → St w L' V → RB V w.heap.size 0 0 0 0 ∧ ∀ j, V.frozen? ⟨w.heap.size, j, none⟩ = false) := fun V L' hm h => ⟨h.pix hm, fun j => h.frozen (cs := #[.int .u8 0, .int .u8 0, .int .u8 0, .int .u8 0]) (t := 23) hm j⟩
    obtain ⟨⟨c0, c1, c2, c3, c4⟩, _⟩ := HC.out _ _ (by simp) hs
    go_upto_region 3 with fail
    have hd := hs.drew
    clear hs c0 c1 c2 c3 c4 h0
    have HP : Hid (∀ V, St w [(w.heap.size, po 0 0 0 0), (bm, mo n a x y z)] V → St w [(w.heap.size, po 0 0 0 0), (bm, mo n a x y z)] V ∧ C5 V bm n a x y z) := fun V h => ⟨h, HC.out V _ (by simp) h⟩
    go_region_held3 (fun V => St w [(w.heap.size, po 0 0 0 0), (bm, mo n a x y z)] V ∧ C5 V bm n a x y z) ((refine HP.out _ ?_; assumption)) (first
      | (go_at_call 56; (with_reducible refine (near_st (W := w) (L := [(w.heap.size, po 0 0 0 0), (bm, mo n a x y z)]) ?_ n).mono ?_); (focus assumption); rintro e w4 ⟨b3, rfl, h4⟩; have c9 := h4.var (b := b3) (x := .int .i64 n) (t := 3) (by simp); have h5 : St w [(w.heap.size, po 0 0 0 0), (bm, mo n a x y z)] w4 := h4.sub (fun x hx => List.mem_cons_of_mem _ hx))
      | (go_at_call 63; (with_reducible refine (near1_any a n b3 _ ?_ ?_ ?_ ?_ c9).mono ?_); (focus omega); (focus omega); (focus omega); (focus omega); rw [hA]; rintro e w6 ⟨rfl, rfl⟩))
    rename_i hHeld
    clear hHeld hd
    obtain ⟨⟨t0, t1, t2, t3⟩, f0⟩ := HF.out _ _ (by simp) h5
    by_cases hA0 : A = 0
    · obtain rfl := H1 hn hA0
      clear H1 H2
      go_wp2_with fail
      exact bodyPost_ret (v := pv 0 0 0 0) (by simp [results, Tryd.results45, go_sem, *]) rfl ⟨rfl, below_set4 h5.below (by omega) _ _ _ _⟩
    · obtain rfl := H2 hn hA0
      clear H1 H2
      have ha1 : 0 < a := by
        rcases Int.lt_or_eq_of_le o2.1 with h | h
        · exact h
        · exfalso; subst h; apply hA0; rw [← hA]; unfold rd; exact Int.ediv_eq_zero_of_lt (by omega) (by omega)
      have zx := w8 (mean_ch ha1 o3)
      have zy := w8 (mean_ch ha1 o4)
      have zz := w8 (mean_ch ha1 o5)
      have zA := w8 hA1
      clear t0 t1 t2 t3 f0 h4 c9
      obtain ⟨⟨c0, c1, c2, c3, c4⟩, _⟩ := HC.out _ _ (by simp) h5
      go_upto_region 7 with (go_at_call 56; (with_reducible refine (near_st h5 a).mono ?_); rintro e w5 ⟨b4, rfl, h6⟩)
      have hd := h6.drew
      clear h5 c0 c1 c2 c3 c4
      obtain ⟨⟨t0, t1, t2, t3⟩, f0⟩ := HF.out _ _ (by simp) h6
      obtain ⟨⟨s0, s1, s2, s3⟩, g0⟩ := HF.out _ _ (by simp) hd
      have hd3 : St w [(b4, vo (.int .i64 a) 3), (bm, mo n a x y z)] w5 := h6.sub (by simp)
      clear h6
      have hb4 : b4 ≠ w.heap.size := fun e => by
        have r1 := hd.row (b := b4) (o := vo (.int .i64 a) 3) (by simp)
        have r2 := hd.row (b := w.heap.size) (o := po 0 0 0 0) (by simp)
        rw [e, r2] at r1; simp at r1
      have hd2 : St w [(b4, vo (.int .i64 a) 3), (bm, mo n a x y z)] w5.drew := hd.sub (by simp)
      have HP2 : Hid (∀ V, St w [(b4, vo (.int .i64 a) 3), (bm, mo n a x y z)] V → St w [(b4, vo (.int .i64 a) 3), (bm, mo n a x y z)] V ∧ C5 V bm n a x y z) := fun V h => ⟨h, HC.out V _ (by simp) h⟩
      have HN : Hid (∀ V, St w [(b4, vo (.int .i64 a) 3), (bm, mo n a x y z)] V → V.cell? ⟨b4, 0, none⟩ = some (.int .i64 a)) := fun V h => h.var (t := 3) (by simp)
      have HT : Hid (∀ V j v, St w [(b4, vo (.int .i64 a) 3), (bm, mo n a x y z)] V → St w [(b4, vo (.int .i64 a) 3), (bm, mo n a x y z)] (V.setCell ⟨w.heap.size, j, none⟩ v)) := fun V j v h => h.set (Nat.le_refl _) (by simp; exact ⟨hb4, by omega⟩)
      have HD : Hid (∀ V, St w [(b4, vo (.int .i64 a) 3), (bm, mo n a x y z)] V → St w [(b4, vo (.int .i64 a) 3), (bm, mo n a x y z)] V.drew) := fun V h => h.drew
      have hc4 := HN.out _ hd2
      go_region_held3 (fun V => St w [(b4, vo (.int .i64 a) 3), (bm, mo n a x y z)] V ∧ C5 V bm n a x y z) ((refine HP2.out _ ?_; repeat' (first | assumption | refine HT.out _ _ _ ?_ | refine HD.out _ ?_))) (first
        | (go_at_call 63; (with_reducible refine (near1_any _ a b4 _ ?_ ?_ ?_ ?_ hc4).mono ?_); (focus omega); (focus omega); (focus omega); (focus omega); rintro e w6 ⟨rfl, rfl⟩))
      all_goals
        go_wp2_with fail
        exact bodyPost_ret (v := pv (rd x a) (rd y a) (rd z a) A) (by simp [results, Tryd.results45, go_sem, *]) rfl ⟨rfl, by first | exact below_set4 hd2.below (by omega) _ _ _ _ | exact (below_set4 hd3.below (by omega) _ _ _ _).drew⟩
theorem mpx_cases (n a x y z : Int) : (n = 0 → mpx n a x y z = zp) ∧ (n ≠ 0 → rd a n = 0 → mpx n a x y z = zp) ∧ (n ≠ 0 → rd a n ≠ 0 → mpx n a x y z = ⟨rd x a, rd y a, rd z a, rd a n⟩) :=
  ⟨fun h => if_pos h, fun h h2 => by unfold mpx; rw [if_neg h, if_pos h2], fun h h2 => by unfold mpx; rw [if_neg h, if_neg h2]⟩
theorem pix_any {W : World} {L : List (Nat × Obj)} (bm : Nat) (n a x y z : Int) (w : World) (h : St W ((bm, mo n a x y z) :: L) w) (hM : Mb n a x y z) :
    Calls Tryd.prog 45 #[ptr bm] w fun e w' => e = .returned (pv (mpx n a x y z).r (mpx n a x y z).g (mpx n a x y z).b (mpx n a x y z).a) ∧ Below w.heap.size w w' :=
  pix_to bm n a x y z _ _ w h hM rfl (mpx_cases n a x y z).1 (mpx_cases n a x y z).2.1 (mpx_cases n a x y z).2.2
end Go.Proofs.YtligojllbnahcaaDoor
