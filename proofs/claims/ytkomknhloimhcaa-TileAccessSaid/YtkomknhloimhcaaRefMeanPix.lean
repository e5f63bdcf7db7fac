/-
  The reference's Mean: Pixel (contract).
-/
import Derived.Test.YtkomknhloimhcaaMeanPix
namespace Go.Proofs.Ytkomknhloimhcaa
open Go.RowKit

set_option maxRecDepth 100000 in
set_option maxHeartbeats 8000000 in
theorem refPix_to {W : World} {L : List (Nat × Obj)} (bm : Nat) (n a x y z A : Int) (O : Px) (w : World) (h : St W ((bm, mr n a x y z) :: L) w) (hM : Mb n a x y z) (hA : rd a n = A)
    (H0 : n = 0 → O = zp) (H1 : n ≠ 0 → A = 0 → O = zp) (H2 : n ≠ 0 → A ≠ 0 → O = ⟨rd x a, rd y a, rd z a, A⟩) :
    Calls Try.prog 58 #[ptr bm] w fun e w' => e = .returned (pv O.r O.g O.b O.a) ∧ Below w.heap.size w w' := by
  obtain ⟨o1, o2, o3, o4, o5⟩ := hM
  have h0 : St w ((bm, mr n a x y z) :: []) w := ⟨Below.refl _ _, fun q hq => h.rows q (by simp at hq; subst hq; simp)⟩
  have hlt := h0.lt (b := bm) (o := mr n a x y z) (by simp)
  clear h
  have HC : Hid (∀ V L', (bm, mr n a x y z) ∈ L' → St w L' V → C5 V bm a x y z n) := fun V L' hm h => h.five hm
  by_cases hn : n = 0
  · obtain rfl := H0 hn
    obtain ⟨⟨c0, c1, c2, c3, c4⟩, _⟩ := HC.out _ _ (by simp) h0
    clear HC
    subst hn
    go_enter Try.func58, Try.ntmps58
    go_wp2
    exact bodyPost_ret (v := pv 0 0 0 0) (by simp [results, Try.results58, go_sem]) rfl ⟨rfl, below1⟩
  · have hn1 : 0 < n := by omega
    clear H0
    have hA1 : Ch A := by rw [← hA]; exact mean_ch hn1 o2
    go_enter Try.func58, Try.ntmps58
    go_upto_region 1 with fail
    have hs := h0.alloc (po 0 0 0 0)
    generalize w.alloc (po 0 0 0 0) = w1 at hs ⊢
    have HF : Hid (∀ V L', (w.heap.size, po 0 0 0 0) ∈ L' → St w L' V → RB V w.heap.size 0 0 0 0 ∧ ∀ j, V.frozen? ⟨w.heap.size, j, none⟩ = false) := fun V L' hm h => ⟨h.pix hm, fun j => h.frozen (cs := #[.int .u8 0, .int .u8 0, .int .u8 0, .int .u8 0]) (t := 23) hm j⟩
    obtain ⟨⟨c0, c1, c2, c3, c4⟩, _⟩ := HC.out _ _ (by simp) hs
    go_upto_region 3 with fail
    have hd := hs.drew
    clear hs c0 c1 c2 c3 c4 h0
    have HP : Hid (∀ V, St w [(w.heap.size, po 0 0 0 0), (bm, mr n a x y z)] V → St w [(w.heap.size, po 0 0 0 0), (bm, mr n a x y z)] V ∧ C5 V bm a x y z n) := fun V h => ⟨h, HC.out V _ (by simp) h⟩
    go_region_held3 (fun V => St w [(w.heap.size, po 0 0 0 0), (bm, mr n a x y z)] V ∧ C5 V bm a x y z n) ((refine HP.out _ ?_; assumption)) (first
      | (go_at_call 67; (with_reducible refine (refRound_any a n _ ?_ ?_ ?_ ?_).mono ?_); (focus omega); (focus omega); (focus omega); (focus omega); rw [hA]; rintro e w6 ⟨rfl, rfl⟩))
    rename_i hHeld
    obtain ⟨h5, _⟩ := hHeld
    clear hd
    generalize w1.drew = w5 at h5 ⊢
    obtain ⟨⟨t0, t1, t2, t3⟩, f0⟩ := HF.out _ _ (by simp) h5
    by_cases hA0 : A = 0
    · obtain rfl := H1 hn hA0
      clear H1 H2
      go_wp2_with fail
      exact bodyPost_ret (v := pv 0 0 0 0) (by simp [results, Try.results58, go_sem, *]) rfl ⟨rfl, below_set4 h5.below (by omega) _ _ _ _⟩
    · obtain rfl := H2 hn hA0
      clear H1 H2
      have ha1 : 0 < a := by
        rcases Int.lt_or_eq_of_le o2.1 with h | h
        · exact h
        · exfalso; subst h; apply hA0; rw [← hA]; unfold rd; exact Int.ediv_eq_zero_of_lt (by omega) (by omega)
      have zx := w8 (mean_ch ha1 o3)
      have zy := w8 (mean_ch ha1 o4)
      have zz := w8 (mean_ch ha1 o5)
      have zA := w8 hA1
      go_upto_region 6 with fail
      have hd := h5.drew
      obtain ⟨⟨s0, s1, s2, s3⟩, g0⟩ := HF.out _ _ (by simp) hd
      have hd2 : St w [(bm, mr n a x y z)] w5.drew := hd.sub (by simp)
      have hd3 : St w [(bm, mr n a x y z)] w5 := h5.sub (by simp)
      clear h5 hd
      have HP2 : Hid (∀ V, St w [(bm, mr n a x y z)] V → St w [(bm, mr n a x y z)] V ∧ C5 V bm a x y z n) := fun V h => ⟨h, HC.out V _ (by simp) h⟩
      have HT : Hid (∀ V j v, St w [(bm, mr n a x y z)] V → St w [(bm, mr n a x y z)] (V.setCell ⟨w.heap.size, j, none⟩ v)) := fun V j v h => h.set (Nat.le_refl _) (by simp; omega)
      have HD : Hid (∀ V, St w [(bm, mr n a x y z)] V → St w [(bm, mr n a x y z)] V.drew) := fun V h => h.drew
      go_region_held3 (fun V => St w [(bm, mr n a x y z)] V ∧ C5 V bm a x y z n) ((refine HP2.out _ ?_; repeat' (first | assumption | refine HT.out _ _ _ ?_ | refine HD.out _ ?_))) (first
        | (go_at_call 67; (with_reducible refine (refRound_any _ a _ ?_ ?_ ?_ ?_).mono ?_); (focus omega); (focus omega); (focus omega); (focus omega); rintro e w6 ⟨rfl, rfl⟩))
      all_goals
        go_wp2_with fail
        exact bodyPost_ret (v := pv (rd x a) (rd y a) (rd z a) A) (by simp [results, Try.results58, go_sem, *]) rfl ⟨rfl, by first | exact below_set4 hd2.below (by omega) _ _ _ _ | exact (below_set4 hd3.below (by omega) _ _ _ _).drew⟩
theorem refPix_any {W : World} {L : List (Nat × Obj)} (bm : Nat) (n a x y z : Int) (w : World) (h : St W ((bm, mr n a x y z) :: L) w) (hM : Mb n a x y z) :
    Calls Try.prog 58 #[ptr bm] w fun e w' => e = .returned (pv (mpx n a x y z).r (mpx n a x y z).g (mpx n a x y z).b (mpx n a x y z).a) ∧ Below w.heap.size w w' :=
  refPix_to bm n a x y z _ _ w h hM rfl (mpx_cases n a x y z).1 (mpx_cases n a x y z).2.1 (mpx_cases n a x y z).2.2
end Go.Proofs.Ytkomknhloimhcaa
