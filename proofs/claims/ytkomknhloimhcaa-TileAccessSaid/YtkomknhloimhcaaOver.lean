/-
  Over (contract).
-/
import Derived.Test.YtkomknhloimhcaaOver1
import Derived.Laws.EntriesVeiled
namespace Go.Proofs.Ytkomknhloimhcaa
open Go.RowKit

section
variable {W w : World} {L : List (Nat × Obj)} {x y z : Value} {t : TypeId}
theorem fin1 (h : St W L w) : St W ((w.heap.size, vo x t) :: (w.heap.size + 1, vo y t) :: L) ((w.alloc (vo x t)).alloc (vo y t)) := by
  have h1 := (h.alloc (vo x t)).alloc (vo y t)
  rw [World.size_alloc] at h1
  exact h1.sub (fun x hx => by simp only [List.mem_cons] at hx ⊢; rcases hx with h | h | h <;> simp [h])
theorem fin2 (h : St W L w) : St W ((w.heap.size + 1, vo x t) :: (w.heap.size, vo y t) :: L) ((w.alloc (vo y t)).alloc (vo x t)) := by
  have h1 := (h.alloc (vo y t)).alloc (vo x t)
  rw [World.size_alloc] at h1
  exact h1
theorem fin3 {b : Nat} (h : St W ((b, vo z t) :: L) w) (hb : W.heap.size ≤ b) (hL : ∀ x ∈ L, x.1 ≠ b) : St W ((b, vo x t) :: (w.heap.size, vo y t) :: L) ((w.setCell ⟨b, 0, none⟩ x).alloc (vo y t)) := by
  have h1 : St W ((b, vo x t) :: L) (w.setCell ⟨b, 0, none⟩ x) := h.put (j := 0) (v := x) hb hL
  have h2 := h1.alloc (vo y t)
  rw [show (w.setCell ⟨b, 0, none⟩ x).heap.size = w.heap.size by simp] at h2
  exact h2.sub (fun x hx => by simp only [List.mem_cons] at hx ⊢; rcases hx with h | h | h <;> simp [h])
theorem fin5 {b : Nat} (h : St W ((b, vo z t) :: L) w) (hb : W.heap.size ≤ b) (hL : ∀ x ∈ L, x.1 ≠ b) : St W ((w.heap.size, vo x t) :: (b, vo y t) :: L) ((w.setCell ⟨b, 0, none⟩ y).alloc (vo x t)) := by
  have h1 : St W ((b, vo y t) :: L) (w.setCell ⟨b, 0, none⟩ y) := h.put (j := 0) (v := y) hb hL
  have h2 := h1.alloc (vo x t)
  rw [show (w.setCell ⟨b, 0, none⟩ y).heap.size = w.heap.size by simp] at h2
  exact h2
theorem fin4 {b c : Nat} (h : St W ((c, vo z t) :: (b, vo z t) :: L) w) (hc : W.heap.size ≤ c) (hb : W.heap.size ≤ b) (hcb : b ≠ c) (hL : ∀ x ∈ L, x.1 ≠ b) (hL' : ∀ x ∈ L, x.1 ≠ c) : St W ((b, vo x t) :: (c, vo y t) :: L) ((w.setCell ⟨b, 0, none⟩ x).setCell ⟨c, 0, none⟩ y) := by
  have h0 : St W ((b, vo z t) :: (c, vo z t) :: L) w := h.sub (fun x hx => by simp only [List.mem_cons] at hx ⊢; rcases hx with h | h | h <;> simp [h])
  have h1 : St W ((b, vo x t) :: (c, vo z t) :: L) (w.setCell ⟨b, 0, none⟩ x) := h0.put (j := 0) (v := x) hb (fun x hx => by rcases List.mem_cons.1 hx with rfl | hx; exact (fun e => hcb e.symm); exact hL x hx)
  have h2 : St W ((c, vo z t) :: (b, vo x t) :: L) (w.setCell ⟨b, 0, none⟩ x) := h1.sub (fun x hx => by simp only [List.mem_cons] at hx ⊢; rcases hx with h | h | h <;> simp [h])
  have h3 : St W ((c, vo y t) :: (b, vo x t) :: L) ((w.setCell ⟨b, 0, none⟩ x).setCell ⟨c, 0, none⟩ y) := h2.put (j := 0) (v := y) hc (fun x hx => by rcases List.mem_cons.1 hx with rfl | hx; exact hcb; exact hL' x hx)
  exact h3.sub (fun x hx => by simp only [List.mem_cons] at hx ⊢; rcases hx with h | h | h <;> simp [h])
theorem fin6 {b c : Nat} (h : St W ((c, vo z t) :: (b, vo z t) :: L) w) (hc : W.heap.size ≤ c) (hb : W.heap.size ≤ b) (hcb : c ≠ b) (hL : ∀ x ∈ L, x.1 ≠ b) (hL' : ∀ x ∈ L, x.1 ≠ c) : St W ((c, vo x t) :: (b, vo y t) :: L) ((w.setCell ⟨c, 0, none⟩ x).setCell ⟨b, 0, none⟩ y) :=
  fin4 (z := z) (h.sub (fun x hx => by simp only [List.mem_cons] at hx ⊢; rcases hx with h | h | h <;> simp [h])) hb hc hcb hL' hL
end
theorem fmode_x (m : Int) (w : World) : Calls Try.prog 60 #[.int .i64 m] w fun e w' => e = .returned (.func (.func (fno m)) #[] #[]) ∧ w = w' := fmode_any m w

set_option maxRecDepth 100000 in
set_option maxHeartbeats 16000000 in
theorem over_to (p0 p1 p2 p3 q0 q1 q2 q3 m c u W A : Int) (O : Px) (w : World) (hp0 : Ch p0) (hp1 : Ch p1) (hp2 : Ch p2) (hp3 : Ch p3) (hq0 : Ch q0) (hq1 : Ch q1) (hq2 : Ch q2) (hq3 : Ch q3) (hU : mul q3 c = u) (hu : Ch u)
    (hWe : wgt u p3 = W) (hA : rd W 255 = A) (H0 : W = 0 → O = zp) (H1 : W ≠ 0 → O = ⟨och m u p3 p0 q0, och m u p3 p1 q1, och m u p3 p2 q2, A⟩) :
    Calls Try.prog 34 #[pv p0 p1 p2 p3, pv q0 q1 q2 q3, .int .i64 m, .int .i64 c] w fun e w' => e = .returned O.v ∧ Below w.heap.size w w' := by
  have hm := wgt_md hu hp3
  have hA' : Ch A := by have := walp_ch hu hp3; rw [hWe, hA] at this; exact this
  rw [hWe] at hm
  have hsq := sq_ch hu hp3
  have k0 := w64 hu
  have hW : IntKind.i64.wrap (255 * u + 255 * p3 - u * p3) = W := by
    have h : IntKind.i64.wrap (wgt u p3) = wgt u p3 := w64m ⟨by rw [hWe]; exact hm.1, by rw [hWe]; omega⟩
    rw [← hWe]; exact h
  have x3 := w64 hp3; have y3 := w64 hq3
  go_enter Try.func34, Try.ntmps34
  go_upto_region 1 with fail
  have hs := (((St.start w).alloc (po p0 p1 p2 p3)).alloc (po q0 q1 q2 q3)).alloc (po 0 0 0 0)
  rw [World.size_alloc, World.size_alloc] at hs
  generalize ((w.alloc (po p0 p1 p2 p3)).alloc (po q0 q1 q2 q3)).alloc (po 0 0 0 0) = w1 at hs ⊢
  have hz := hs.below.size
  have hlt := hs.lt (b := w.heap.size + 1 + 1) (o := po 0 0 0 0) (by simp)
  have HP : Hid (∀ V, St w [(w.heap.size + 1 + 1, po 0 0 0 0), (w.heap.size + 1, po q0 q1 q2 q3), (w.heap.size, po p0 p1 p2 p3)] V → St w [(w.heap.size + 1 + 1, po 0 0 0 0), (w.heap.size + 1, po q0 q1 q2 q3), (w.heap.size, po p0 p1 p2 p3)] V ∧ RB V w.heap.size p0 p1 p2 p3 ∧ RB V (w.heap.size + 1) q0 q1 q2 q3) := fun V h => ⟨h, h.pix (by simp), h.pix (by simp)⟩
  go_cut [9, 10] (fun v9 v10 wx => ∃ b9 b10, v9 = ptr b9 ∧ v10 = ptr b10 ∧ Hid (St w [(b9, vo (.int .i64 u) 3), (b10, vo (.int .i64 p3) 3), (w.heap.size + 1 + 1, po 0 0 0 0), (w.heap.size + 1, po q0 q1 q2 q3), (w.heap.size, po p0 p1 p2 p3)] wx))
  case first =>
    have hd := hs.drew
    have HS : Hid (∀ V o, St w [(w.heap.size + 1 + 1, po 0 0 0 0), (w.heap.size + 1, po q0 q1 q2 q3), (w.heap.size, po p0 p1 p2 p3)] V → St w [(w.heap.size + 1 + 1, po 0 0 0 0), (w.heap.size + 1, po q0 q1 q2 q3), (w.heap.size, po p0 p1 p2 p3)] (V.alloc o)) := fun V o h => (h.alloc o).sub (by simp)
    have HT : Hid (∀ V b j v, w.heap.size + 1 + 1 < b → St w [(w.heap.size + 1 + 1, po 0 0 0 0), (w.heap.size + 1, po q0 q1 q2 q3), (w.heap.size, po p0 p1 p2 p3)] V → St w [(w.heap.size + 1 + 1, po 0 0 0 0), (w.heap.size + 1, po q0 q1 q2 q3), (w.heap.size, po p0 p1 p2 p3)] (V.setCell ⟨b, j, none⟩ v)) := fun V b j v hb h => h.set (by omega) (by simp; omega)
    have HD : Hid (∀ V, St w [(w.heap.size + 1 + 1, po 0 0 0 0), (w.heap.size + 1, po q0 q1 q2 q3), (w.heap.size, po p0 p1 p2 p3)] V → St w [(w.heap.size + 1 + 1, po 0 0 0 0), (w.heap.size + 1, po q0 q1 q2 q3), (w.heap.size, po p0 p1 p2 p3)] V.drew) := fun V h => h.drew
    have HL : Hid (∀ V, St w [(w.heap.size + 1 + 1, po 0 0 0 0), (w.heap.size + 1, po q0 q1 q2 q3), (w.heap.size, po p0 p1 p2 p3)] V → w.heap.size + 1 + 1 < V.heap.size) := fun V h => h.lt (b := w.heap.size + 1 + 1) (o := po 0 0 0 0) (by simp)
    have hA1 := (hs.alloc (vo (.int .i64 0) 3)).drew
    have hA2 := ((hs.alloc (vo (.int .i64 0) 3)).alloc (vo (.int .i64 0) 3)).drew
    rw [World.size_alloc] at hA2
    go_region_held3 (fun V => St w [(w.heap.size + 1 + 1, po 0 0 0 0), (w.heap.size + 1, po q0 q1 q2 q3), (w.heap.size, po p0 p1 p2 p3)] V ∧ RB V w.heap.size p0 p1 p2 p3 ∧ RB V (w.heap.size + 1) q0 q1 q2 q3) ((refine HP.out _ ?_; repeat' (first | assumption | omega | refine HS.out _ _ ?_ | refine HD.out _ ?_ | refine HT.out _ _ _ _ ?_ ?_))) (first
      | (go_at_call 59; first
        | ((with_reducible refine (St.call hd (mul_any q3 c _)).mono ?_); rw [hU]; rintro e w4 ⟨rfl, h4⟩; have hz4 := HL.out _ h4)
        | ((with_reducible refine (St.call hA1 (mul_any q3 c _)).mono ?_); rw [hU]; rintro e w4 ⟨rfl, h4⟩; have c4 := h4.var (b := w1.heap.size) (x := .int .i64 0) (t := 3) (by simp); have f4 := h4.frozen (b := w1.heap.size) (cs := #[.int .i64 0]) (t := 3) (by simp) 0; have hz5 := h4.lt (b := w1.heap.size) (o := vo (.int .i64 0) 3) (by simp); have h5 : St w [(w.heap.size + 1 + 1, po 0 0 0 0), (w.heap.size + 1, po q0 q1 q2 q3), (w.heap.size, po p0 p1 p2 p3)] w4 := h4.sub (by simp); have hz4 := HL.out _ h5)
        | ((with_reducible refine (St.call hA2 (mul_any q3 c _)).mono ?_); rw [hU]; rintro e w4 ⟨rfl, h4⟩; have c4 := h4.var (b := w1.heap.size) (x := .int .i64 0) (t := 3) (by simp); have f4 := h4.frozen (b := w1.heap.size) (cs := #[.int .i64 0]) (t := 3) (by simp) 0; have c5 := h4.var (b := w1.heap.size + 1) (x := .int .i64 0) (t := 3) (by simp); have f5 := h4.frozen (b := w1.heap.size + 1) (cs := #[.int .i64 0]) (t := 3) (by simp) 0; have hz5 := h4.lt (b := w1.heap.size) (o := vo (.int .i64 0) 3) (by simp); have h5 : St w [(w.heap.size + 1 + 1, po 0 0 0 0), (w.heap.size + 1, po q0 q1 q2 q3), (w.heap.size, po p0 p1 p2 p3)] w4 := h4.sub (by simp); have hz4 := HL.out _ h5)))
    all_goals
      rename_i hHeld
      obtain ⟨hst, _⟩ := hHeld
      go_wp2_with fail
      go_meet
      case rel =>
        refine ⟨_, _, rfl, rfl, ?_⟩
        first
          | exact fin1 h4
          | exact fin2 h4
          | exact fin3 h4 (by omega) (by simp; omega)
          | exact fin5 h4 (by omega) (by simp; omega)
          | exact fin4 h4 (by omega) (by omega) (by omega) (by simp; omega) (by simp; omega)
          | exact fin6 h4 (by omega) (by omega) (by omega) (by simp; omega) (by simp; omega)
  case rest =>
    obtain ⟨b9, b10, rfl, rfl, hs2⟩ := hcut
    have hs2 := hs2.out
    clear hs hlt HP
    generalize hL : [(b9, vo (.int .i64 u) 3), (b10, vo (.int .i64 p3) 3), (w.heap.size + 1, po q0 q1 q2 q3), (w.heap.size, po p0 p1 p2 p3)] = L
    have hs3 : St w ((w.heap.size + 1 + 1, po 0 0 0 0) :: L) wc := hs2.sub (by subst hL; intro x hx; simp only [List.mem_cons, List.not_mem_nil, or_false] at hx ⊢; rcases hx with h | h | h | h | h <;> simp [h])
    clear hs2
    have HV : Hid (∀ V L', (∀ x ∈ L, x ∈ L') → St w L' V → V.cell? ⟨b9, 0, none⟩ = some (.int .i64 u) ∧ V.cell? ⟨b10, 0, none⟩ = some (.int .i64 p3) ∧ RB V w.heap.size p0 p1 p2 p3 ∧ RB V (w.heap.size + 1) q0 q1 q2 q3) := fun V L' hsub h0 => by
      have h := h0.sub hsub
      subst hL
      exact ⟨h.var (t := 3) (by simp), h.var (t := 3) (by simp), h.pix (by simp), h.pix (by simp)⟩
    have HC : Hid (∀ V L', St w ((w.heap.size + 1 + 1, po 0 0 0 0) :: L') V → RB V (w.heap.size + 1 + 1) 0 0 0 0 ∧ ∀ j, V.frozen? ⟨w.heap.size + 1 + 1, j, none⟩ = false) := fun V L' h => ⟨h.pix (by simp), fun j => h.frozen (cs := #[.int .u8 0, .int .u8 0, .int .u8 0, .int .u8 0]) (t := 23) (by simp) j⟩
    have HN : Hid (∀ x ∈ L, x.1 ≠ w.heap.size + 1 + 1) := by
      have rc := hs3.row (b := w.heap.size + 1 + 1) (o := po 0 0 0 0) (by simp)
      subst hL
      have r9 := hs3.row (b := b9) (o := vo (.int .i64 u) 3) (by simp)
      have r10 := hs3.row (b := b10) (o := vo (.int .i64 p3) 3) (by simp)
      intro x hx e
      simp only [List.mem_cons, List.not_mem_nil, or_false] at hx
      rcases hx with rfl | rfl | rfl | rfl
      · rw [show b9 = w.heap.size + 1 + 1 from e, rc] at r9; simp at r9
      · rw [show b10 = w.heap.size + 1 + 1 from e, rc] at r10; simp at r10
      · exact absurd e (by simp)
      · exact absurd e (by simp; omega)
    obtain ⟨c9, c10, _, _⟩ := HV.out _ _ (fun x hx => List.mem_cons_of_mem _ hx) hs3
    obtain ⟨⟨t0, t1, t2, t3⟩, f0⟩ := HC.out _ _ hs3
    go_upto_region 3 with fail
    by_cases hW0 : W = 0
    · obtain rfl := H0 hW0
      clear H0 H1
      go_wp2_with fail
      exact bodyPost_ret (v := zp.v) (by simp [results, Try.results34, go_sem, *]) rfl ⟨rfl, below_set4 hs3.below (by omega) _ _ _ _⟩
    · obtain rfl := H1 hW0
      clear H0 H1
      have hW1 : 0 < W := by omega
      clear t0 t1 t2 t3 f0 c9 c10
      go_upto_region 6 with (first
        | (go_at_call 60; (with_reducible refine (fmode_x _ _).mono ?_); rintro e w5 ⟨rfl, rfl⟩)
        | (go_at_call 61; (with_reducible refine (near_st hs3 W).mono ?_); rintro e w5 ⟨bn, rfl, h6⟩))
      have hcl := h6.lt (b := w.heap.size + 1 + 1) (o := po 0 0 0 0) (by simp)
      have hbn : bn ≠ w.heap.size + 1 + 1 := fun e => by
        have r1 := h6.row (b := bn) (o := vo (.int .i64 W) 3) (by simp)
        have r2 := h6.row (b := w.heap.size + 1 + 1) (o := po 0 0 0 0) (by simp)
        rw [e, r2] at r1; simp at r1
      have h7 := (h6.alloc (vo (fv m) 59)).alloc (vo (nf bn) 73)
      rw [World.size_alloc] at h7
      have hb13 : w5.heap.size + 1 ≠ w.heap.size + 1 + 1 := by omega
      have hb12 : w5.heap.size ≠ w.heap.size + 1 + 1 := by omega
      generalize (w5.alloc (vo (fv m) 59)).alloc (vo (nf bn) 73) = w6 at h7 ⊢
      generalize w5.heap.size + 1 = b13 at h7 hb13 ⊢
      generalize w5.heap.size = b12 at h7 hb12 ⊢
      generalize hM : (b13, vo (nf bn) 73) :: (b12, vo (fv m) 59) :: (bn, vo (.int .i64 W) 3) :: L = M
      have h8 : St w ((w.heap.size + 1 + 1, po 0 0 0 0) :: M) w6 := h7.sub (by subst hM; intro x hx; simp only [List.mem_cons] at hx ⊢; rcases hx with h | h | h | h | h <;> simp [h])
      have hsubL : ∀ x ∈ L, x ∈ (w.heap.size + 1 + 1, po 0 0 0 0) :: M := by subst hM; intro x hx; simp [hx]
      have HM : Hid (∀ x ∈ M, x.1 ≠ w.heap.size + 1 + 1) := by
        subst hM; intro x hx
        simp only [List.mem_cons] at hx
        rcases hx with rfl | rfl | rfl | h
        · exact hb13
        · exact hb12
        · exact hbn
        · exact HN.out x h
      have HO : Hid (∀ V, St w ((w.heap.size + 1 + 1, po 0 0 0 0) :: M) V → St w (OL m u p3 b13 bn b9 b10 b12) V) := fun V h => h.sub (by
        rw [← hWe] at hM; subst hM; subst hL
        intro x hx
        simp only [List.mem_cons, List.not_mem_nil, or_false] at hx ⊢
        rcases hx with h | h | h | h | h <;> simp [h])
      have HP : Hid (∀ V, St w M V → St w M V ∧ RB V w.heap.size p0 p1 p2 p3 ∧ RB V (w.heap.size + 1) q0 q1 q2 q3) := fun V h => by
        have h9 := HV.out V M (by subst hM; intro x hx; simp [hx]) h
        exact ⟨h, h9.2.2.1, h9.2.2.2⟩
      have HT : Hid (∀ V j v, St w M V → St w M (V.setCell ⟨w.heap.size + 1 + 1, j, none⟩ v)) := fun V j v h => h.set (by omega) HM.out
      have HD : Hid (∀ V, St w ((w.heap.size + 1 + 1, po 0 0 0 0) :: M) V → St w M V) := fun V h => h.sub (fun x hx => List.mem_cons_of_mem _ hx)
      have hd := h8.drew
      have hd2 := HD.out _ hd
      obtain ⟨t4, f4⟩ := HC.out _ _ hd
      clear h6 h7 h8 hs3
      go_region_held3 (fun V => St w M V ∧ RB V w.heap.size p0 p1 p2 p3 ∧ RB V (w.heap.size + 1) q0 q1 q2 q3) ((refine HP.out _ ?_; repeat' (first | assumption | refine HT.out _ _ _ ?_))) (first
        | (go_at_call 61; (with_reducible refine (near_st (W := w) (L := (w.heap.size + 1 + 1, po 0 0 0 0) :: M) ?_ 255).mono ?_); (focus assumption); rintro e w7 ⟨b3, rfl, h9⟩; have c9 := h9.var (b := b3) (x := .int .i64 255) (t := 3) (by simp); have h10 : St w ((w.heap.size + 1 + 1, po 0 0 0 0) :: M) w7 := h9.sub (fun x hx => List.mem_cons_of_mem _ hx); have h11 := HD.out _ h10)
        | (go_at_call 89; (with_reducible refine (near1_any _ 255 b3 _ ?_ ?_ ?_ ?_ c9).mono ?_); (focus omega); (focus omega); (focus decide); (focus decide); rw [hA]; rintro e w7 ⟨rfl, rfl⟩)
        | (go_at_call 62; (refine (St.call (W := w) (L := (w.heap.size + 1 + 1, po 0 0 0 0) :: M) ?_ (combine_any (W := w) (L := OL m u p3 b13 bn b9 b10 b12) 63 #[ptr b13, ptr b9, ptr b10, ptr b12] (och m u p3) p0 p1 p2 p3 q0 q1 q2 q3 A _ (HO.out _ ?_) (enters_of Try.func63 (by kernel_rfl) rfl) hp0 hp1 hp2 hq0 hq1 hq2 hA' (fun b s hb hs => och_ch m hu hp3 (by rw [hWe]; exact hW1) hb hs) (fun b s V hb hs hV => over1_any m u p3 b13 bn b9 b10 b12 b s V hu hp3 (by rw [hWe]; exact hW1) hb hs hV))).mono ?_); (focus assumption); (focus assumption); rintro e w8 ⟨rfl, h12⟩; obtain ⟨t5, f5⟩ := HC.out _ _ h12; have h13 := HD.out _ h12))
      all_goals
        go_wp2_with fail
        obtain ⟨t6, t7, t8, t9⟩ := t5
        exact bodyPost_ret (v := (Px.mk (och m u p3 p0 q0) (och m u p3 p1 q1) (och m u p3 p2 q2) A).v) (by simp [results, Try.results34, go_sem, *]) rfl ⟨rfl, below_set4 h12.below (by omega) _ _ _ _⟩
theorem over_any (p0 p1 p2 p3 q0 q1 q2 q3 m c : Int) (w : World) (hp0 : Ch p0) (hp1 : Ch p1) (hp2 : Ch p2) (hp3 : Ch p3) (hq0 : Ch q0) (hq1 : Ch q1) (hq2 : Ch q2) (hq3 : Ch q3) :
    Calls Try.prog 34 #[pv p0 p1 p2 p3, pv q0 q1 q2 q3, .int .i64 m, .int .i64 c] w fun e w' => e = .returned (ovr ⟨p0, p1, p2, p3⟩ ⟨q0, q1, q2, q3⟩ m c).v ∧ Below w.heap.size w w' :=
  over_to _ _ _ _ _ _ _ _ _ _ _ _ _ _ w hp0 hp1 hp2 hp3 hq0 hq1 hq2 hq3 rfl (mul_ch _ _) rfl rfl (fun h => if_pos h) (fun h => if_neg h)
end Go.Proofs.Ytkomknhloimhcaa
