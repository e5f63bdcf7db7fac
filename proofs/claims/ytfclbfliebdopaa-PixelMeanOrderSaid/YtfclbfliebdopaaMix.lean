/-
  Mix (contract).
-/
import Derived.Test.YtfclbfliebdopaaOver1
import Derived.Laws.EntriesVeiled
namespace Go.Proofs.Ytfclbfliebdopaa
open Go.RowKit

set_option maxRecDepth 100000 in
set_option maxHeartbeats 8000000 in
theorem mix_to (p0 p1 p2 p3 q0 q1 q2 q3 t u P Q A : Int) (O : Px) (w : World) (hp0 : Ch p0) (hp1 : Ch p1) (hp2 : Ch p2) (hp3 : Ch p3) (hq0 : Ch q0) (hq1 : Ch q1) (hq2 : Ch q2) (hq3 : Ch q3) (hU : cl t = u) (hu : Ch u)
    (hP : p3 * (255 - u) = P) (hQ : q3 * u = Q) (hP' : 0 ≤ P ∧ P ≤ 65025) (hQ' : 0 ≤ Q ∧ Q ≤ 65025) (hA : rd (P + Q) 255 = A) (hA' : Ch A)
    (H0 : A = 0 → O = zp) (H1 : A ≠ 0 → O = ⟨mch P Q p0 q0, mch P Q p1 q1, mch P Q p2 q2, A⟩) :
    Calls Try.prog 19 #[pv p0 p1 p2 p3, pv q0 q1 q2 q3, .int .i64 t] w fun e w' => e = .returned O.v ∧ Below w.heap.size w w' := by
  have x3 := w64 hp3; have y3 := w64 hq3
  have k1 : IntKind.i64.wrap (p3 * (255 - u)) = P := by rw [hP]; exact w64m ⟨hP'.1, by omega⟩
  have k2 : IntKind.i64.wrap (q3 * u) = Q := by rw [hQ]; exact w64m ⟨hQ'.1, by omega⟩
  have k3 : IntKind.i64.wrap (255 - u) = 255 - u := w64m ⟨by omega, by omega⟩
  have k5 : IntKind.i64.wrap P = P := w64m ⟨hP'.1, by omega⟩
  have k6 : IntKind.i64.wrap Q = Q := w64m ⟨hQ'.1, by omega⟩
  have k4 : IntKind.i64.wrap (P + Q) = P + Q := w64m ⟨by omega, by omega⟩
  go_enter Try.func19, Try.ntmps19
  go_upto_region 1 with fail
  have hs := (((St.start w).alloc (po p0 p1 p2 p3)).alloc (po q0 q1 q2 q3)).alloc (po 0 0 0 0)
  rw [World.size_alloc, World.size_alloc] at hs
  generalize ((w.alloc (po p0 p1 p2 p3)).alloc (po q0 q1 q2 q3)).alloc (po 0 0 0 0) = w1 at hs ⊢
  have hz := hs.below.size
  obtain ⟨r0, r1, r2, r3⟩ := hs.pix (b := w.heap.size) (x0 := p0) (x1 := p1) (x2 := p2) (x3 := p3) (by simp)
  obtain ⟨s0, s1, s2, s3⟩ := hs.pix (b := w.heap.size + 1) (x0 := q0) (x1 := q1) (x2 := q2) (x3 := q3) (by simp)
  go_upto_region 2 with (go_at_call 30; (refine (clamp_any t _).mono ?_); rw [hU]; rintro e w4 ⟨rfl, rfl⟩)
  have HP : Hid (∀ V, St w [(w.heap.size + 1 + 1, po 0 0 0 0), (w.heap.size + 1, po q0 q1 q2 q3), (w.heap.size, po p0 p1 p2 p3)] V → St w [(w.heap.size + 1 + 1, po 0 0 0 0), (w.heap.size + 1, po q0 q1 q2 q3), (w.heap.size, po p0 p1 p2 p3)] V ∧ RB V w.heap.size p0 p1 p2 p3 ∧ RB V (w.heap.size + 1) q0 q1 q2 q3) := fun V h => ⟨h, h.pix (by simp), h.pix (by simp)⟩
  have hlt := hs.lt (b := w.heap.size + 1 + 1) (o := po 0 0 0 0) (by simp)
  clear r0 r1 r2 r3 s0 s1 s2 s3
  go_cut [7, 8] (fun v7 v8 wx => ∃ b7 b8, v7 = ptr b7 ∧ v8 = ptr b8 ∧ Hid (St w [(b7, vo (.int .i64 P) 3), (b8, vo (.int .i64 Q) 3), (w.heap.size + 1 + 1, po 0 0 0 0), (w.heap.size + 1, po q0 q1 q2 q3), (w.heap.size, po p0 p1 p2 p3)] wx))
  case first =>
    have hd := hs.drew
    have HS : Hid (∀ V o, St w [(w.heap.size + 1 + 1, po 0 0 0 0), (w.heap.size + 1, po q0 q1 q2 q3), (w.heap.size, po p0 p1 p2 p3)] V → St w [(w.heap.size + 1 + 1, po 0 0 0 0), (w.heap.size + 1, po q0 q1 q2 q3), (w.heap.size, po p0 p1 p2 p3)] (V.alloc o)) := fun V o h => (h.alloc o).sub (by simp)
    have HT : Hid (∀ V b j v, w.heap.size + 1 + 1 < b → St w [(w.heap.size + 1 + 1, po 0 0 0 0), (w.heap.size + 1, po q0 q1 q2 q3), (w.heap.size, po p0 p1 p2 p3)] V → St w [(w.heap.size + 1 + 1, po 0 0 0 0), (w.heap.size + 1, po q0 q1 q2 q3), (w.heap.size, po p0 p1 p2 p3)] (V.setCell ⟨b, j, none⟩ v)) := fun V b j v hb h => h.set (by omega) (by simp; omega)
    have HD : Hid (∀ V, St w [(w.heap.size + 1 + 1, po 0 0 0 0), (w.heap.size + 1, po q0 q1 q2 q3), (w.heap.size, po p0 p1 p2 p3)] V → St w [(w.heap.size + 1 + 1, po 0 0 0 0), (w.heap.size + 1, po q0 q1 q2 q3), (w.heap.size, po p0 p1 p2 p3)] V.drew) := fun V h => h.drew
    go_region_held3 (fun V => St w [(w.heap.size + 1 + 1, po 0 0 0 0), (w.heap.size + 1, po q0 q1 q2 q3), (w.heap.size, po p0 p1 p2 p3)] V ∧ RB V w.heap.size p0 p1 p2 p3 ∧ RB V (w.heap.size + 1) q0 q1 q2 q3) ((refine HP.out _ ?_; repeat' (first | assumption | omega | refine HS.out _ _ ?_ | refine HD.out _ ?_ | refine HT.out _ _ _ _ ?_ ?_))) (first | fail)
    all_goals
      rename_i hHeld
      obtain ⟨hst, _⟩ := hHeld
      go_wp2_with fail
      go_meet
      case rel =>
        refine ⟨_, _, rfl, rfl, ?_⟩
        try simp only [k5, k6]
        first
          | exact (((hs.alloc (vo (.int .i64 P) 3)).alloc (vo (.int .i64 Q) 3)).drew).sub (by intro x hx; simp only [World.size_alloc, List.mem_cons, List.not_mem_nil, or_false] at hx ⊢; rcases hx with h | h | h | h | h <;> simp [h])
          | exact (((hs.alloc (vo (.int .i64 Q) 3)).alloc (vo (.int .i64 P) 3)).drew).sub (by intro x hx; simp only [World.size_alloc, List.mem_cons, List.not_mem_nil, or_false] at hx ⊢; rcases hx with h | h | h | h | h <;> simp [h])
  case rest =>
    obtain ⟨b7, b8, rfl, rfl, hs2⟩ := hcut
    have hs2 := hs2.out
    clear hs hlt HP
    generalize hL : [(b7, vo (.int .i64 P) 3), (b8, vo (.int .i64 Q) 3), (w.heap.size + 1 + 1, po 0 0 0 0), (w.heap.size + 1, po q0 q1 q2 q3), (w.heap.size, po p0 p1 p2 p3)] = L at hs2
    have HV : Hid (∀ V, St w L V → St w L V ∧ V.cell? ⟨b7, 0, none⟩ = some (.int .i64 P) ∧ V.cell? ⟨b8, 0, none⟩ = some (.int .i64 Q)) := fun V h => ⟨h, by subst hL; exact h.var (t := 3) (by simp), by subst hL; exact h.var (t := 3) (by simp)⟩
    have HC : Hid (∀ V L', (∀ x ∈ L, x ∈ L') → St w L' V → RB V w.heap.size p0 p1 p2 p3 ∧ RB V (w.heap.size + 1) q0 q1 q2 q3 ∧ RB V (w.heap.size + 1 + 1) 0 0 0 0 ∧ ∀ j, V.frozen? ⟨w.heap.size + 1 + 1, j, none⟩ = false) := fun V L' hsub h0 => by
      have h := h0.sub hsub
      subst hL
      exact ⟨h.pix (by simp), h.pix (by simp), h.pix (by simp), fun j => h.frozen (cs := #[.int .u8 0, .int .u8 0, .int .u8 0, .int .u8 0]) (t := 27) (by simp) j⟩
    go_upto_region 3 with fail
    have hd := hs2.drew
    go_region_held3 (fun V => St w L V ∧ V.cell? ⟨b7, 0, none⟩ = some (.int .i64 P) ∧ V.cell? ⟨b8, 0, none⟩ = some (.int .i64 Q)) ((refine HV.out _ ?_; first | assumption | (refine St.sub (by assumption) ?_; simp))) (first
      | (go_at_call 39; (with_reducible refine (near_st (W := w) (L := L) ?_ _).mono ?_); (focus assumption); rintro e w4 ⟨b3, rfl, h4⟩; have c4 := h4.var (b := b3) (x := .int .i64 255) (t := 3) (by simp); have h5 : St w L w4 := h4.sub (fun x hx => List.mem_cons_of_mem _ hx))
      | (go_at_call 60; (with_reducible refine (near1_any _ 255 b3 _ ?_ ?_ ?_ ?_ c4).mono ?_); (focus omega); (focus omega); (focus decide); (focus decide); rw [hA]; rintro e w6 ⟨rfl, rfl⟩))
    obtain ⟨_, c7, c8⟩ := HV.out _ h5
    obtain ⟨⟨r0, r1, r2, r3⟩, ⟨s0, s1, s2, s3⟩, ⟨t0, t1, t2, t3⟩, f0⟩ := HC.out _ _ (fun _ h => h) h5
    clear c4 h4 hs2 hd
    rename_i hHeld
    clear hHeld
    by_cases hA0 : A = 0
    · obtain rfl := H0 hA0
      clear H0 H1
      go_wp2_with fail
      exact bodyPost_ret (v := zp.v) (by simp [results, Try.results19, go_sem, *]) rfl ⟨rfl, below_set4 h5.below (by omega) _ _ _ _⟩
    · obtain rfl := H1 hA0
      clear H0 H1
      have hPQ : 0 < P + Q := rd_pos (by omega) (by rw [hA]; exact hA0)
      clear r0 r1 r2 r3 s0 s1 s2 s3 t0 t1 t2 t3 f0
      go_upto_region 7 with (go_at_call 39; (with_reducible refine (near_st h5 (P + Q)).mono ?_); rintro e w5 ⟨bn, rfl, h6⟩)
      have h7 := h6.alloc (vo (nf bn) 55)
      clear h5 c7 c8 h6
      generalize w5.heap.size = b10 at h7 ⊢
      generalize w5.alloc (vo (nf bn) 55) = w6 at h7 ⊢
      have hML : St w (ML P Q b10 bn b7 b8) w6 := h7.sub (by subst hL; intro x hx; simp only [List.mem_cons, List.not_mem_nil, or_false] at hx ⊢; rcases hx with h | h | h | h <;> simp [h])
      have hsub : ∀ x ∈ L, x ∈ (b10, vo (nf bn) 55) :: (bn, vo (.int .i64 (P + Q)) 3) :: L := fun x hx => List.mem_cons_of_mem _ (List.mem_cons_of_mem _ hx)
      obtain ⟨⟨r0, r1, r2, r3⟩, ⟨s0, s1, s2, s3⟩, _, _⟩ := HC.out _ _ hsub h7
      go_wp2_with (go_at_call 40; (refine (St.call h7 (combine_any (W := w) (L := ML P Q b10 bn b7 b8) 43 #[ptr b10, ptr b7, ptr b8] (mch P Q) p0 p1 p2 p3 q0 q1 q2 q3 A w6 hML (enters_of Try.func43 (by kernel_rfl) rfl) hp0 hp1 hp2 hq0 hq1 hq2 hA' (fun b s hb hs => mch_ch hP' hQ' hPQ hb hs) (fun b s V hb hs hV => mix1_any P Q b10 bn b7 b8 b s V hP' hQ' hPQ hb hs hV))).mono ?_); rintro e w7 ⟨rfl, h8⟩; obtain ⟨_, _, ⟨t0, t1, t2, t3⟩, f0⟩ := HC.out _ _ hsub h8)
      exact bodyPost_ret (v := (Px.mk (mch P Q p0 q0) (mch P Q p1 q1) (mch P Q p2 q2) A).v) (by simp [results, Try.results19, go_sem, *]) rfl ⟨rfl, below_set4 h8.below (by omega) _ _ _ _⟩
theorem mix_any (p0 p1 p2 p3 q0 q1 q2 q3 t : Int) (w : World) (hp0 : Ch p0) (hp1 : Ch p1) (hp2 : Ch p2) (hp3 : Ch p3) (hq0 : Ch q0) (hq1 : Ch q1) (hq2 : Ch q2) (hq3 : Ch q3) :
    Calls Try.prog 19 #[pv p0 p1 p2 p3, pv q0 q1 q2 q3, .int .i64 t] w fun e w' => e = .returned (mxx ⟨p0, p1, p2, p3⟩ ⟨q0, q1, q2, q3⟩ t).v ∧ Below w.heap.size w w' :=
  mix_to _ _ _ _ _ _ _ _ _ _ _ _ _ _ w hp0 hp1 hp2 hp3 hq0 hq1 hq2 hq3 rfl (cl_ch t) rfl rfl (mpq hp3 hq3 (cl_ch t)).1 (mpq hp3 hq3 (cl_ch t)).2.1 rfl (mpq hp3 hq3 (cl_ch t)).2.2 (fun h => if_pos h) (fun h => if_neg h)
end Go.Proofs.Ytfclbfliebdopaa
