/-
  Convolve: the closure.
-/
import Derived.Test.YtbodmeiecdomfaaGreatWPla
import Derived.Test.YtbodmeiecdomfaaGreatWArea
import Derived.Test.YtbodmeiecdomfaaGreatWSum
namespace Go.Proofs.YtbodmeiecdomfaaGreat.W
open Go.RowKit Go.Shelf
set_option maxRecDepth 100000
attribute [local go_sem] Oper.semAt_some
variable {W w w' : World} {L : List (Nat × Obj)}

/-- the sums of a window, weighed by a kernel -/
def cst (ks : List Int) (f : Nat → Px) : Nat → Px
  | 0 => zp
  | n + 1 => ⟨(cst ks f n).r + cg ks n * (f n).a * (f n).r, (cst ks f n).g + cg ks n * (f n).a * (f n).g, (cst ks f n).b + cg ks n * (f n).a * (f n).b, (cst ks f n).a + cg ks n * (f n).a⟩
theorem mul_bd {a b : Int} {A B : Int} (h : -A ≤ a ∧ a ≤ A) (k : 0 ≤ b ∧ b ≤ B) : -(A * B) ≤ a * b ∧ a * b ≤ A * B := by
  have h1 : a * b ≤ A * B := Int.le_trans (Int.mul_le_mul_of_nonneg_right h.2 k.1) (Int.mul_le_mul_of_nonneg_left k.2 (by omega))
  have h2 : -(A * B) ≤ a * b := by
    have : -a * b ≤ A * B := Int.le_trans (Int.mul_le_mul_of_nonneg_right (by omega) k.1) (Int.mul_le_mul_of_nonneg_left k.2 (by omega))
    rw [Int.neg_mul] at this; omega
  exact ⟨h2, h1⟩
theorem cst_bd {ks : List Int} {f : Nat → Px} (hf : ∀ i, Pc (f i)) : ∀ n, (∀ i, i < n → -4096 ≤ cg ks i ∧ cg ks i ≤ 4096) → (-(n * 266342400 : Int) ≤ (cst ks f n).r ∧ (cst ks f n).r ≤ n * 266342400) ∧ (-(n * 266342400 : Int) ≤ (cst ks f n).g ∧ (cst ks f n).g ≤ n * 266342400) ∧ (-(n * 266342400 : Int) ≤ (cst ks f n).b ∧ (cst ks f n).b ≤ n * 266342400) ∧ (-(n * 1044480 : Int) ≤ (cst ks f n).a ∧ (cst ks f n).a ≤ n * 1044480)
  | 0, _ => by simp [cst]
  | n + 1, h => by
    obtain ⟨h1, h2, h3, h4⟩ := cst_bd hf n (fun i hi => h i (by omega))
    have hk := h n (by omega)
    obtain ⟨p1, p2, p3, p4⟩ := hf n
    have m := mul_bd hk p4
    have m1 := mul_bd m p1
    have m2 := mul_bd m p2
    have m3 := mul_bd m p3
    simp only [cst]
    generalize cg ks n * (f n).a = x at *
    generalize x * (f n).r = x1 at *
    generalize x * (f n).g = x2 at *
    generalize x * (f n).b = x3 at *
    refine ⟨⟨?_, ?_⟩, ⟨?_, ?_⟩, ⟨?_, ?_⟩, ⟨?_, ?_⟩⟩ <;> (push_cast; omega)
/-- the pixel that a convolution makes of its sums -/
def cpx (s : Px) (d : Int) : Px := if lim s.a d = 0 then zp else ⟨lim s.r s.a, lim s.g s.a, lim s.b s.a, lim s.a d⟩
theorem cpx_pc (s : Px) (d : Int) : Pc (cpx s d) := by
  unfold cpx; split
  · exact zp_pc
  · exact ⟨lim_ch _ _, lim_ch _ _, lim_ch _ _, lim_ch _ _⟩
theorem lim_pos {n d : Int} (hd : 0 < d) (h : lim n d ≠ 0) : 0 < n := by
  rcases Int.lt_or_le 0 n with hn | hn
  · exact hn
  · exfalso; apply h
    have : (2 * n + d) / (2 * d) ≤ 0 := by
      have : (2 * n + d) / (2 * d) < 1 := Int.ediv_lt_of_lt_mul (by omega) (by omega)
      omega
    unfold lim; omega

/-- an effect in memory -/
abbrev efo (k r : Int) (K : Value) (d v : Int) (C : Value) : Obj := .cells #[.int .i64 k, .int .i64 r, K, .int .i64 d, .int .i64 v, C] 60
theorem ef_of {w : World} {b : Nat} {k r d v : Int} {K C : Value} {t : TypeId} (h : w.heap[b]? = some (.cells #[.int .i64 k, .int .i64 r, K, .int .i64 d, .int .i64 v, C] t)) : w.cell? ⟨b, 0, none⟩ = some (.int .i64 k) ∧ w.cell? ⟨b, 1, none⟩ = some (.int .i64 r) ∧ w.cell? ⟨b, 2, none⟩ = some K ∧ w.cell? ⟨b, 3, none⟩ = some (.int .i64 d) ∧ w.cell? ⟨b, 4, none⟩ = some (.int .i64 v) ∧ w.cell? ⟨b, 5, none⟩ = some C :=
  ⟨cell_of_row _ _ 0 _ _ _ h, cell_of_row _ _ 1 _ _ _ h, cell_of_row _ _ 2 _ _ _ h, cell_of_row _ _ 3 _ _ _ h, cell_of_row _ _ 4 _ _ _ h, cell_of_row _ _ 5 _ _ _ h⟩
/-- the window of x, y in an image: N places, d wide, all of them in the image -/
structure Wnd (x0 y0 x1 y1 : Int) (ps : List Px) (x y r : Int) (N d : Nat) : Prop where
  dpos : 0 < N → 0 < d
  dmax : d ≤ 4000000
  wide : wrap64 ((cov x y r).x1 - (cov x y r).x0) = d
  xlo : -2000000 ≤ (cov x y r).x0
  xhi : (cov x y r).x0 ≤ 2000000
  ylo : -2000000 ≤ (cov x y r).y0
  yhi : (cov x y r).y0 ≤ 2000000
  nmax : N ≤ 49
  area : R.area (cov x y r).x0 (cov x y r).y0 (cov x y r).x1 (cov x y r).y1 = N
  plc : ∀ i, i < N → Plc x0 y0 x1 y1 ps ((cov x y r).x0 + (i % d : Nat)) ((cov x y r).y0 + (i / d : Nat))
/-- the i-th pixel of a window -/
def wpx (x0 y0 x1 : Int) (ps : List Px) (x y r : Int) (d i : Nat) : Px := pat x0 y0 x1 ps ((cov x y r).x0 + (i % d : Nat)) ((cov x y r).y0 + (i / d : Nat))
theorem range_is {N i : Nat} {pre post : List Nat} (h : List.range N = pre ++ i :: post) : i = pre.length ∧ pre.length < N := by
  have h1 : (List.range N)[pre.length]? = some i := by rw [h]; simp
  have h2 : pre.length < N := by have := congrArg List.length h; simp at this; omega
  rw [List.getElem?_range h2] at h1
  exact ⟨by simpa using h1.symm, h2⟩
theorem Loc.st {β : Type} {B : Nat} {w : World} {L : β → List (Nat × Obj)} (hB : w.heap.size ≤ B) (hL : ∀ s, ∀ q ∈ L s, q.1 < B) : Loc B (fun s W => St w (L s) W) := fun s _ _ hs h =>
  ⟨hs.below.trans (h.mono hB), fun q hq => (h.block _ (hL s q hq)).trans (hs.rows q hq)⟩
theorem quiet_sym {P : Program} {f : FuncId} {args : Array Value} {w : World} {v : Value} (h : Calls P f args w fun e w' => e = .returned v ∧ w = w') : Calls P f args w fun e w' => e = .returned v ∧ w' = w := h.mono fun _ _ ⟨h1, h2⟩ => ⟨h1, h2.symm⟩
theorem res_px {fn : Func} {tm : Array Value} {b : Nat} {z : Px} {V : World} (hres : fn.results = #[.cell 4 39]) (ht : tm.getD 4 undef = .pointer (some ⟨b, 0, none⟩)) (h : V.heap[b]? = some z.o) : (results fn tm).run Tryz.prog V = .ok z.v V := by
  have c0 := cell_of_row _ _ 0 _ _ _ h
  have c1 := cell_of_row _ _ 1 _ _ _ h
  have c2 := cell_of_row _ _ 2 _ _ _ h
  have c3 := cell_of_row _ _ 3 _ _ _ h
  rw [Array.getD_eq_getD_getElem?] at ht
  simp [results, go_sem, *]
/-- how a function that hands back a pixel and has run a loop over an iterator leaves -/
theorem leave_px {n : Nat} {fn : Func} {R : Ending → World → Prop} {D b : Nat} {tm : Array Value} {V : World} {z : Px} (hres : fn.results = #[.cell 4 39]) (ht : tm.getD 4 undef = .pointer (some ⟨b, 0, none⟩)) (hK : V.heap[D]? = some (.deferred (some []))) (hb : b ≠ D) (hrow : V.heap[b]? = some z.o)
    (hR : R (.returned z.v) (V.putObj D (.deferred none))) : bodyPostM Fence.wide n Tryz.prog fn R .ret { tmps := tm, defers := [{ target := .collected D, args := #[] }] } V := by
  refine ⟨by simp, .inl ⟨D, _, rfl, run_takeDeferred hK, ?_⟩⟩
  exact ⟨_, res_px hres ht ((World.putObj_heap_other hb).trans hrow), hR⟩
theorem set_row {V : World} {b j : Nat} {v : Value} {cs : Array Value} {t : TypeId} (h : V.heap[b]? = some (.cells cs t)) : (V.setCell ⟨b, j, none⟩ v).heap[b]? = some (.cells (cs.setIfInBounds j v) t) := by
  obtain ⟨hlt, hk⟩ := Array.getElem?_eq_some_iff.1 h
  show (V.heap.modify b _)[b]? = _
  rw [Array.getElem?_eq_getElem (by rw [Array.size_modify]; exact hlt), Array.getElem_modify_self, hk]
  simp
/-- a pixel is stored -/
theorem set4_row {V : World} {b : Nat} {z : Px} (z0 : Px) (h : V.heap[b]? = some z0.o) : ((((V.setCell ⟨b, 0, none⟩ (.int .u8 z.r)).setCell ⟨b, 1, none⟩ (.int .u8 z.g)).setCell ⟨b, 2, none⟩ (.int .u8 z.b)).setCell ⟨b, 3, none⟩ (.int .u8 z.a)).heap[b]? = some z.o := by
  rw [set_row (set_row (set_row (set_row h)))]
  simp
theorem set4_mv (V : World) (b : Nat) (v0 v1 v2 v3 : Value) : Mv [b] V ((((V.setCell ⟨b, 0, none⟩ v0).setCell ⟨b, 1, none⟩ v1).setCell ⟨b, 2, none⟩ v2).setCell ⟨b, 3, none⟩ v3) :=
  (((Mv.set (by simp)).trans (Mv.set (by simp))).trans (Mv.set (by simp))).trans (Mv.set (by simp))
/-- the end of such a function, behind the store of its pixel -/
theorem end_px {n : Nat} {fn : Func} {D b : Nat} {tm : Array Value} {V V4 w : World} {z : Px} {v : Value} (hV : V4 = ((((V.setCell ⟨b, 0, none⟩ (.int .u8 z.r)).setCell ⟨b, 1, none⟩ (.int .u8 z.g)).setCell ⟨b, 2, none⟩ (.int .u8 z.b)).setCell ⟨b, 3, none⟩ (.int .u8 z.a))) (hres : fn.results = #[.cell 4 39]) (ht : tm.getD 4 undef = .pointer (some ⟨b, 0, none⟩)) (hK : V.heap[D]? = some (.deferred (some []))) (hb : b ≠ D) (z0 : Px) (hrow : V.heap[b]? = some z0.o)
    (hz : z.v = v) (hB : Below w.heap.size w V) (h1 : w.heap.size ≤ b) (h2 : w.heap.size ≤ D) : bodyPostM Fence.wide n Tryz.prog fn (fun e w' => e = .returned v ∧ Below w.heap.size w w') .ret { tmps := tm, defers := [{ target := .collected D, args := #[] }] } V4 := by
  subst hz hV
  have hm := set4_mv V b (.int .u8 z.r) (.int .u8 z.g) (.int .u8 z.b) (.int .u8 z.a)
  have hB4 := hB.trans (hm.below (B := w.heap.size) (by simpa using h1) hB.size)
  exact leave_px (z := z) hres ht (hm.row (by simpa using fun e => hb e.symm) hK) hb (set4_row z0 hrow) ⟨rfl, hB4.trans ((Mv.put _ _).below (by simpa using h2) hB4.size)⟩
set_option maxHeartbeats 8000000 in
theorem convolve_any (bi be : Nat) (x0 y0 x1 y1 x y k r d v : Int) (K C P : Value) (ks : List Int) (ps : List Px) (N dd : Nat) (w : World) (hi : w.heap[bi]? = some (imo x0 y0 x1 y1 P)) (he : w.heap[be]? = some (efo k r K d v C)) (hP : PM w P ps) (hK : Cm w K ks)
    (hpc : ∀ i, Pc (pg ps i)) (hw : Wnd x0 y0 x1 y1 ps x y r N dd) (hkl : ks.length = N) (hkb : ∀ i, i < N → -4096 ≤ cg ks i ∧ cg ks i ≤ 4096) (hd : 1 ≤ d ∧ d ≤ 1048576) :
    Calls Tryz.prog 59 #[ptv x y, .pointer (some ⟨bi, 0, none⟩), .pointer (some ⟨be, 0, none⟩)] w fun e w' => e = .returned (cpx (cst ks (wpx x0 y0 x1 ps x y r dd) N) d).v ∧ Below w.heap.size w w' := by
  refine (callsIn_wide (n := 8)).1 ?_
  refine callsIn_of_wp_marks Tryz.func59 rfl trivial ?_ rfl
  simp only [Tryz.ntmps59, List.size_toArray, List.length_cons, List.length_nil, Nat.reduceAdd, Nat.reduceSub, Array.replicate_succ, Array.replicate_zero, List.push_toArray, List.append_toArray, List.nil_append, List.cons_append]
  have hm : Tryz.prog.follows .mixedOrders = true := by kernel_rfl
  refine wpIn_wide.2 ?_
  go_upto_region 2 with fail
  obtain ⟨W6, hW6⟩ : ∃ W6, W6 = ((((((w.alloc (pto x y)).alloc (po 0 0 0 0)).alloc (numo 0)).alloc (numo 0)).alloc (numo 0)).alloc (numo 0)) := ⟨_, rfl⟩
  have hs6 := ((((((St.start w).alloc (pto x y)).alloc (po 0 0 0 0)).alloc (numo 0)).alloc (numo 0)).alloc (numo 0)).alloc (numo 0)
  simp only [World.size_alloc] at hs6
  rw [← hW6] at hs6 ⊢
  have z6 : W6.heap.size = w.heap.size + 6 := by rw [hW6]; simp
  clear hW6
  have hb6 := hs6.below
  obtain ⟨i0, i1, i2, i3, i4⟩ := im_of ((hb6.block _ (Array.getElem?_eq_some_iff.1 hi).1).trans hi)
  obtain ⟨e0, e1, e2, e3, e4, e5⟩ := ef_of ((hb6.block _ (Array.getElem?_eq_some_iff.1 he).1).trans he)
  obtain ⟨a0, a1⟩ := pt_of (hs6.row (b := w.heap.size) (o := pto x y) (by simp))
  have HS6 := Lib.hid hs6; clear hs6
  have HB6 := Lib.hid hb6; clear hb6
  go_wp2_with (go_at_call 60; refine (window_any _ _ _ _ _ _ _ _ _).mono ?_; rintro e W1 ⟨bc, rfl, h1, h2, h3⟩; have H1 := Lib.hid h1; have H2 := Lib.hid h2; have H3 := Lib.hid h3; clear h1 h2 h3)
  refine (wpIn_wide (n := 8)).1 ?_
  obtain ⟨s, hs⟩ : ∃ s, s = w.heap.size := ⟨_, rfl⟩
  rw [← hs] at z6 HS6 ⊢
  have hb1 := H1.out
  have hit : Iter Tryz.prog 78 #[.pointer (some ⟨bc, 0, none⟩), .pointer (some ⟨s + 6, 0, none⟩)] (fun i : Nat => #[.int .i64 i, (wpx x0 y0 x1 ps x y r dd i).v]) [s + 1 + 1, s + 1 + 1 + 1, s + 1 + 1 + 1 + 1, s + 1 + 1 + 1 + 1 + 1] (List.range N) W1 :=
    window_iter bc (s + 6) x0 y0 x1 y1 _ _ _ _ N dd P ps _ W1 (by rw [← z6]; exact H2.out) H3.out (by simp <;> omega) (by simp <;> omega) (by simp <;> omega) (fun V hV => by
      have h0 : Below w.heap.size w V := (HB6.out.trans ((hb1.1).mono (by omega))).trans (hV.below (by simp <;> omega) (by omega))
      exact hP.later h0) hw.dpos hw.dmax hw.wide hw.xlo hw.xhi hw.ylo hw.yhi (by have := hw.nmax; omega) hw.area hw.plc
  have hfc : ∀ i, Pc (wpx x0 y0 x1 ps x y r dd i) := fun i => hpc _
  have hN := hw.nmax
  obtain ⟨zz, hzz⟩ : ∃ zz, zz = cpx (cst ks (wpx x0 y0 x1 ps x y r dd) N) d := ⟨_, rfl⟩
  have HZZ := Lib.hid hzz.symm
  generalize wpx x0 y0 x1 ps x y r dd = f at hzz hit hfc
  have HZF := Lib.hid hzz; clear hzz
  have hbd := fun n => cst_bd (ks := ks) hfc n
  obtain ⟨pk, ck, rfl, ⟨hkc, hkc2⟩, hel⟩ := cm_elem hK
  have HEL := Lib.hid hel; clear hel
  rw [hkl] at hkc he e2 HEL
  refine range_iter (gf := 78) (lb := #[.pointer (some ⟨bc, 0, none⟩), .pointer (some ⟨s + 6, 0, none⟩)]) (w0 := W1) rfl (enters_of Tryz.func78 (by kernel_rfl) rfl)
    hit (Mv.refl _ _) (by simp <;> omega) (fun _ => rfl)
    (fun pre V => St w [(s + 1 + 1, numo (cst ks f pre.length).r), (s + 1 + 1 + 1, numo (cst ks f pre.length).g), (s + 1 + 1 + 1 + 1, numo (cst ks f pre.length).b), (s + 1 + 1 + 1 + 1 + 1, numo (cst ks f pre.length).a), (s + 1, po 0 0 0 0)] V) (fun _ _ => False)
    (Loc.st (by omega) (by intro s' q hq; simp at hq; rcases hq with rfl | rfl | rfl | rfl | rfl <;> simp <;> omega)) (fun _ _ _ h _ => h) ?start ?round ?done ?ret
  case start => exact (HS6.out.later hb1.1).sub (by simp [cst])
  case ret => rintro D pre V hD hj hK; exact hj.elim
  case round =>
    subst hs
    rintro l pre i post V hx hl hlt hI
    obtain ⟨rfl, hiN⟩ := range_is hx
    have hlen : (pre ++ [pre.length]).length = pre.length + 1 := by simp
    rw [hlen]
    generalize pre.length = n at *
    have hkn := hkb n hiN
    obtain ⟨q1, q2, q3, q4⟩ := hfc n
    obtain ⟨g1, g2, g3, g4⟩ := hbd n (fun i hi => hkb i (by omega))
    have m0 := mul_bd hkn q4
    have m1 := mul_bd m0 q1
    have m2 := mul_bd m0 q2
    have m3 := mul_bd m0 q3
    have HS1 : Hid (cst ks f (n + 1) = ⟨(cst ks f n).r + cg ks n * (f n).a * (f n).r, (cst ks f n).g + cg ks n * (f n).a * (f n).g, (cst ks f n).b + cg ks n * (f n).a * (f n).b, (cst ks f n).a + cg ks n * (f n).a⟩) := rfl
    have HCK : Hid (∀ V, Below w.heap.size w V → ∃ b off, pk = some ⟨b, off, none⟩ ∧ V.cell? ⟨b, off + n, none⟩ = some (.int .i64 (cg ks n))) := fun V h => HEL.out V h n hiN
    generalize cst ks f (n + 1) = t1 at *
    generalize cst ks f n = t0 at *
    generalize f n = p at *
    generalize cg ks n = c at *
    generalize hwt : c * p.a = wt at *
    have HWT := Lib.hid hwt
    generalize hp1 : wt * p.r = pr at *
    generalize hp2 : wt * p.g = pg at *
    generalize hp3 : wt * p.b = pb at *
    have hmx : (n : Int) ≤ 48 := by omega
    have hV0 : Below w.heap.size w V := hI.below
    have HP2 : Hid (∀ V2, Mv [l] (V.alloc p.o) V2 → St w [(w.heap.size + 1 + 1, numo t0.r), (w.heap.size + 1 + 1 + 1, numo t0.g), (w.heap.size + 1 + 1 + 1 + 1, numo t0.b), (w.heap.size + 1 + 1 + 1 + 1 + 1, numo t0.a), (w.heap.size + 1, po 0 0 0 0)] V2 ∧ V2.heap[V.heap.size]? = some p.o) := fun V2 h => by
      have h1 : Below W1.heap.size V (V.alloc p.o) := below1.mono (by omega)
      have h2 := h1.trans (h.below (by simp; omega) (by simp; omega))
      exact ⟨(Loc.st (β := Unit) (L := fun _ => _) (by omega) (by intro s' q hq; simp at hq; rcases hq with rfl | rfl | rfl | rfl | rfl <;> simp <;> omega)) () V V2 hI h2, h.row (by simp; omega) (World.alloc_heap_new _ _)⟩
    have HXA : Hid (Mv [w.heap.size + 1 + 1, w.heap.size + 1 + 1 + 1, w.heap.size + 1 + 1 + 1 + 1, w.heap.size + 1 + 1 + 1 + 1 + 1] V (V.alloc p.o)) := Mv.alloc _ _
    gi_wp2
    refine ⟨HXA.out, fun V2 hV2 => ?_⟩
    obtain ⟨hst, hpx⟩ := HP2.out V2 hV2
    obtain ⟨kb, ko, rfl, hkc1⟩ := HCK.out V2 hst.below
    obtain ⟨e0, e1, e2, e3, e4, e5⟩ := ef_of ((hst.below.block _ (Array.getElem?_eq_some_iff.1 he).1).trans he)
    have hpc4 : V2.cell? ⟨V.heap.size, 0, none⟩ = some (.int .u8 p.r) ∧ V2.cell? ⟨V.heap.size, 1, none⟩ = some (.int .u8 p.g) ∧ V2.cell? ⟨V.heap.size, 2, none⟩ = some (.int .u8 p.b) ∧ V2.cell? ⟨V.heap.size, 3, none⟩ = some (.int .u8 p.a) :=
      ⟨cell_of_row _ _ 0 _ _ _ hpx, cell_of_row _ _ 1 _ _ _ hpx, cell_of_row _ _ 2 _ _ _ hpx, cell_of_row _ _ 3 _ _ _ hpx⟩
    obtain ⟨p0, p1, p2, p3⟩ := hpc4
    have x3 : IntKind.i64.wrap p.a = p.a := wr_in (by unfold Ch at q4; omega)
    have x4 : IntKind.i64.wrap wt = wt := wr_in (by omega)
    have x0 : IntKind.i64.wrap p.r = p.r := wr_in (by unfold Ch at q1; omega)
    have x1 : IntKind.i64.wrap p.g = p.g := wr_in (by unfold Ch at q2; omega)
    have x2 : IntKind.i64.wrap p.b = p.b := wr_in (by unfold Ch at q3; omega)
    have y0 : IntKind.i64.wrap pr = pr := wr_in (by omega)
    have y1 : IntKind.i64.wrap pg = pg := wr_in (by omega)
    have y2 : IntKind.i64.wrap pb = pb := wr_in (by omega)
    have s0 : IntKind.i64.wrap (t0.r + pr) = t0.r + pr := wr_in (by omega)
    have s1 : IntKind.i64.wrap (t0.g + pg) = t0.g + pg := wr_in (by omega)
    have s2 : IntKind.i64.wrap (t0.b + pb) = t0.b + pb := wr_in (by omega)
    have s3 : IntKind.i64.wrap (t0.a + wt) = t0.a + wt := wr_in (by omega)
    have r0 := nb_of (hst.row (b := w.heap.size + 1 + 1) (o := numo t0.r) (by simp))
    have r1 := nb_of (hst.row (b := w.heap.size + 1 + 1 + 1) (o := numo t0.g) (by simp))
    have r2 := nb_of (hst.row (b := w.heap.size + 1 + 1 + 1 + 1) (o := numo t0.b) (by simp))
    have r3 := nb_of (hst.row (b := w.heap.size + 1 + 1 + 1 + 1 + 1) (o := numo t0.a) (by simp))
    have f0 := frozen_of_row _ _ 0 _ _ (hst.row (b := w.heap.size + 1 + 1) (o := numo t0.r) (by simp))
    have f1 := frozen_of_row _ _ 0 _ _ (hst.row (b := w.heap.size + 1 + 1 + 1) (o := numo t0.g) (by simp))
    have f2 := frozen_of_row _ _ 0 _ _ (hst.row (b := w.heap.size + 1 + 1 + 1 + 1) (o := numo t0.b) (by simp))
    have f3 := frozen_of_row _ _ 0 _ _ (hst.row (b := w.heap.size + 1 + 1 + 1 + 1 + 1) (o := numo t0.a) (by simp))
    have hn64 : (n : Int) < N := by omega
    clear hV2 HP2 HXA HCK HEL hit hI hx hbd hkb
    gi_wp2
    refine wpIn_still_tail (ro := some l) 9 hm (by kernel_rfl) (by kernel_rfl) ?_
    simp only [List.take_succ_cons, List.take_zero, List.drop_succ_cons, List.drop_zero]
    repeat still_step
    refine wpStill_nil ?_
    gi_wp2
    refine sums_region (b0 := w.heap.size + 1 + 1) (b1 := w.heap.size + 1 + 1 + 1) (b2 := w.heap.size + 1 + 1 + 1 + 1) (b3 := w.heap.size + 1 + 1 + 1 + 1 + 1) (bx := V.heap.size) (p := p) (t0 := t0) (wt := wt) (pr := pr) (pg := pg) (pb := pb)
      (by show 60 ≤ (71 : Nat); omega) (by omega) rfl rfl rfl rfl rfl rfl (fun V3 h3 => ?_) ⟨q1, q2, q3⟩ ⟨by rw [hp1]; exact y0, by rw [hp2]; exact y1, by rw [hp3]; exact y2⟩ ⟨s0, s1, s2, s3⟩ (fun q hq => ?_) (fun a3 V3 h3 hr3 => ?_)
    · have hx3 : V3.heap[V.heap.size]? = some p.o := h3.row (by intro hb; simp only [List.mem_cons, List.not_mem_nil, or_false] at hb; omega) hpx
      exact ⟨cell_of_row _ _ 0 _ _ _ hx3, cell_of_row _ _ 1 _ _ _ hx3, cell_of_row _ _ 2 _ _ _ hx3⟩
    · rcases (by omega : q = 0 ∨ q = 1 ∨ q = 2 ∨ q = 3) with rfl | rfl | rfl | rfl
      · exact hst.row (b := w.heap.size + 1 + 1) (o := numo t0.r) (by simp)
      · exact hst.row (b := w.heap.size + 1 + 1 + 1) (o := numo t0.g) (by simp)
      · exact hst.row (b := w.heap.size + 1 + 1 + 1 + 1) (o := numo t0.b) (by simp)
      · exact hst.row (b := w.heap.size + 1 + 1 + 1 + 1 + 1) (o := numo t0.a) (by simp)
    · have e1 : V3.heap[w.heap.size + 1 + 1]? = some (numo (t0.r + pr)) := hr3 0 (by omega)
      have e2 : V3.heap[w.heap.size + 1 + 1 + 1]? = some (numo (t0.g + pg)) := hr3 1 (by omega)
      have e3 : V3.heap[w.heap.size + 1 + 1 + 1 + 1]? = some (numo (t0.b + pb)) := hr3 2 (by omega)
      have e4 : V3.heap[w.heap.size + 1 + 1 + 1 + 1 + 1]? = some (numo (t0.a + wt)) := hr3 3 (by omega)
      have e5 := h3.row (b := w.heap.size + 1) (by intro hb; simp only [List.mem_cons, List.not_mem_nil, or_false] at hb; omega) (hst.row (b := w.heap.size + 1) (o := po 0 0 0 0) (by simp))
      refine ⟨(Mv.drew V2).trans h3, ?_⟩
      rw [HS1.out]
      have hbl : ∀ b ∈ [w.heap.size + 1 + 1, w.heap.size + 1 + 1 + 1, w.heap.size + 1 + 1 + 1 + 1, w.heap.size + 1 + 1 + 1 + 1 + 1], w.heap.size ≤ b := fun b hb => by
        simp only [List.mem_cons, List.not_mem_nil, or_false] at hb
        omega
      refine ⟨hst.drew.below.trans (h3.below hbl hst.below.size), fun q hq => ?_⟩
      simp only [List.mem_cons, List.not_mem_nil, or_false] at hq
      rcases hq with rfl | rfl | rfl | rfl | rfl
      · exact e1
      · exact e2
      · exact e3
      · exact e4
      · exact e5
  case done =>
    subst hs
    rintro D V hD hI hK
    rw [List.length_range] at hI
    obtain ⟨g1, g2, g3, g4⟩ := hbd N hkb
    have hzf := HZF.out
    generalize cst ks f N = t0 at *
    have HZT := Lib.hid hzf; clear hzf
    have r0 := nb_of (hI.row (b := w.heap.size + 1 + 1) (o := numo t0.r) (by simp))
    have r1 := nb_of (hI.row (b := w.heap.size + 1 + 1 + 1) (o := numo t0.g) (by simp))
    have r2 := nb_of (hI.row (b := w.heap.size + 1 + 1 + 1 + 1) (o := numo t0.b) (by simp))
    have r3 := nb_of (hI.row (b := w.heap.size + 1 + 1 + 1 + 1 + 1) (o := numo t0.a) (by simp))
    obtain ⟨e0, e1, e2, e3, e4, e5⟩ := ef_of ((hI.below.block _ (Array.getElem?_eq_some_iff.1 he).1).trans he)
    have hpo := hI.row (b := w.heap.size + 1) (o := po 0 0 0 0) (by simp)
    have hpf := fun j => frozen_of_row _ _ j _ _ hpo
    obtain ⟨p0, p1, p2, p3⟩ : V.cell? ⟨w.heap.size + 1, 0, none⟩ = some (.int .u8 0) ∧ V.cell? ⟨w.heap.size + 1, 1, none⟩ = some (.int .u8 0) ∧ V.cell? ⟨w.heap.size + 1, 2, none⟩ = some (.int .u8 0) ∧ V.cell? ⟨w.heap.size + 1, 3, none⟩ = some (.int .u8 0) := ⟨cell_of_row _ _ 0 _ _ _ hpo, cell_of_row _ _ 1 _ _ _ hpo, cell_of_row _ _ 2 _ _ _ hpo, cell_of_row _ _ 3 _ _ _ hpo⟩
    have HQ := Lib.hid hK; clear hK
    have HI := Lib.hid hI; clear hI
    have HCX : Hid (zz = if lim t0.a d = 0 then zp else ⟨lim t0.r t0.a, lim t0.g t0.a, lim t0.b t0.a, lim t0.a d⟩) := HZT.out
    have HLP : Hid (lim t0.a d ≠ 0 → 0 < t0.a) := fun h => lim_pos (by omega) h
    have HL1 : Hid (∀ V, Calls Tryz.prog 61 #[.int .i64 t0.a, .int .i64 d] V fun e w' => e = .returned (.int .u8 (lim t0.a d)) ∧ V = w') := fun V => lim_any _ _ V (by omega) (by omega)
    have HL2 : Hid (0 < t0.a → ∀ n V, -20000000000 ≤ n ∧ n ≤ 20000000000 → Calls Tryz.prog 61 #[.int .i64 n, .int .i64 t0.a] V fun e w' => e = .returned (.int .u8 (lim n t0.a)) ∧ V = w') := fun h0 n V hn => lim_any _ _ V (by omega) (by omega)
    generalize lim t0.a d = al at *
    by_cases hal : al = 0
    · subst hal
      have hz := HCX.out
      rw [if_pos rfl] at hz
      go_wp2_with (go_at_call 61; (with_reducible refine (HL1.out _).mono ?_); rintro e w' ⟨rfl, rfl⟩)
      exact end_px (z := zp) rfl rfl rfl HQ.out (by omega) zp hpo (by rw [← hz]; exact congrArg Px.v HZZ.out.symm) HI.out.below (by omega) (by omega)
    · have hal' : (al == 0) = false := by simpa using hal
      have h0 := HLP.out hal
      have hz := HCX.out
      rw [if_neg hal] at hz
      go_wp2_with (go_at_call 61; (with_reducible refine (HL1.out _).mono ?_); rintro e w' ⟨rfl, rfl⟩)
      go_still_tail 11, hm
      still_call (quiet_sym (HL2.out h0 _ _ (by omega)))
      repeat still_step
      still_call (quiet_sym (HL2.out h0 _ _ (by omega)))
      repeat still_step
      still_call (quiet_sym (HL2.out h0 _ _ (by omega)))
      repeat still_step
      refine wpStill_nil ?_
      go_wp2
      exact end_px (V := V.drew) (z := ⟨lim t0.r t0.a, lim t0.g t0.a, lim t0.b t0.a, al⟩) rfl rfl rfl HQ.out (by omega) zp hpo (by rw [← hz]; exact congrArg Px.v HZZ.out.symm) HI.out.drew.below (by omega) (by omega)
end Go.Proofs.YtbodmeiecdomfaaGreat.W
