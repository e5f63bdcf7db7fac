/-
  Apply of a convolution and of a threshold.
-/
import Derived.Test.YtbodmeiecdomfaaGreatWApp
namespace Go.Proofs.YtbodmeiecdomfaaGreat.W
open Go.RowKit Go.Shelf
set_option maxRecDepth 100000
variable {W w w' : World}

/-- the arguments of Apply are in order -/
structure Fit (x0 y0 x1 y1 q0 q1 q2 q3 : Int) (n N dd : Nat) : Prop where
  a0 : adm x0 y0 x1 y1 = true
  an : R.area x0 y0 x1 y1 = n
  aq : adm q0 q1 q2 q3 = true
  ar : R.area q0 q1 q2 q3 = N
  nm : N ≤ 262144
  dw : wrap64 (q2 - q0) = dd
  dp : 0 < N → 0 < dd
  dm : dd ≤ 4000000
theorem adm_bd {a b c d : Int} (h : adm a b c d = true) : (-1048576 ≤ a ∧ a ≤ 1048576) ∧ (-1048576 ≤ b ∧ b ≤ 1048576) ∧ (-1048576 ≤ c ∧ c ≤ 1048576) ∧ -1048576 ≤ d ∧ d ≤ 1048576 := by
  simp [adm, wi] at h; omega
theorem all_bad {ks : List Int} (h : ks.any bad = false) {i : Nat} (hi : i < ks.length) : -4096 ≤ cg ks i ∧ cg ks i ≤ 4096 := by
  rw [List.any_eq_false] at h
  have h1 := h (ks[i]) (List.getElem_mem _)
  simp [bad, wi] at h1
  simp [cg, List.getD, hi]
  omega
set_option maxHeartbeats 4000000 in
theorem apply_conv (r d v x0 y0 x1 y1 q0 q1 q2 q3 : Int) (ks cs : List Int) (K C : Value) (p : Option Addr) (n c N dd NN wd : Nat) (ps : List Px) (w : World) (hK : Cm w K ks) (hC : Cm w C cs) (hP : PM w (.slice p n c) ps) (hpc : ∀ i, Pc (pg ps i)) (hv : vf 1 r ks d v cs = true)
    (hf : Fit x0 y0 x1 y1 q0 q1 q2 q3 n N dd) (hin : R.ins (rch (-1) true 1 r v q0 q1 q2 q3).x0 (rch (-1) true 1 r v q0 q1 q2 q3).y0 (rch (-1) true 1 r v q0 q1 q2 q3).x1 (rch (-1) true 1 r v q0 q1 q2 q3).y1 x0 y0 x1 y1 = true)
    (hkl : ks.length = NN) (hw : ∀ i, i < N → Wnd x0 y0 x1 y1 ps (q0 + (i % dd : Nat)) (q1 + (i / dd : Nat)) r NN wd) :
    Calls Tryz.prog 13 #[fv 1 r K d v C, imv x0 y0 x1 y1 (.slice p n c), R.rv q0 q1 q2 q3] w fun e w' => ∃ b, e = .returned (.tuple #[imv q0 q1 q2 q3 (.slice (some ⟨b, 0, none⟩) N N), .int .i64 0]) ∧ w.heap.size ≤ b ∧ PM w' (.slice (some ⟨b, 0, none⟩) N N) ((List.range N).map fun i => cln (cpx (cst ks (wpx x0 y0 x1 ps (q0 + (i % dd : Nat)) (q1 + (i / dd : Nat)) r wd) NN) d)) ∧ Below w.heap.size w w' := by
  obtain ⟨g0, g1, g2, g3⟩ := adm_bd hf.aq
  have hv1 : (wi r 0 3 && ik ks r && wi d 1 1048576) = true ∧ nof 0 0 0 v cs.length = true := by
    have : vf 1 r ks d v cs = ((wi r 0 3 && ik ks r && wi d 1 1048576) && nof 0 0 0 v cs.length) := rfl
    rw [this] at hv; simpa using hv
  have hv2 := hv1.1
  simp only [Bool.and_eq_true] at hv2
  obtain ⟨⟨hr, hik⟩, hdd⟩ := hv2
  have hbad : ks.any bad = false := by
    unfold ik at hik; simp only [Bool.and_eq_true, Bool.not_eq_true'] at hik; exact hik.2
  refine apply_any 1 r d v x0 y0 x1 y1 q0 q1 q2 q3 K C (.slice p n c) 44 N dd (fun i => cpx (cst ks (wpx x0 y0 x1 ps (q0 + (i % dd : Nat)) (q1 + (i / dd : Nat)) r wd) NN) d) w
    (fun V hV => check_ok 1 r d v x0 y0 x1 y1 q0 q1 q2 q3 ks cs K C p n c V (hK.later hV) (hC.later hV) hv hf.a0 hf.an hf.aq (by rw [hf.ar]; have := hf.nm; omega) hin) (fun V => by kernel_rfl) (enters_of Tryz.func44 (by kernel_rfl) rfl) (fun V hV => ?_) hf.ar hf.nm hf.dw hf.dp hf.dm (by omega) (by omega) (by omega) (by omega)
  refine (conv_any 1 r d v x0 y0 x1 y1 K C (.slice p n c) V).mono fun e w' ⟨he, hw'⟩ => ⟨_, he, by rw [hw']; exact below2, ?_⟩
  have hb2 : Below V.heap.size V w' := by rw [hw']; exact below2
  have r1 : w'.heap[V.heap.size]? = some (efo 1 r K d v C) := by rw [hw']; exact (Below.heap_alloc _ _ _ (by simp)).trans (World.alloc_heap_new _ _)
  have r2 : w'.heap[V.heap.size + 1]? = some (imo x0 y0 x1 y1 (.slice p n c)) := by
    rw [hw']; have := World.alloc_heap_new (V.alloc (efo 1 r K d v C)) (imo x0 y0 x1 y1 (.slice p n c)); rwa [World.size_alloc] at this
  refine ⟨Nat.le_trans hV.size hb2.size, _, _, rfl, enters_of Tryz.func59 (by kernel_rfl) rfl, fun V3 h3 i hi => ?_⟩
  have hb3 : Below w.heap.size w V3 := (hV.trans (hb2.mono hV.size)).trans h3.below
  exact convolve_any (V.heap.size + 1) V.heap.size x0 y0 x1 y1 _ _ 1 r d v K C (.slice p n c) ks ps NN wd V3 (h3.high _ _ r2 (by simp)) (h3.high _ _ r1 (by simp)) (hP.later hb3) (hK.later hb3) hpc (hw i hi) hkl (fun j hj => all_bad hbad (by omega)) ⟨wi_lo hdd, wi_hi hdd⟩
set_option maxHeartbeats 4000000 in
theorem apply_thr (r d v x0 y0 x1 y1 q0 q1 q2 q3 : Int) (ks cs : List Int) (K C : Value) (p : Option Addr) (n c N dd : Nat) (ps : List Px) (w : World) (hK : Cm w K ks) (hC : Cm w C cs) (hP : PM w (.slice p n c) ps) (hpc : ∀ i, Pc (pg ps i)) (hv : vf 7 r ks d v cs = true)
    (hf : Fit x0 y0 x1 y1 q0 q1 q2 q3 n N dd) (hin : R.ins (rch (-1) true 7 r v q0 q1 q2 q3).x0 (rch (-1) true 7 r v q0 q1 q2 q3).y0 (rch (-1) true 7 r v q0 q1 q2 q3).x1 (rch (-1) true 7 r v q0 q1 q2 q3).y1 x0 y0 x1 y1 = true)
    (hw : ∀ i, i < N → Plc x0 y0 x1 y1 ps (q0 + (i % dd : Nat)) (q1 + (i / dd : Nat))) :
    Calls Tryz.prog 13 #[fv 7 r K d v C, imv x0 y0 x1 y1 (.slice p n c), R.rv q0 q1 q2 q3] w fun e w' => ∃ b, e = .returned (.tuple #[imv q0 q1 q2 q3 (.slice (some ⟨b, 0, none⟩) N N), .int .i64 0]) ∧ w.heap.size ≤ b ∧ PM w' (.slice (some ⟨b, 0, none⟩) N N) ((List.range N).map fun i => cln (thr (pat x0 y0 x1 ps (q0 + (i % dd : Nat)) (q1 + (i / dd : Nat))) v)) ∧ Below w.heap.size w w' := by
  obtain ⟨g0, g1, g2, g3⟩ := adm_bd hf.aq
  have hv1 : wi v 0 256 = true ∧ nof r ks.length d 0 cs.length = true := by
    have : vf 7 r ks d v cs = (wi v 0 256 && nof r ks.length d 0 cs.length) := rfl
    rw [this] at hv; simpa using hv
  refine apply_any 7 r d v x0 y0 x1 y1 q0 q1 q2 q3 K C (.slice p n c) 50 N dd (fun i => thr (pat x0 y0 x1 ps (q0 + (i % dd : Nat)) (q1 + (i / dd : Nat))) v) w
    (fun V hV => check_ok 7 r d v x0 y0 x1 y1 q0 q1 q2 q3 ks cs K C p n c V (hK.later hV) (hC.later hV) hv hf.a0 hf.an hf.aq (by rw [hf.ar]; have := hf.nm; omega) hin) (fun V => by kernel_rfl) (enters_of Tryz.func50 (by kernel_rfl) rfl) (fun V hV => ?_) hf.ar hf.nm hf.dw hf.dp hf.dm (by omega) (by omega) (by omega) (by omega)
  refine (thresh_any 7 r d v x0 y0 x1 y1 K C (.slice p n c) V).mono fun e w' ⟨he, hw'⟩ => ⟨_, he, by rw [hw']; exact below2, ?_⟩
  have hb2 : Below V.heap.size V w' := by rw [hw']; exact below2
  have r1 : w'.heap[V.heap.size]? = some (efo 7 r K d v C) := by rw [hw']; exact (Below.heap_alloc _ _ _ (by simp)).trans (World.alloc_heap_new _ _)
  have r2 : w'.heap[V.heap.size + 1]? = some (imo x0 y0 x1 y1 (.slice p n c)) := by
    rw [hw']; have := World.alloc_heap_new (V.alloc (efo 7 r K d v C)) (imo x0 y0 x1 y1 (.slice p n c)); rwa [World.size_alloc] at this
  refine ⟨Nat.le_trans hV.size hb2.size, _, _, rfl, enters_of Tryz.func72 (by kernel_rfl) rfl, fun V3 h3 i hi => ?_⟩
  have hb3 : Below w.heap.size w V3 := (hV.trans (hb2.mono hV.size)).trans h3.below
  exact threshold_any (V.heap.size + 1) V.heap.size x0 y0 x1 y1 _ _ 7 r d v K C (.slice p n c) ps V3 (h3.high _ _ r2 (by simp)) (h3.high _ _ r1 (by simp)) (hP.later hb3) hpc (hw i hi) ⟨wi_lo hv1.1, wi_hi hv1.1⟩
end Go.Proofs.YtbodmeiecdomfaaGreat.W
