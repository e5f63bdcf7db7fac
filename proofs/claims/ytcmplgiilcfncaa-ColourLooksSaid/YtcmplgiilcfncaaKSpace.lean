/-
  To and From of a valid space.
-/
import Derived.Test.YtcmplgiilcfncaaKMul
namespace Go.Proofs.Ytcmplgiilcfncaa.K
open Go.RowKit
variable {W w w' : World} {L : List (Nat × Obj)}

/-- a space whose curves are these numbers -/
structure Ps where
  (a b c : List Int)
  (mt mf : M9)
structure PsOk (p : Ps) : Prop where
  a : Cv p.a
  b : Cv p.b
  c : Cv p.c
  t : EnM p.mt
  f : EnM p.mf
/-- the value s stands for the space p -/
structure Rep (w : World) (s : Sp) (p : Ps) : Prop where
  a : Cm w s.v0 p.a
  b : Cm w s.v1 p.b
  c : Cm w s.v2 p.c
  t : s.mt = p.mt
  f : s.mf = p.mf
theorem Rep.later {s : Sp} {p : Ps} (h : Rep w s p) (hb : Below w.heap.size w w') : Rep w' s p := ⟨h.a.later hb, h.b.later hb, h.c.later hb, h.t, h.f⟩
def svo (c : List Int) (y : Int) : Int := if slk true c y then slv true c y else 65535
def toF (p : Ps) (c : C3) : C3 := mulM p.mt ⟨atv true p.a c.r, atv true p.b c.g, atv true p.c c.b⟩
def fromF (p : Ps) (c : C3) : C3 := ⟨svo p.a (clipF (mulM p.mf (bnd c))).r, svo p.b (clipF (mulM p.mf (bnd c))).g, svo p.c (clipF (mulM p.mf (bnd c))).b⟩
/-- a space in memory -/
abbrev so (s : Sp) : Obj := .cells #[s.v0, s.v1, s.v2, .int .i64 s.mt.m0, .int .i64 s.mt.m1, .int .i64 s.mt.m2, .int .i64 s.mt.m3, .int .i64 s.mt.m4, .int .i64 s.mt.m5, .int .i64 s.mt.m6, .int .i64 s.mt.m7, .int .i64 s.mt.m8, .int .i64 s.mf.m0, .int .i64 s.mf.m1, .int .i64 s.mf.m2, .int .i64 s.mf.m3, .int .i64 s.mf.m4, .int .i64 s.mf.m5, .int .i64 s.mf.m6, .int .i64 s.mf.m7, .int .i64 s.mf.m8] 46
theorem so_l (s : Sp) : so s = .cells s.l.toArray 46 := rfl
theorem St.sp (h : St W L w) {b : Nat} {s : Sp} (hm : (b, so s) ∈ L) : Has w b 0 s.l := St.has h (t := 46) (so_l s ▸ hm)
theorem run_mt {b : Nat} {s : Sp} (h : Has w b 0 s.l) : (loadVar 44 ⟨b, 3, none⟩).run Try.prog w = .ok s.mt.v w ∧ (loadVar 44 ⟨b, 12, none⟩).run Try.prog w = .ok s.mf.v w := by
  obtain ⟨_, h1, h2⟩ := h.cells
  rw [Nat.zero_add] at h1 h2
  exact ⟨run_load_at w b 3 44 s.mt.l _ h1 Try.underlying44 (by kernel_rfl) (by kernel_rfl), run_load_at w b 12 44 s.mf.l _ h2 Try.underlying44 (by kernel_rfl) (by kernel_rfl)⟩
theorem iff_true {a : Prop} (h : a) : true = true ↔ a := by simp [h]
theorem to1_0 (s : Sp) (c : List Int) (x : Int) (b : Nat) (w : World) (hm : Has w b 0 s.l) (hc : Cm w s.v0 c) (hv : Cv c) :
    Calls Try.prog 79 (#[.int .i64 0, .int .i64 x] ++ #[.pointer (some ⟨b, 0, none⟩)]) w fun e w' => e = .returned (.int .i64 (atv true c x)) ∧ Below w.heap.size w w' := by
  have m0 := hm 0 _ rfl
  rw [Nat.zero_add] at m0
  have HA := Lib.hid (at_any c s.v0 true x w hc (iff_true hv))
  clear hm hc hv
  generalize s.v0 = v at m0 HA
  have key : Calls Try.prog 79 #[.int .i64 0, .int .i64 x, .pointer (some ⟨b, 0, none⟩)] w fun e w' => e = .returned (.int .i64 (atv true c x)) ∧ Below w.heap.size w w' := by
    go_enter Try.func79, Try.ntmps79
    go_wp2_with (go_at_call 80; (refine HA.out.mono ?_); rintro e w2 ⟨rfl, h2⟩)
    go_ret
    exact ⟨rfl, h2⟩
  exact key
theorem from1_0 (s : Sp) (c : List Int) (x : Int) (b : Nat) (w : World) (hm : Has w b 0 s.l) (hc : Cm w s.v0 c) (hv : Cv c) :
    Calls Try.prog 77 (#[.int .i64 0, .int .i64 x] ++ #[.pointer (some ⟨b, 0, none⟩)]) w fun e w' => e = .returned (.int .i64 (svo c x)) ∧ Below w.heap.size w w' := by
  have m0 := hm 0 _ rfl
  rw [Nat.zero_add] at m0
  have HA := Lib.hid (solve_any c s.v0 true x w hc (iff_true hv))
  clear hm hc hv
  have HE : Hid (svo c x = if slk true c x then ((slv true c x : Nat) : Int) else 65535) := rfl
  generalize s.v0 = v at m0 HA
  generalize ((slv true c x : Nat) : Int) = z at HA HE
  have key : Calls Try.prog 77 #[.int .i64 0, .int .i64 x, .pointer (some ⟨b, 0, none⟩)] w fun e w' => e = .returned (.int .i64 (svo c x)) ∧ Below w.heap.size w w' := by
    cases hk : slk true c x
    all_goals
      rw [hk] at HA HE
      clear hk
      go_enter Try.func77, Try.ntmps77
      go_wp2_with (go_at_call 78; (refine HA.out.mono ?_); rintro e w2 ⟨rfl, h2⟩)
      go_ret
      exact ⟨ret_int (by rw [HE.out]; rfl), h2⟩
  exact key
theorem to1_1 (s : Sp) (c : List Int) (x : Int) (b : Nat) (w : World) (hm : Has w b 0 s.l) (hc : Cm w s.v1 c) (hv : Cv c) :
    Calls Try.prog 79 (#[.int .i64 1, .int .i64 x] ++ #[.pointer (some ⟨b, 0, none⟩)]) w fun e w' => e = .returned (.int .i64 (atv true c x)) ∧ Below w.heap.size w w' := by
  have m0 := hm 1 _ rfl
  rw [Nat.zero_add] at m0
  have HA := Lib.hid (at_any c s.v1 true x w hc (iff_true hv))
  clear hm hc hv
  generalize s.v1 = v at m0 HA
  have key : Calls Try.prog 79 #[.int .i64 1, .int .i64 x, .pointer (some ⟨b, 0, none⟩)] w fun e w' => e = .returned (.int .i64 (atv true c x)) ∧ Below w.heap.size w w' := by
    go_enter Try.func79, Try.ntmps79
    go_wp2_with (go_at_call 80; (refine HA.out.mono ?_); rintro e w2 ⟨rfl, h2⟩)
    go_ret
    exact ⟨rfl, h2⟩
  exact key
theorem from1_1 (s : Sp) (c : List Int) (x : Int) (b : Nat) (w : World) (hm : Has w b 0 s.l) (hc : Cm w s.v1 c) (hv : Cv c) :
    Calls Try.prog 77 (#[.int .i64 1, .int .i64 x] ++ #[.pointer (some ⟨b, 0, none⟩)]) w fun e w' => e = .returned (.int .i64 (svo c x)) ∧ Below w.heap.size w w' := by
  have m0 := hm 1 _ rfl
  rw [Nat.zero_add] at m0
  have HA := Lib.hid (solve_any c s.v1 true x w hc (iff_true hv))
  clear hm hc hv
  have HE : Hid (svo c x = if slk true c x then ((slv true c x : Nat) : Int) else 65535) := rfl
  generalize s.v1 = v at m0 HA
  generalize ((slv true c x : Nat) : Int) = z at HA HE
  have key : Calls Try.prog 77 #[.int .i64 1, .int .i64 x, .pointer (some ⟨b, 0, none⟩)] w fun e w' => e = .returned (.int .i64 (svo c x)) ∧ Below w.heap.size w w' := by
    cases hk : slk true c x
    all_goals
      rw [hk] at HA HE
      clear hk
      go_enter Try.func77, Try.ntmps77
      go_wp2_with (go_at_call 78; (refine HA.out.mono ?_); rintro e w2 ⟨rfl, h2⟩)
      go_ret
      exact ⟨ret_int (by rw [HE.out]; rfl), h2⟩
  exact key
theorem to1_2 (s : Sp) (c : List Int) (x : Int) (b : Nat) (w : World) (hm : Has w b 0 s.l) (hc : Cm w s.v2 c) (hv : Cv c) :
    Calls Try.prog 79 (#[.int .i64 2, .int .i64 x] ++ #[.pointer (some ⟨b, 0, none⟩)]) w fun e w' => e = .returned (.int .i64 (atv true c x)) ∧ Below w.heap.size w w' := by
  have m0 := hm 2 _ rfl
  rw [Nat.zero_add] at m0
  have HA := Lib.hid (at_any c s.v2 true x w hc (iff_true hv))
  clear hm hc hv
  generalize s.v2 = v at m0 HA
  have key : Calls Try.prog 79 #[.int .i64 2, .int .i64 x, .pointer (some ⟨b, 0, none⟩)] w fun e w' => e = .returned (.int .i64 (atv true c x)) ∧ Below w.heap.size w w' := by
    go_enter Try.func79, Try.ntmps79
    go_wp2_with (go_at_call 80; (refine HA.out.mono ?_); rintro e w2 ⟨rfl, h2⟩)
    go_ret
    exact ⟨rfl, h2⟩
  exact key
theorem from1_2 (s : Sp) (c : List Int) (x : Int) (b : Nat) (w : World) (hm : Has w b 0 s.l) (hc : Cm w s.v2 c) (hv : Cv c) :
    Calls Try.prog 77 (#[.int .i64 2, .int .i64 x] ++ #[.pointer (some ⟨b, 0, none⟩)]) w fun e w' => e = .returned (.int .i64 (svo c x)) ∧ Below w.heap.size w w' := by
  have m0 := hm 2 _ rfl
  rw [Nat.zero_add] at m0
  have HA := Lib.hid (solve_any c s.v2 true x w hc (iff_true hv))
  clear hm hc hv
  have HE : Hid (svo c x = if slk true c x then ((slv true c x : Nat) : Int) else 65535) := rfl
  generalize s.v2 = v at m0 HA
  generalize ((slv true c x : Nat) : Int) = z at HA HE
  have key : Calls Try.prog 77 #[.int .i64 2, .int .i64 x, .pointer (some ⟨b, 0, none⟩)] w fun e w' => e = .returned (.int .i64 (svo c x)) ∧ Below w.heap.size w w' := by
    cases hk : slk true c x
    all_goals
      rw [hk] at HA HE
      clear hk
      go_enter Try.func77, Try.ntmps77
      go_wp2_with (go_at_call 78; (refine HA.out.mono ?_); rintro e w2 ⟨rfl, h2⟩)
      go_ret
      exact ⟨ret_int (by rw [HE.out]; rfl), h2⟩
  exact key
theorem at_cl {c : List Int} (h : Cv c) (x : Int) : Cl (atv true c x) := by
  unfold atv Cl
  rw [if_pos rfl]
  have := val_rng h (_root_.Go.Proofs.Ytcmplgiilcfncaa.clp_le x)
  omega
set_option maxRecDepth 100000 in
set_option maxHeartbeats 4000000 in
theorem to_any (s : Sp) (p : Ps) (c0 c1 c2 : Int) (w : World) (hr : Rep w s p) (hp : PsOk p) : Calls Try.prog 69 #[s.v, ag c0 c1 c2] w fun e w' => e = .returned (toF p ⟨c0, c1, c2⟩).v ∧ Below w.heap.size w w' := by
  go_enter Try.func69, Try.ntmps69
  go_upto_region 1 with fail
  have hs := (((St.start w).alloc (so s)).alloc (ac c0 c1 c2)).alloc (ac 0 0 0)
  simp only [World.size_alloc] at hs
  generalize ((w.alloc (so s)).alloc (ac c0 c1 c2)).alloc (ac 0 0 0) = w1 at hs ⊢
  generalize hb : w.heap.size = b at hs ⊢
  have hd := hs.drew
  have hk := hd.sub (L' := [(b + 1, ac c0 c1 c2), (b, so s)]) (by intro z hz; simp at hz ⊢; rcases hz with h | h <;> simp [h])
  have HSH : Hid (∀ V, St w [(b + 1 + 1, ac 0 0 0), (b + 1, ac c0 c1 c2), (b, so s)] V → St w [(b + 1, ac c0 c1 c2), (b, so s)] V) := fun V h => h.sub (by intro z hz; simp at hz ⊢; rcases hz with h | h <;> simp [h])
  have HJ : Hid (∀ V, St w [(b + 1, ac c0 c1 c2), (b, so s)] V → St w [(b + 1, ac c0 c1 c2), (b, so s)] V ∧ V.rangeAt b 3 s.mt.l ∧ CB V (b + 1) c0 c1 c2) := fun V h =>
    ⟨h, by have := (St.sp h (b := b) (s := s) (by simp)).cells.2.1; rwa [Nat.zero_add] at this, h.col (t := 25) (by simp)⟩
  have HO : Hid (∀ V, St w [(b + 1 + 1, ac 0 0 0), (b + 1, ac c0 c1 c2), (b, so s)] V → CB V (b + 1 + 1) 0 0 0 ∧ V.frozen? ⟨b + 1 + 1, 0, none⟩ = false ∧ V.frozen? ⟨b + 1 + 1, 1, none⟩ = false ∧ V.frozen? ⟨b + 1 + 1, 2, none⟩ = false) := fun V h => St.out3 h (t := 25) (by simp)
  have HT : Hid (∀ V j v, St w [(b + 1, ac c0 c1 c2), (b, so s)] V → St w [(b + 1, ac c0 c1 c2), (b, so s)] (V.setCell ⟨b + 1 + 1, j, none⟩ v)) := fun V j v h => h.set (by omega) (by simp; omega)
  have HM : Hid (∀ V, St w [(b + 1 + 1, ac 0 0 0), (b + 1, ac c0 c1 c2), (b, so s)] V → Calls Try.prog 24 #[ag c0 c1 c2, .func (.func 79) #[] #[.pointer (some ⟨b, 0, none⟩)]] V fun e w' => e = .returned (ag (atv true p.a c0) (atv true p.b c1) (atv true p.c c2)) ∧ St w [(b + 1 + 1, ac 0 0 0), (b + 1, ac c0 c1 c2), (b, so s)] w') := fun V hV => St.call hV (
    map_any 79 _ c0 c1 c2 _ _ _ V (enters_of Try.func79 (by kernel_rfl) rfl)
      (fun X hX => to1_0 s p.a _ b X (St.sp (hV.later hX) (by simp)) (hr.a.later (hV.later hX).below) hp.a)
      (fun X hX => to1_1 s p.b _ b X (St.sp (hV.later hX) (by simp)) (hr.b.later (hV.later hX).below) hp.b)
      (fun X hX => to1_2 s p.c _ b X (St.sp (hV.later hX) (by simp)) (hr.c.later (hV.later hX).below) hp.c))
  have HU : Hid (∀ V, St w [(b + 1 + 1, ac 0 0 0), (b + 1, ac c0 c1 c2), (b, so s)] V → Calls Try.prog 76 #[s.mt.v, ag (atv true p.a c0) (atv true p.b c1) (atv true p.c c2)] V fun e w' => e = .returned (toF p ⟨c0, c1, c2⟩).v ∧ St w [(b + 1 + 1, ac 0 0 0), (b + 1, ac c0 c1 c2), (b, so s)] w') := fun V hV => St.call hV (by
    have h := mul_any p.mt (atv true p.a c0) (atv true p.b c1) (atv true p.c c2) V hp.t (at_cl hp.a c0) (at_cl hp.b c1) (at_cl hp.c c2)
    rw [hr.t]
    exact h)
  obtain ⟨⟨d0, d1, d2⟩, hde⟩ : ∃ d, toF p ⟨c0, c1, c2⟩ = d := ⟨_, rfl⟩
  rw [hde] at HU
  have HDE := Lib.hid hde; clear hde
  generalize atv true p.a c0 = x0 at HM HU
  generalize atv true p.b c1 = x1 at HM HU
  generalize atv true p.c c2 = x2 at HM HU
  have hu9 := Try.underlying44
  have hi9 : (Try.prog.info? 44).map (·.size) = some s.mt.l.length := by kernel_rfl
  go_region_held3 (fun V => St w [(b + 1, ac c0 c1 c2), (b, so s)] V ∧ V.rangeAt b 3 s.mt.l ∧ CB V (b + 1) c0 c1 c2) ((refine HJ.out _ ?_; repeat' (first | assumption | refine HT.out _ _ _ ?_))) (first
    | (go_at_call 24; (refine (HM.out _ ?_).mono ?_); (focus assumption); rintro e w4 ⟨rfl, h4⟩; have k4 := HSH.out _ h4)
    | (go_at_call 76; (refine (HU.out _ ?_).mono ?_); (focus assumption); rintro e w5 ⟨rfl, h5⟩; have k5 := HSH.out _ h5; obtain ⟨⟨m0, m1, m2⟩, f0, f1, f2⟩ := HO.out _ h5))
  go_wp2_with fail
  subst hb
  exact bodyPost_ret (v := ag d0 d1 d2) (by simp [results, Try.results69, go_sem, *]) rfl ⟨by rw [HDE.out], below_set3 h5.below (by omega) _ _ _⟩
set_option maxRecDepth 100000 in
set_option maxHeartbeats 8000000 in
theorem from_any (s : Sp) (p : Ps) (c0 c1 c2 : Int) (w : World) (hr : Rep w s p) (hp : PsOk p) : Calls Try.prog 68 #[s.v, ag c0 c1 c2] w fun e w' => e = .returned (fromF p ⟨c0, c1, c2⟩).v ∧ Below w.heap.size w w' := by
  have HC : Hid (∀ V, Calls Try.prog 20 #[ag c0 c1 c2, .int .i64 (-16777216), .int .i64 16777216] V fun e w' => e = .returned (bnd ⟨c0, c1, c2⟩).v ∧ Below V.heap.size V w') := fun V => clampC_any _ _ _ _ _ V
  have HE : Hid (fromF p ⟨c0, c1, c2⟩ = ⟨svo p.a (clipF (mulM p.mf (bnd ⟨c0, c1, c2⟩))).r, svo p.b (clipF (mulM p.mf (bnd ⟨c0, c1, c2⟩))).g, svo p.c (clipF (mulM p.mf (bnd ⟨c0, c1, c2⟩))).b⟩) := rfl
  have hy := bnd_bd ⟨c0, c1, c2⟩
  generalize bnd ⟨c0, c1, c2⟩ = y at HC HE hy
  obtain ⟨y0, y1, y2⟩ := y
  have HU : Hid (∀ V, Calls Try.prog 76 #[s.mf.v, ag y0 y1 y2] V fun e w' => e = .returned (mulM p.mf ⟨y0, y1, y2⟩).v ∧ Below V.heap.size V w') := fun V => by
    rw [hr.f]; exact mul_any p.mf y0 y1 y2 V hp.f (hy 0) (hy 1) (hy 2)
  generalize mulM p.mf ⟨y0, y1, y2⟩ = z at HU HE
  obtain ⟨z0, z1, z2⟩ := z
  have HL : Hid (∀ V, Calls Try.prog 10 #[ag z0 z1 z2] V fun e w' => e = .returned (clipF ⟨z0, z1, z2⟩).v ∧ Below V.heap.size V w') := fun V => clip_any z0 z1 z2 V
  generalize clipF ⟨z0, z1, z2⟩ = d at HL HE
  obtain ⟨d0, d1, d2⟩ := d
  clear hy
  go_enter Try.func68, Try.ntmps68
  go_upto_region 1 with fail
  have hs := (((St.start w).alloc (so s)).alloc (ac c0 c1 c2)).alloc (ac 0 0 0)
  simp only [World.size_alloc] at hs
  generalize ((w.alloc (so s)).alloc (ac c0 c1 c2)).alloc (ac 0 0 0) = w1 at hs ⊢
  generalize hb : w.heap.size = b at hs ⊢
  go_cut [5] (fun v5 wx => ∃ g, v5 = .pointer (some ⟨g, 0, none⟩) ∧ Hid (St w ((g, ac d0 d1 d2) :: [(b + 1 + 1, ac 0 0 0), (b + 1, ac c0 c1 c2), (b, so s)]) wx))
  case first =>
    have hd := hs.drew
    have HJ : Hid (∀ V, St w [(b + 1 + 1, ac 0 0 0), (b + 1, ac c0 c1 c2), (b, so s)] V → St w [(b + 1 + 1, ac 0 0 0), (b + 1, ac c0 c1 c2), (b, so s)] V ∧ V.rangeAt b 12 s.mf.l ∧ CB V (b + 1) c0 c1 c2) := fun V h =>
      ⟨h, by have := (St.sp h (b := b) (s := s) (by simp)).cells.2.2; rwa [Nat.zero_add] at this, h.col (t := 25) (by simp)⟩
    have HS : Hid (∀ V o, St w [(b + 1 + 1, ac 0 0 0), (b + 1, ac c0 c1 c2), (b, so s)] V → St w [(b + 1 + 1, ac 0 0 0), (b + 1, ac c0 c1 c2), (b, so s)] (V.alloc o)) := fun V o h => (h.alloc o).sub (by intro z hz; exact List.mem_cons_of_mem _ hz)
    have HN : Hid (∀ V, St w [(b + 1 + 1, ac 0 0 0), (b + 1, ac c0 c1 c2), (b, so s)] V → b + 1 + 1 < V.heap.size) := fun V h => h.lt (b := b + 1 + 1) (o := ac 0 0 0) (by simp)
    have HT : Hid (∀ V g j v, b + 1 + 1 < g → St w [(b + 1 + 1, ac 0 0 0), (b + 1, ac c0 c1 c2), (b, so s)] V → St w [(b + 1 + 1, ac 0 0 0), (b + 1, ac c0 c1 c2), (b, so s)] (V.setCell ⟨g, j, none⟩ v)) := fun V g j v hg h => h.set (by omega) (by simp; omega)
    have HD : Hid (∀ V, St w [(b + 1 + 1, ac 0 0 0), (b + 1, ac c0 c1 c2), (b, so s)] V → St w [(b + 1 + 1, ac 0 0 0), (b + 1, ac c0 c1 c2), (b, so s)] V.drew) := fun V h => h.drew
    have HQ : Hid (∀ V, St w [(b + 1 + 1, ac 0 0 0), (b + 1, ac c0 c1 c2), (b, so s)] V → St w ((V.heap.size, ac 0 0 0) :: [(b + 1 + 1, ac 0 0 0), (b + 1, ac c0 c1 c2), (b, so s)]) (V.alloc (ac 0 0 0))) := fun V h => h.alloc _
    have HQ2 : Hid (∀ V, St w [(b + 1 + 1, ac 0 0 0), (b + 1, ac c0 c1 c2), (b, so s)] V → St w ((V.heap.size, ac 0 0 0) :: [(b + 1 + 1, ac 0 0 0), (b + 1, ac c0 c1 c2), (b, so s)]) (V.alloc (ac 0 0 0)).drew) := fun V h => (h.alloc _).drew
    have HO : Hid (∀ V g, St w ((g, ac 0 0 0) :: [(b + 1 + 1, ac 0 0 0), (b + 1, ac c0 c1 c2), (b, so s)]) V → CB V g 0 0 0 ∧ V.frozen? ⟨g, 0, none⟩ = false ∧ V.frozen? ⟨g, 1, none⟩ = false ∧ V.frozen? ⟨g, 2, none⟩ = false) := fun V g h => St.out3 h (t := 25) (by simp)
    have n0 := HN.out _ hd
    have n1 := HN.out _ hs
    have hu9 := Try.underlying44
    have hi9 : (Try.prog.info? 44).map (·.size) = some s.mf.l.length := by kernel_rfl
    go_region_held3 (fun V => St w [(b + 1 + 1, ac 0 0 0), (b + 1, ac c0 c1 c2), (b, so s)] V ∧ V.rangeAt b 12 s.mf.l ∧ CB V (b + 1) c0 c1 c2) ((refine HJ.out _ ?_; repeat' (first | assumption | omega | refine HS.out _ _ ?_ | refine HT.out _ _ _ _ ?_ ?_ | refine HD.out _ ?_))) (first
      | (go_at_call 20; (refine (St.call2 (W := w) (L := [(b + 1 + 1, ac 0 0 0), (b + 1, ac c0 c1 c2), (b, so s)]) ?_ (HC.out _)).mono ?_); (focus (repeat' (first | assumption | refine HS.out _ _ ?_ | refine HD.out _ ?_))); rintro e w4 ⟨rfl, h4, hb4⟩; have n4 := HN.out _ h4; (try (have q3 := q2.later hb4; have z3 := HO.out _ _ q3)); (try (have q2 := q1.later hb4; have z2 := HO.out _ _ q2)); (try (first | have q1 := St.later (HQ.out _ (by assumption)) hb4 | have q1 := St.later (HQ2.out _ (by assumption)) hb4); have z1 := HO.out _ _ q1))
      | (go_at_call 76; (refine (St.call2 (W := w) (L := [(b + 1 + 1, ac 0 0 0), (b + 1, ac c0 c1 c2), (b, so s)]) ?_ (HU.out _)).mono ?_); (focus (repeat' (first | assumption | refine HS.out _ _ ?_ | refine HD.out _ ?_))); rintro e w4 ⟨rfl, h4, hb4⟩; have n4 := HN.out _ h4; (try (have q3 := q2.later hb4; have z3 := HO.out _ _ q3)); (try (have q2 := q1.later hb4; have z2 := HO.out _ _ q2)); (try (first | have q1 := St.later (HQ.out _ (by assumption)) hb4 | have q1 := St.later (HQ2.out _ (by assumption)) hb4); have z1 := HO.out _ _ q1))
      | (go_at_call 10; (refine (St.call2 (W := w) (L := [(b + 1 + 1, ac 0 0 0), (b + 1, ac c0 c1 c2), (b, so s)]) ?_ (HL.out _)).mono ?_); (focus (repeat' (first | assumption | refine HS.out _ _ ?_ | refine HD.out _ ?_))); rintro e w4 ⟨rfl, h4, hb4⟩; have n4 := HN.out _ h4; (try (have q3 := q2.later hb4; have z3 := HO.out _ _ q3)); (try (have q2 := q1.later hb4; have z2 := HO.out _ _ q2)); (try (first | have q1 := St.later (HQ.out _ (by assumption)) hb4 | have q1 := St.later (HQ2.out _ (by assumption)) hb4); have z1 := HO.out _ _ q1)))
    all_goals
      rename_i hHeld
      clear hHeld
      go_wp2_with fail
      go_meet
      case rel =>
        refine ⟨_, rfl, ?_⟩
        first
          | exact h4.alloc _
          | exact ((q3.put0 (by omega) (by simp; omega)).put1 (by omega) (by simp; omega)).put2 (by omega) (by simp; omega)
          | exact ((q2.put0 (by omega) (by simp; omega)).put1 (by omega) (by simp; omega)).put2 (by omega) (by simp; omega)
          | exact ((q1.put0 (by omega) (by simp; omega)).put1 (by omega) (by simp; omega)).put2 (by omega) (by simp; omega)
  case rest =>
    obtain ⟨g, rfl, hg⟩ := hcut
    have h6 := hg.out
    clear hg hs
    obtain ⟨l0, l1, l2⟩ := h6.col (b := g) (x := d0) (y := d1) (z := d2) (t := 25) (by simp)
    have HA : Hid (Calls Try.prog 24 #[ag d0 d1 d2, .func (.func 77) #[] #[.pointer (some ⟨b, 0, none⟩)]] wc fun e w' => e = .returned (ag (svo p.a d0) (svo p.b d1) (svo p.c d2)) ∧ Below wc.heap.size wc w') :=
      map_any 77 _ d0 d1 d2 _ _ _ wc (enters_of Try.func77 (by kernel_rfl) rfl)
        (fun X hX => from1_0 s p.a _ b X (St.sp (h6.later hX) (by simp)) (hr.a.later (h6.later hX).below) hp.a)
        (fun X hX => from1_1 s p.b _ b X (St.sp (h6.later hX) (by simp)) (hr.b.later (h6.later hX).below) hp.b)
        (fun X hX => from1_2 s p.c _ b X (St.sp (h6.later hX) (by simp)) (hr.c.later (h6.later hX).below) hp.c)
    have HR : Hid (∀ V, Below wc.heap.size wc V → CB V (b + 1 + 1) 0 0 0 ∧ (V.frozen? ⟨b + 1 + 1, 0, none⟩ = false ∧ V.frozen? ⟨b + 1 + 1, 1, none⟩ = false ∧ V.frozen? ⟨b + 1 + 1, 2, none⟩ = false) ∧ Below w.heap.size w V) := fun V hV => by
      have hh := h6.later hV
      exact ⟨hh.col (t := 25) (by simp), hh.fro (t := 25) (cs := #[.int .i64 0, .int .i64 0, .int .i64 0]) (by simp), hh.below⟩
    clear h6
    generalize svo p.a d0 = x0 at HA HE
    generalize svo p.b d1 = x1 at HA HE
    generalize svo p.c d2 = x2 at HA HE
    go_wp2_with (go_at_call 24; (refine HA.out.mono ?_); rintro e w2 ⟨rfl, h2⟩; obtain ⟨⟨m0, m1, m2⟩, ⟨f0, f1, f2⟩, h3⟩ := HR.out _ h2)
    subst hb
    exact bodyPost_ret (v := ag x0 x1 x2) (by simp [results, Try.results68, go_sem, *]) rfl ⟨by rw [HE.out], below_set3 h3 (by omega) _ _ _⟩
end Go.Proofs.Ytcmplgiilcfncaa.K
