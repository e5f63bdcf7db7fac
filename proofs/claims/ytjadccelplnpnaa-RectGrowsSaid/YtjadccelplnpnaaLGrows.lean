/-
  RectGrows: for all small rectangles, growing by n pixels and back again returns the rectangle, a point lies in the grown rectangle if and only if it is at most n pixels away in each coordinate, and Move shifts the set of points. No conditions.
-/
import Derived.Test.YtjadccelplnpnaaLaw
import Derived.Test.YtjadccelplnpnaaExact
import Derived.Test.YtjadccelplnpnaaGrw
import Derived.Deep.DeepCutAuto
namespace Go.Proofs.Ytjadccelplnpnaa.LGrows
open Go.ChangeShapes Go.WideShapes Go.ChangeAt Go.RowKit

theorem rest10 (a : Int) (w : World) : Calls Try.prog 24 #[.int .i64 a, .int .i64 10] w fun e w' => e = .returned (.int .i64 (a % 10)) ∧ w = w' := by
  have h := rest_any a 10 w (by omega) (by omega)
  rw [rest_mod a 10 (by omega) (by omega)] at h; exact h
theorem rest110 (a : Int) (w : World) : Calls Try.prog 24 #[.int .i64 a, .int .i64 110] w fun e w' => e = .returned (.int .i64 (a % 110)) ∧ w = w' := by
  have h := rest_any a 110 w (by omega) (by omega)
  rw [rest_mod a 110 (by omega) (by omega)] at h; exact h

set_option maxHeartbeats 4000000 in
set_option maxRecDepth 100000 in
theorem walk (q0 q1 q2 q3 n0 n1 n2 : Int) (w : World) : Calls Try.prog 12 #[.agg #[.int .i64 q0, .int .i64 q1, .int .i64 q2, .int .i64 q3], .agg #[.int .i64 n0, .int .i64 n1, .int .i64 n2]] w fun e w' => e = .returned (.bool true) ∧ Below w.heap.size w w' := by
  go_enter Try.func12, Try.ntmps12
  go_upto_region 1 with fail
  have hs := ((St.start w).alloc (.cells #[.int .i64 q0, .int .i64 q1, .int .i64 q2, .int .i64 q3] 27)).alloc (.cells #[.int .i64 n0, .int .i64 n1, .int .i64 n2] 24)
  rw [World.size_alloc] at hs
  generalize (w.alloc (.cells #[.int .i64 q0, .int .i64 q1, .int .i64 q2, .int .i64 q3] 27)).alloc (.cells #[.int .i64 n0, .int .i64 n1, .int .i64 n2] 24) = w1 at hs ⊢
  go_upto_region 2 with (go_at_call 13; (with_reducible refine (St.call hs (sane_any _)).mono ?_); rintro e w2 ⟨rfl, h2⟩)
  clear hs
  obtain ⟨p0, p1, p2, p3⟩ := h2.row4 (b := w.heap.size) (x0 := q0) (x1 := q1) (x2 := q2) (x3 := q3) (t := 27) (by simp)
  go_upto_region 3 with (go_at_call 14; (with_reducible refine (St.call h2 (small_any _ _ _ _ _)).mono ?_); rintro e w3 ⟨rfl, h3⟩)
  clear h2 p0 p1 p2 p3
  have hx := sml_sm q0 q1 q2 q3
  generalize sml q0 q1 q2 q3 = x at h3 hx ⊢
  have hs := h3.alloc (ro x.x0 x.y0 x.x1 x.y1)
  clear h3
  generalize w3.heap.size = bx at hs ⊢
  generalize w3.alloc (ro x.x0 x.y0 x.x1 x.y1) = w5 at hs ⊢
  obtain ⟨m0, m1, m2⟩ : NB w5 (w.heap.size + 1) n0 n1 n2 := hs.trip (t := 24) (by simp)
  go_upto_region 4 with (go_at_call 24; (with_reducible refine (rest10 _ _).mono ?_); rintro e w4 ⟨rfl, rfl⟩)
  have hk0 : 0 ≤ n2 % 10 := by omega
  have hk1 : n2 % 10 ≤ 9 := by omega
  generalize n2 % 10 = k at hk0 hk1 ⊢
  obtain ⟨L, hL⟩ : ∃ L, L = [(bx, ro x.x0 x.y0 x.x1 x.y1), (w.heap.size + 1, .cells #[.int .i64 n0, .int .i64 n1, .int .i64 n2] 24), (w.heap.size, .cells #[.int .i64 q0, .int .i64 q1, .int .i64 q2, .int .i64 q3] 27)] := ⟨_, rfl⟩
  rw [← hL] at hs
  have HP : Hid (∀ V, St w L V → St w L V ∧ RB V bx x.x0 x.y0 x.x1 x.y1 ∧ NB V (w.heap.size + 1) n0 n1 n2) := fun V hV => by
    subst hL
    exact ⟨hV, hV.rect (by simp), hV.trip (t := 24) (by simp)⟩
  have HR : Hid (∀ V, St w L V → bx < V.heap.size ∧ w.heap.size + 1 < V.heap.size ∧ w.heap.size ≤ V.heap.size) := fun V hV => by
    subst hL
    exact ⟨hV.lt (b := bx) (o := ro x.x0 x.y0 x.x1 x.y1) (by simp), hV.lt (b := w.heap.size + 1) (o := .cells #[.int .i64 n0, .int .i64 n1, .int .i64 n2] 24) (by simp), hV.below.size⟩
  clear hL m0 m1 m2
  have hd := hs.drew
  have HS : Hid (∀ V o, St w L V → St w L (V.alloc o)) := fun V o h => (h.alloc o).sub (fun _ hm => List.mem_cons_of_mem _ hm)
  have HD : Hid (∀ V, St w L V → St w L V.drew) := fun V h => h.drew
  have h10 : -35 ≤ n0 % 110 - 35 ∧ n0 % 110 - 35 ≤ 74 := by omega
  have h11 : -35 ≤ n1 % 110 - 35 ∧ n1 % 110 - 35 ≤ 74 := by omega
  obtain ⟨_, _, ⟨m0, m1, m2⟩⟩ := HP.out _ hd
  obtain ⟨hz0, hz1, hz2⟩ := HR.out _ hd
  go_cut [8] from 19 to 27 (fun v wx => ∃ b, v = .pointer (some ⟨b, 0, none⟩) ∧ Hid (St w ((b, pob (n0 % 110 - 35) (n1 % 110 - 35)) :: L) wx))
  case first =>
    have hw0 : IntKind.i64.wrap (n0 % 110 - 35) = n0 % 110 - 35 := IntWalk.i64_in _ ⟨by omega, by omega⟩
    have hw1 : IntKind.i64.wrap (n1 % 110 - 35) = n1 % 110 - 35 := IntWalk.i64_in _ ⟨by omega, by omega⟩
    go_region_held3 (fun V => St w L V ∧ RB V bx x.x0 x.y0 x.x1 x.y1 ∧ NB V (w.heap.size + 1) n0 n1 n2) ((refine HP.out _ ?_; repeat' (first | assumption | omega | refine HS.out _ _ ?_ | refine HD.out _ ?_))) (first | (go_at_call 24; (with_reducible refine (rest110 _ _).mono ?_); rintro e w4 ⟨rfl, rfl⟩))
    all_goals
      go_wp2_with fail
      go_meet
      case rel =>
        exact ⟨_, rfl, (hs.alloc (pob (n0 % 110 - 35) (n1 % 110 - 35))).drew⟩
  case rest =>
    obtain ⟨bp, rfl, hh⟩ := hcut
    have ht := hh.out
    clear hh hs hd m0 m1 m2 HS HD HR hz0 hz1 hz2
    generalize n0 % 110 - 35 = px at ht h10
    generalize n1 % 110 - 35 = py at ht h11
    have HQ : Hid (∀ V, St w ((bp, pob px py) :: L) V → St w ((bp, pob px py) :: L) V ∧ RB V bx x.x0 x.y0 x.x1 x.y1 ∧ NB V (w.heap.size + 1) n0 n1 n2 ∧ TB V bp px py) := fun V hV =>
      ⟨hV, (HP.out _ (hV.sub (fun _ hm => List.mem_cons_of_mem _ hm))).2.1, (HP.out _ (hV.sub (fun _ hm => List.mem_cons_of_mem _ hm))).2.2, hV.pair (t := 34) (by simp)⟩
    clear HP
    generalize ((bp, pob px py) :: L) = M at ht HQ
    have d0 := tmod_bd n0 50
    have d1 := tmod_bd n1 50
    have e0 : -100 < n0.tmod 50 ∧ n0.tmod 50 < 100 := by omega
    have e1 : -100 < n1.tmod 50 ∧ n1.tmod 50 < 100 := by omega
    have f1 := grows_has hx hk0 hk1 px py
    have f2 := grows_back hx hk0 hk1
    have f3 := moves_has hx e0 e1 px py
    have f4 := moves_area hx e0 e1
    have g0 : IntKind.i64.wrap (px - k) = px - k := IntWalk.i64_in _ ⟨by omega, by omega⟩
    have g1 : IntKind.i64.wrap (py - k) = py - k := IntWalk.i64_in _ ⟨by omega, by omega⟩
    have g2 : IntKind.i64.wrap (px + k) = px + k := IntWalk.i64_in _ ⟨by omega, by omega⟩
    have g3 : IntKind.i64.wrap (py + k) = py + k := IntWalk.i64_in _ ⟨by omega, by omega⟩
    have g4 : IntKind.i64.wrap (px + k + 1) = px + k + 1 := IntWalk.i64_in _ ⟨by omega, by omega⟩
    have g5 : IntKind.i64.wrap (py + k + 1) = py + k + 1 := IntWalk.i64_in _ ⟨by omega, by omega⟩
    have g6 : IntKind.i64.wrap (px + n0.tmod 50) = px + n0.tmod 50 := IntWalk.i64_in _ ⟨by omega, by omega⟩
    have g7 : IntKind.i64.wrap (py + n1.tmod 50) = py + n1.tmod 50 := IntWalk.i64_in _ ⟨by omega, by omega⟩
    have g8 : IntKind.i64.wrap (-k) = -k := IntWalk.i64_in _ ⟨by omega, by omega⟩
    have HF := Lib.hid (And.intro f1 (And.intro f2 (And.intro f3 f4)))
    clear f1 f2 f3 f4 hk0 hk1 h10 h11 d0 d1 e0 e1 hx
    obtain ⟨_, ⟨a0, a1, a2, a3⟩, ⟨m0, m1, m2⟩, ⟨t0, t1⟩⟩ := HQ.out _ ht
    go_upto_region 6 with (first | (go_at_call 32; (with_reducible refine (St.call (W := w) (L := M) ?_ (inter_any _ _ _ _ _ _ _ _ _)).mono ?_); (focus assumption); rintro e w4 ⟨rfl, h4⟩) | (go_at_call 35; (with_reducible refine (St.call (W := w) (L := M) ?_ (empty_any _ _ _ _ _)).mono ?_); (focus assumption); rintro e w4 ⟨rfl, h4⟩))
    rw [HF.out.1]
    rw [Bool.not_not]
    obtain ⟨_, f2, f3, f4⟩ := HF.out
    clear HF g0 g1 g2 g3 g4 g5 a0 a1 a2 a3 m0 m1 m2 t0 t1
    obtain ⟨_, ⟨a0, a1, a2, a3⟩, _⟩ := HQ.out _ h4
    have hs := h4
    clear ht h4
    go_upto_region 7 with (go_at_call 40; (with_reducible refine (St.call hs (grow_any _ _ _ _ _ _)).mono ?_); rintro e w5 ⟨rfl, h5⟩)
    clear hs a0 a1 a2 a3
    generalize gro x.x0 x.y0 x.x1 x.y1 k = g at f2 h5 ⊢
    have hs := h5.alloc (ro g.x0 g.y0 g.x1 g.y1)
    clear h5
    generalize w5.heap.size = bg at hs ⊢
    generalize w5.alloc (ro g.x0 g.y0 g.x1 g.y1) = w6 at hs ⊢
    obtain ⟨_, ⟨a0, a1, a2, a3⟩, ⟨m0, m1, m2⟩, _⟩ := HQ.out _ (hs.sub (fun _ hm => List.mem_cons_of_mem _ hm))
    go_upto_region 8 with (go_at_call 41; (with_reducible refine (St.call hs (move_any _ _ _ _ _ _ _)).mono ?_); rintro e w7 ⟨rfl, h7⟩)
    clear hs a0 a1 a2 a3 m0 m1 m2
    generalize mov x.x0 x.y0 x.x1 x.y1 (n0.tmod 50) (n1.tmod 50) = m at f3 f4 h7 ⊢
    have hs := h7.alloc (ro m.x0 m.y0 m.x1 m.y1)
    clear h7
    generalize w7.heap.size = bm at hs ⊢
    generalize w7.alloc (ro m.x0 m.y0 m.x1 m.y1) = w8 at hs ⊢
    have HP : Hid (∀ V, St w ((bm, ro m.x0 m.y0 m.x1 m.y1) :: (bg, ro g.x0 g.y0 g.x1 g.y1) :: M) V → St w ((bm, ro m.x0 m.y0 m.x1 m.y1) :: (bg, ro g.x0 g.y0 g.x1 g.y1) :: M) V ∧ RB V bx x.x0 x.y0 x.x1 x.y1 ∧ NB V (w.heap.size + 1) n0 n1 n2 ∧ TB V bp px py ∧ RB V bg g.x0 g.y0 g.x1 g.y1 ∧ RB V bm m.x0 m.y0 m.x1 m.y1) := fun V hV => by
      obtain ⟨_, h1, h2, h3⟩ := HQ.out _ (hV.sub (fun _ hm => List.mem_cons_of_mem _ (List.mem_cons_of_mem _ hm)))
      exact ⟨hV, h1, h2, h3, hV.rect (by simp), hV.rect (by simp)⟩
    clear HQ
    generalize ((bm, ro m.x0 m.y0 m.x1 m.y1) :: (bg, ro g.x0 g.y0 g.x1 g.y1) :: M) = N at hs HP
    obtain ⟨_, ⟨a0, a1, a2, a3⟩, ⟨m0, m1, m2⟩, ⟨t0, t1⟩, _, ⟨c0, c1, c2, c3⟩⟩ := HP.out _ hs
    go_upto_region 9 with (go_at_call 29; (with_reducible refine (St.call hs (has_any _ _ _ _ _ _ _)).mono ?_); rintro e w9 ⟨rfl, h9⟩)
    have hd := h9.drew
    clear f3 g6 g7 hs h9 a0 a1 a2 a3 m0 m1 m2 t0 t1 c0 c1 c2 c3
    go_region_held3 (fun V => St w N V ∧ RB V bx x.x0 x.y0 x.x1 x.y1 ∧ NB V (w.heap.size + 1) n0 n1 n2 ∧ TB V bp px py ∧ RB V bg g.x0 g.y0 g.x1 g.y1 ∧ RB V bm m.x0 m.y0 m.x1 m.y1) ((refine HP.out _ ?_; assumption)) (first | (go_at_call 29; (with_reducible refine (St.call (W := w) (L := N) ?_ (has_any _ _ _ _ _ _ _)).mono ?_); (focus assumption); rintro e w4 ⟨rfl, h4⟩) | (go_at_call 40; (with_reducible refine (St.call (W := w) (L := N) ?_ (grow_any _ _ _ _ _ _)).mono ?_); (focus assumption); rintro e w4 ⟨rfl, h4⟩) | (go_at_call 36; (with_reducible refine (St.call (W := w) (L := N) ?_ (equal_any _ _ _ _ _ _ _ _ _)).mono ?_); (focus assumption); rintro e w4 ⟨rfl, h4⟩) | (go_at_call 34; (with_reducible refine (St.call (W := w) (L := N) ?_ (area_any _ _ _ _ _)).mono ?_); (focus assumption); rintro e w4 ⟨rfl, h4⟩))
    go_wp2_with fail
    go_ret
    exact ⟨rfl, h4.below⟩

set_option maxRecDepth 100000 in
theorem lifted (os : Os) (started : os.Started) (H : Type) (enc : TypeId × Value → H) :
    ReturnsInHanded {} Try.checked os 12 .any (Rows.rectGrowsSpec.pre6 enc Try.prog Try.f12 Rows.rectGrowsRow.domain false) (Rows.rectGrowsSpec.post enc Try.prog Try.f12 false true false false) := by
  refine returnsInHanded_of_change_sized (C := Try.checked) own started (by kernel_rfl) Try.func12
    (ChangeSpec.witness6 (enc := enc) (C := Try.checked) false ⟨#[], #[.agg #[.int .i64 0, .int .i64 0, .int .i64 0, .int .i64 0], .agg #[.int .i64 0, .int .i64 0, .int .i64 0]], []⟩ 8 (by kernel_rfl) (by kernel_rfl) (by kernel_rfl) (by kernel_rfl)) ?_
  intro W base args ds gs before hval0 hW _ _ _
  have hval : ∀ (j : Nat) t v, Try.f12.params[j]? = some t → args[j]? = some v → Value.okWide Try.prog W .any base t v := hval0
  have hW' := hW
  obtain ⟨p, q, hA0, hV, rfl, hfz, hnd⟩ := hW
  have hA : DataW.TrodAll enc Try.prog W 0 (fun _ => true) true Try.f12.params.toList args.toList ds p := hA0
  rw [Try.params12] at hA hval
  obtain ⟨v0, v1, d0, d1, p0, p1, rfl, rfl, rfl, h0, h1⟩ := trodAll_two hA
  obtain ⟨rfl, rfl⟩ := trodVars_none hV
  obtain ⟨q0, q1, q2, q3, rfl⟩ := agg_n4 (hval 0 27 v0 rfl rfl)
  obtain ⟨n0, n1, n2, rfl⟩ := agg_n3 (hval 1 24 v1 rfl rfl)
  refine (walk q0 q1 q2 q3 n0 n1 n2 W).mono fun e W' ⟨he, hb⟩ => ?_
  subst he
  exact ⟨_, rfl, law_post hW' rfl (by kernel_rfl) rfl (by intro t ht; rw [Try.params12] at ht; simp at ht; rcases ht with rfl | rfl <;> exact ⟨by kernel_rfl, of_decide_eq_true (by kernel_rfl)⟩) hb⟩

theorem holds : Rows.RectGrowsSaid :=
  OpenClaim.holds_of_wide 12 Try.f12 rfl rfl rfl rfl rfl rfl rfl ⟨rfl, rfl, rfl, rfl, rfl⟩ rfl rfl rfl rfl rfl (by kernel_rfl) Try.func12 (by kernel_rfl)
    (of_decide_eq_true (by kernel_rfl)) (by unfold Func.isWrapper; first | (rw [if_pos (by decide +kernel)]; kernel_rfl) | (rw [if_neg (by decide +kernel)]; exact ⟨rfl, rfl⟩))
    (fun os started H enc _ => lifted os started H enc)
end Go.Proofs.Ytjadccelplnpnaa.LGrows
