/-
  RectTiles: for all small rectangles and points, Tiles yields the tiles that meet the rectangle, in the reference's order, and every point of the rectangle lies in exactly one of them. No conditions.
-/
import Derived.Test.YtjadccelplnpnaaLaw
import Derived.Test.YtjadccelplnpnaaTmath
import Derived.Test.YtjadccelplnpnaaExact
import Derived.Deep.DeepCutAuto
namespace Go.Proofs.Ytjadccelplnpnaa.LTiles
open Go.ChangeShapes Go.WideShapes Go.ChangeAt Go.RowKit

theorem rest40 (a : Int) (w : World) : Calls Try.prog 24 #[.int .i64 a, .int .i64 40] w fun e w' => e = .returned (.int .i64 (a % 40)) ∧ w = w' := by
  have h := rest_any a 40 w (by omega) (by omega)
  rw [rest_mod a 40 (by omega) (by omega)] at h; exact h
theorem inter_of (a : Rc) (t : Int × Int) (ha : Sm a) (hp : a.x0 < a.x1 ∧ a.y0 < a.y1) (b1 : -1000 < t.1 ∧ t.1 < 1000 ∧ -1000 < t.2 ∧ t.2 < 1000)
    (h : 8 * t.1 < a.x1 ∧ a.x0 < 8 * t.1 + 8 ∧ 8 * t.2 < a.y1 ∧ a.y0 < 8 * t.2 + 8) :
    emp (nrm (mx (ofr t.1 t.2).x0 a.x0) (mx (ofr t.1 t.2).y0 a.y0) (mn (ofr t.1 t.2).x1 a.x1) (mn (ofr t.1 t.2).y1 a.y1)).x0 (nrm (mx (ofr t.1 t.2).x0 a.x0) (mx (ofr t.1 t.2).y0 a.y0) (mn (ofr t.1 t.2).x1 a.x1) (mn (ofr t.1 t.2).y1 a.y1)).y0
      (nrm (mx (ofr t.1 t.2).x0 a.x0) (mx (ofr t.1 t.2).y0 a.y0) (mn (ofr t.1 t.2).x1 a.x1) (mn (ofr t.1 t.2).y1 a.y1)).x1 (nrm (mx (ofr t.1 t.2).x0 a.x0) (mx (ofr t.1 t.2).y0 a.y0) (mn (ofr t.1 t.2).x1 a.x1) (mn (ofr t.1 t.2).y1 a.y1)).y1 = false := by
  obtain ⟨⟨s1, s2⟩, ⟨s3, s4⟩, ⟨s5, s6⟩, ⟨s7, s8⟩⟩ := ha
  unfold ofr
  rw [wrap_small (n := 8 * t.1) (by omega) (by omega), wrap_small (n := 8 * t.2) (by omega) (by omega), wrap_small (by omega) (by omega), wrap_small (by omega) (by omega)]
  simp only [mx_eq, mn_eq]
  rw [nrm_pos (by omega), emp_not]
  simp only; omega
theorem has_of (t : Int × Int) (px py : Int) (b1 : -1000 < t.1 ∧ t.1 < 1000 ∧ -1000 < t.2 ∧ t.2 < 1000) :
    (has (ofr t.1 t.2).x0 (ofr t.1 t.2).y0 (ofr t.1 t.2).x1 (ofr t.1 t.2).y1 px py = true ↔ t = (px / 8, py / 8)) := by
  unfold ofr
  rw [wrap_small (n := 8 * t.1) (by omega) (by omega), wrap_small (n := 8 * t.2) (by omega) (by omega), wrap_small (by omega) (by omega), wrap_small (by omega) (by omega), has_iff]
  obtain ⟨x, y⟩ := t
  simp only [Prod.mk.injEq]
  omega
theorem sum_step (t : Int × Int) (l : List (Int × Int)) (k : Nat) (h : k < l.length) : ((l.take (k + 1)).map (ind t)).sum = ((l.take k).map (ind t)).sum + ind t l[k] := by
  rw [List.take_add_one, List.getElem?_eq_getElem h, Option.toList_some, List.map_append, List.sum_append]
  congr 1; simp
abbrev QB4 (w : World) (b : Nat) (x0 x1 x2 x3 : Int) : Prop :=
  w.cell? ⟨b, 0, none⟩ = some (.int .i64 x0) ∧ w.cell? ⟨b, 1, none⟩ = some (.int .i64 x1) ∧ w.cell? ⟨b, 2, none⟩ = some (.int .i64 x2) ∧ w.cell? ⟨b, 3, none⟩ = some (.int .i64 x3)
theorem qb4 {W w : World} {L : List (Nat × Obj)} (h : St W L w) {b : Nat} {x0 x1 x2 x3 : Int} {t : TypeId} (hm : (b, .cells #[.int .i64 x0, .int .i64 x1, .int .i64 x2, .int .i64 x3] t) ∈ L) : QB4 w b x0 x1 x2 x3 :=
  ⟨h.cell hm 0, h.cell hm 1, h.cell hm 2, h.cell hm 3⟩

set_option maxHeartbeats 4000000 in
set_option maxRecDepth 100000 in
theorem walk (q0 q1 q2 q3 n0 n1 : Int) (w : World) : Calls Try.prog 9 #[.agg #[.int .i64 q0, .int .i64 q1, .int .i64 q2, .int .i64 q3], .agg #[.int .i64 n0, .int .i64 n1]] w fun e w' => e = .returned (.bool true) ∧ Below w.heap.size w w' := by
  go_enter Try.func9, Try.ntmps9
  go_upto_region 1 with fail
  have hs := ((St.start w).alloc (.cells #[.int .i64 q0, .int .i64 q1, .int .i64 q2, .int .i64 q3] 27)).alloc (.cells #[.int .i64 n0, .int .i64 n1] 40)
  rw [World.size_alloc] at hs
  generalize (w.alloc (.cells #[.int .i64 q0, .int .i64 q1, .int .i64 q2, .int .i64 q3] 27)).alloc (.cells #[.int .i64 n0, .int .i64 n1] 40) = w1 at hs ⊢
  go_upto_region 2 with (go_at_call 13; (with_reducible refine (St.call hs (sane_any _)).mono ?_); rintro e w2 ⟨rfl, h2⟩)
  clear hs
  obtain ⟨c0, c1, c2, c3⟩ : QB4 w2 w.heap.size q0 q1 q2 q3 := qb4 h2 (t := 27) (by simp)
  have hsm := Lib.hid (sml_sm q0 q1 q2 q3)
  go_upto_region 3 with (go_at_call 14; (with_reducible refine (St.call h2 (small_any _ _ _ _ _)).mono ?_); rintro e w3 ⟨rfl, h3⟩)
  clear h2 c0 c1 c2 c3
  generalize sml q0 q1 q2 q3 = a at h3 hsm ⊢
  have hs := h3.alloc (ro a.x0 a.y0 a.x1 a.y1)
  clear h3
  generalize w3.heap.size = ba at hs ⊢
  generalize w3.alloc (ro a.x0 a.y0 a.x1 a.y1) = w5 at hs ⊢
  obtain ⟨px, hpx⟩ : ∃ px, px = a.x0 + n0 % 40 := ⟨_, rfl⟩
  obtain ⟨py, hpy⟩ : ∃ py, py = a.y0 + n1 % 40 := ⟨_, rfl⟩
  obtain ⟨L, hL⟩ : ∃ L, L = [(ba, ro a.x0 a.y0 a.x1 a.y1), (w.heap.size + 1, .cells #[.int .i64 n0, .int .i64 n1] 40), (w.heap.size, .cells #[.int .i64 q0, .int .i64 q1, .int .i64 q2, .int .i64 q3] 27)] := ⟨_, rfl⟩
  rw [← hL] at hs
  have hTM := Lib.hid (tiles_sm a hsm.out px py)
  have hTT := Lib.hid (show a.x0 < a.x1 ∧ a.y0 < a.y1 → True from fun _ => trivial)
  obtain ⟨l, hl⟩ : ∃ l, l = (tiles a.x0 a.y0 a.x1 a.y1).take 100 := ⟨_, rfl⟩
  obtain ⟨N, hN⟩ : ∃ N : Nat, N = 100 := ⟨_, rfl⟩
  have bd : -100000 ≤ a.x0 ∧ a.x1 ≤ 100000 ∧ -100000 ≤ a.y0 ∧ a.y1 ≤ 100000 ∧ -900 < a.x0 ∧ a.x0 < 900 ∧ -900 < a.y0 ∧ a.y0 < 900 := by
    obtain ⟨⟨s1, s2⟩, ⟨s3, s4⟩, ⟨s5, s6⟩, ⟨s7, s8⟩⟩ := hsm.out; omega
  have HT1 : Hid (∀ V, Calls Try.prog 37 #[rv a.x0 a.y0 a.x1 a.y1, .int .i64 100] V fun e w' => ∃ v, e = .returned v ∧ w'.ownsRow V.heap.size 30 2 v l.length (tcs l) ∧ Below V.heap.size V w') := fun V => by
    rw [hl]; exact tiles_any _ _ _ _ 100 _ bd.1 bd.2.1 bd.2.2.1 bd.2.2.2.1 (by decide)
  have HT2 : Hid (∀ V, Calls Try.prog 38 #[rv a.x0 a.y0 a.x1 a.y1, .int .i64 100] V fun e w' => ∃ v, e = .returned v ∧ w'.ownsRow V.heap.size 30 2 v l.length (tcs l) ∧ Below V.heap.size V w') := fun V => by
    rw [hl]; exact refTiles_any _ _ _ _ 100 _ bd.1 bd.2.1 bd.2.2.1 bd.2.2.2.1 (by decide)
  rw [List.take_of_length_le hTM.out.1] at hl
  replace hTM := hTM.out
  rw [← hl] at hTM
  clear hl hN N hTT
  replace hTM := Lib.hid hTM
  have HC : Hid (∀ vs V, Tl w L vs l V → RB V ba a.x0 a.y0 a.x1 a.y1) := fun vs V hV => by subst hL; exact hV.st.rect (by simp)
  have HC2 : Hid (∀ V, St w L V → RB V ba a.x0 a.y0 a.x1 a.y1 ∧ TB V (w.heap.size + 1) n0 n1) := fun V hV => by subst hL; exact ⟨hV.rect (by simp), hV.pair (t := 40) (by simp)⟩
  have HR : Hid (∀ V, St w L V → ba < V.heap.size ∧ w.heap.size + 1 < V.heap.size ∧ w.heap.size ≤ V.heap.size) := fun V hV => by
    subst hL
    exact ⟨hV.lt (b := ba) (o := ro a.x0 a.y0 a.x1 a.y1) (by simp), hV.lt (b := w.heap.size + 1) (o := .cells #[.int .i64 n0, .int .i64 n1] 40) (by simp), hV.below.size⟩
  clear hL
  have ht : Tl w L [] l w5 := ⟨hs, fun v hv => by cases hv⟩
  clear hs
  obtain ⟨c0, c1, c2, c3⟩ := HC.out _ _ ht
  go_upto_region 4 with (go_at_call 37; (with_reducible refine (Tl.more ht (HT1.out _)).mono ?_); rintro e w6 ⟨po1, cp1, rfl, h6⟩)
  clear ht c0 c1 c2 c3
  obtain ⟨c0, c1, c2, c3⟩ := HC.out _ _ h6
  go_upto_region 5 with (go_at_call 38; (with_reducible refine (Tl.more h6 (HT2.out _)).mono ?_); rintro e w7 ⟨po2, cp2, rfl, h7⟩)
  clear h6 c0 c1 c2 c3 HT1 HT2
  go_upto_region 7 with fail
  obtain ⟨VS, hVS⟩ : ∃ VS, VS = [Value.slice po2 l.length cp2, Value.slice po1 l.length cp1] := ⟨_, rfl⟩
  rw [← hVS] at h7
  have HS : Hid (∀ V o, Tl w L VS l V → Tl w L VS l (V.alloc o)) := fun V o h => h.later below1
  have HD : Hid (∀ V, Tl w L VS l V → Tl w L VS l V.drew) := fun V h => h.drew
  have hd := h7.drew
  obtain ⟨⟨c0, c1, c2, c3⟩, ⟨m0, m1⟩⟩ := HC2.out _ hd.st
  obtain ⟨hz0, hz1, hz2⟩ := HR.out _ hd.st
  have HP : Hid (∀ V, Tl w L VS l V → Tl w L VS l V ∧ RB V ba a.x0 a.y0 a.x1 a.y1 ∧ TB V (w.heap.size + 1) n0 n1) := fun V hV => ⟨hV, HC2.out _ hV.st⟩
  go_cut [9] from 24 to 36 (fun v wx => ∃ b, v = .pointer (some ⟨b, 0, none⟩) ∧ Hid (Tl w ((b, pob px py) :: L) VS l wx))
  case first =>
    have hw0 : IntKind.i64.wrap (a.x0 + n0 % 40) = px := by rw [hpx]; exact IntWalk.i64_in _ ⟨by omega, by omega⟩
    have hw1 : IntKind.i64.wrap (a.y0 + n1 % 40) = py := by rw [hpy]; exact IntWalk.i64_in _ ⟨by omega, by omega⟩
    go_region_held3 (fun V => Tl w L VS l V ∧ RB V ba a.x0 a.y0 a.x1 a.y1 ∧ TB V (w.heap.size + 1) n0 n1) ((refine HP.out _ ?_; repeat' (first | assumption | omega | refine HS.out _ _ ?_ | refine HD.out _ ?_))) (first | (go_at_call 24; (with_reducible refine (rest40 _ _).mono ?_); rintro e w4 ⟨rfl, rfl⟩))
    all_goals
      go_wp2_with fail
      go_meet
      case rel =>
        subst hpx; subst hpy
        exact ⟨_, rfl, ((h7.st.alloc _).drew), fun v hv => (h7.later (below1.drew)).at_ v hv⟩
  case rest =>
    obtain ⟨bp, rfl, hh⟩ := hcut
    have ht := hh.out
    have hps : -1000 < px ∧ px < 1000 ∧ -1000 < py ∧ py < 1000 := by omega
    clear hh hd m0 m1 HS HD HR hz0 hz1 hz2 hpx hpy h7 c0 c1 c2 c3 HP HC2
    have HQ : Hid (∀ V, Tl w ((bp, pob px py) :: L) VS l V → Tl w ((bp, pob px py) :: L) VS l V ∧ RB V ba a.x0 a.y0 a.x1 a.y1 ∧ TB V bp px py) := fun V hV =>
      ⟨hV, HC.out _ _ ⟨hV.st.sub (fun _ hm => List.mem_cons_of_mem _ hm), hV.at_⟩, hV.st.pair (t := 34) (by simp)⟩
    clear HC
    generalize ((bp, pob px py) :: L) = M at ht HQ
    have hfx : flo px 8 = px / 8 := flo8 (by omega) (by omega)
    have hfy : flo py 8 = py / 8 := flo8 (by omega) (by omega)
    have hF := Lib.hid (And.intro hfx hfy)
    clear hfx hfy
    replace hVS := Lib.hid hVS
    have hbd := Lib.hid bd
    clear bd
    have hpp := Lib.hid hps
    clear hps
    have hlen : l.length ≤ 100 := hTM.out.1
    go_wp2_with fail
    go_loopw [10, 11] (fun s i wr => ∃ k : Nat, k ≤ l.length ∧ i = .int .i64 k ∧ s = .int .i64 (((l.take k).map (ind (px / 8, py / 8))).sum) ∧ Hid (Tl w M VS l wr)) (fun _ i _ => l.length - (intOf i).toNat)
    case atStart => exact ⟨0, Nat.zero_le _, rfl, by simp, Lib.hid ht⟩
    case round =>
      clear ht
      obtain ⟨k, hk, rfl, rfl, hh⟩ := hrel
      have hw := hh.out
      clear hh
      by_cases hlt : k < l.length
      · obtain ⟨B1, rfl, _, _⟩ := tps_one (hw.at_ (.slice po1 l.length cp1) (by rw [hVS.out]; simp)) hlt
        obtain ⟨B2, rfl, _, _⟩ := tps_one (hw.at_ (.slice po2 l.length cp2) (by rw [hVS.out]; simp)) hlt
        have hx := sum_step (px / 8, py / 8) l k hlt
        have hb1 := hTM.out.2.2.1 k
        have hg := hTM.out.2.1 k hlt
        have hne : a.x0 < a.x1 ∧ a.y0 < a.y1 := hTM.out.2.2.2.2.resolve_right (fun e => by rw [e] at hlt; exact absurd hlt (by simp))
        have HT : Hid (∀ V, Tl w M VS l V → Tl w M VS l V ∧ EP V B1 k l[k].1 l[k].2 ∧ EP V B2 k l[k].1 l[k].2 ∧ RB V ba a.x0 a.y0 a.x1 a.y1 ∧ TB V bp px py) := fun V hV =>
          ⟨hV, by obtain ⟨B', e, _, h⟩ := tps_one (hV.at_ (.slice (some ⟨B1, 0, none⟩) l.length cp1) (by rw [hVS.out]; simp)) hlt; cases e; exact h,
            by obtain ⟨B', e, _, h⟩ := tps_one (hV.at_ (.slice (some ⟨B2, 0, none⟩) l.length cp2) (by rw [hVS.out]; simp)) hlt; cases e; exact h, (HQ.out _ hV).2⟩
        generalize l[k] = t at hx HT hg
        generalize ((l.take k).map (ind (px / 8, py / 8))).sum = s at hb1 hx ⊢
        (try simp only at hg)
        have hE := inter_of a t hsm.out hne ⟨hg.1, hg.2.1, hg.2.2.1, hg.2.2.2.1⟩ hg.2.2.2.2
        have hH := Lib.hid (has_of t px py ⟨hg.1, hg.2.1, hg.2.2.1, hg.2.2.2.1⟩)
        clear hg hne
        obtain ⟨t1, t2⟩ := t
        dsimp only at HT hE hH
        go_upto_region 12 with fail
        have hd := hw.drew
        clear hw
        go_region_held3 (fun V => Tl w M VS l V ∧ EP V B1 k t1 t2 ∧ EP V B2 k t1 t2 ∧ RB V ba a.x0 a.y0 a.x1 a.y1 ∧ TB V bp px py) ((refine HT.out _ ?_; assumption)) (first | (go_at_call 20; (with_reducible refine (Tl.call (W := w) (L := M) (vs := VS) (l := l) ?_ (of_any _ _ _)).mono ?_); (focus assumption); rintro e w4 ⟨rfl, h4⟩) | (go_at_call 32; (with_reducible refine (Tl.call (W := w) (L := M) (vs := VS) (l := l) ?_ (inter_any _ _ _ _ _ _ _ _ _)).mono ?_); (focus assumption); rintro e w4 ⟨rfl, h4⟩) | (go_at_call 35; (with_reducible refine (Tl.call (W := w) (L := M) (vs := VS) (l := l) ?_ (empty_any _ _ _ _ _)).mono ?_); (focus assumption); rintro e w4 ⟨rfl, h4⟩))
        clear hd
        go_upto_region 14 with fail
        have hd := h4.drew
        clear h4
        go_region_held3 (fun V => Tl w M VS l V ∧ EP V B1 k t1 t2 ∧ EP V B2 k t1 t2 ∧ RB V ba a.x0 a.y0 a.x1 a.y1 ∧ TB V bp px py) ((refine HT.out _ ?_; assumption)) (first | (go_at_call 20; (with_reducible refine (Tl.call (W := w) (L := M) (vs := VS) (l := l) ?_ (of_any _ _ _)).mono ?_); (focus assumption); rintro e w4 ⟨rfl, h4⟩) | (go_at_call 29; (with_reducible refine (Tl.call (W := w) (L := M) (vs := VS) (l := l) ?_ (has_any _ _ _ _ _ _ _)).mono ?_); (focus assumption); rintro e w4 ⟨rfl, h4⟩))
        clear hd
        cases hx1 : has (ofr t1 t2).x0 (ofr t1 t2).y0 (ofr t1 t2).x1 (ofr t1 t2).y1 px py
        case true =>
          have e := hH.out.1 hx1
          have hx2 : ind (px / 8, py / 8) (t1, t2) = 1 := by unfold ind; rw [if_pos e]
          rw [hx2] at hx
          have hwr : IntKind.i64.wrap (s + 1) = s + 1 := IntWalk.i64_in _ ⟨by omega, by omega⟩
          injection e with e1 e2
          have hf1 : flo px 8 = t1 := by rw [e1]; exact hF.out.1
          have hf2 : flo py 8 = t2 := by rw [e2]; exact hF.out.2
          clear e1 e2
          go_upto_region 16 with fail
          have hd := h4.drew
          clear h4
          go_region_held3 (fun V => Tl w M VS l V ∧ EP V B1 k t1 t2 ∧ EP V B2 k t1 t2 ∧ RB V ba a.x0 a.y0 a.x1 a.y1 ∧ TB V bp px py) ((refine HT.out _ ?_; assumption)) (first | (go_at_call 22; (with_reducible refine (Tl.call (W := w) (L := M) (vs := VS) (l := l) ?_ (at_any _ _ _)).mono ?_); (focus assumption); rintro e w4 ⟨rfl, h4⟩))
          clear hd
          go_wp2_with fail
          go_roundw
          case rel => exact ⟨k + 1, by omega, by go_num, by rw [hx], Lib.hid (by assumption)⟩
          case measure => simp [intOf]; omega
        case false =>
          have hx2 : ind (px / 8, py / 8) (t1, t2) = 0 := by unfold ind; rw [if_neg (fun e => by rw [hH.out.2 e] at hx1; cases hx1)]
          rw [hx2, Int.add_zero] at hx
          go_wp2_with fail
          go_roundw
          case rel => exact ⟨k + 1, by omega, by go_num, by rw [hx], Lib.hid (by assumption)⟩
          case measure => simp [intOf]; omega
      · obtain rfl : k = l.length := by omega
        have hb1 := hTM.out.2.2.1 l.length
        rw [List.take_length] at hb1 ⊢
        have hh := hTM.out.2.2.2.1
        obtain ⟨_, ⟨c0, c1, c2, c3⟩, ⟨t0, t1⟩⟩ := HQ.out _ hw
        generalize (l.map (ind (px / 8, py / 8))).sum = s at hb1 hh ⊢
        rcases (by omega : s = 1 ∨ s = 0) with rfl | rfl
        · clear hh
          go_wp2_with fail
          go_ret
          exact ⟨rfl, hw.st.below⟩
        · have hf : has a.x0 a.y0 a.x1 a.y1 px py = false := by
            cases h : has a.x0 a.y0 a.x1 a.y1 px py
            · rfl
            · exact absurd (hh h) (by decide)
          clear hh
          go_wp2_with (go_at_call 29; (with_reducible refine (Tl.call hw (has_any _ _ _ _ _ _ _)).mono ?_); rintro e w9 ⟨rfl, h9⟩)
          go_ret
          exact ⟨rfl, h9.st.below⟩

set_option maxRecDepth 100000 in
theorem lifted (os : Os) (started : os.Started) (H : Type) (enc : TypeId × Value → H) :
    ReturnsInHanded {} Try.checked os 9 .any (Rows.rectTilesSpec.pre6 enc Try.prog Try.f9 Rows.rectTilesRow.domain false) (Rows.rectTilesSpec.post enc Try.prog Try.f9 false true false false) := by
  refine returnsInHanded_of_change_sized (C := Try.checked) own started (by kernel_rfl) Try.func9
    (ChangeSpec.witness6 (enc := enc) (C := Try.checked) false ⟨#[], #[.agg #[.int .i64 0, .int .i64 0, .int .i64 0, .int .i64 0], .agg #[.int .i64 0, .int .i64 0]], []⟩ 8 (by kernel_rfl) (by kernel_rfl) (by kernel_rfl) (by kernel_rfl)) ?_
  intro W base args ds gs before hval0 hW _ _ _
  have hval : ∀ (j : Nat) t v, Try.f9.params[j]? = some t → args[j]? = some v → Value.okWide Try.prog W .any base t v := hval0
  have hW' := hW
  obtain ⟨p, q, hA0, hV, rfl, hfz, hnd⟩ := hW
  have hA : DataW.TrodAll enc Try.prog W 0 (fun _ => true) true Try.f9.params.toList args.toList ds p := hA0
  rw [Try.params9] at hA hval
  obtain ⟨v0, v1, d0, d1, p0, p1, rfl, rfl, rfl, h0, h1⟩ := trodAll_two hA
  obtain ⟨rfl, rfl⟩ := trodVars_none hV
  obtain ⟨q0, q1, q2, q3, rfl⟩ := agg_n4 (hval 0 27 v0 rfl rfl)
  obtain ⟨n0, n1, rfl⟩ := agg_n2 (hval 1 40 v1 rfl rfl)
  refine (walk q0 q1 q2 q3 n0 n1 W).mono fun e W' ⟨he, hb⟩ => ?_
  subst he
  exact ⟨_, rfl, law_post hW' rfl (by kernel_rfl) rfl (by intro t ht; rw [Try.params9] at ht; simp at ht; rcases ht with rfl | rfl <;> exact ⟨by kernel_rfl, of_decide_eq_true (by kernel_rfl)⟩) hb⟩

theorem holds : Rows.RectTilesSaid :=
  OpenClaim.holds_of_wide 9 Try.f9 rfl rfl rfl rfl rfl rfl rfl ⟨rfl, rfl, rfl, rfl, rfl⟩ rfl rfl rfl rfl rfl (by kernel_rfl) Try.func9 (by kernel_rfl)
    (of_decide_eq_true (by kernel_rfl)) (by unfold Func.isWrapper; first | (rw [if_pos (by decide +kernel)]; kernel_rfl) | (rw [if_neg (by decide +kernel)]; exact ⟨rfl, rfl⟩))
    (fun os started H enc _ => lifted os started H enc)
end Go.Proofs.Ytjadccelplnpnaa.LTiles
