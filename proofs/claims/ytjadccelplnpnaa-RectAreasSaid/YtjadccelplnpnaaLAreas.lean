/-
  RectAreas: for all small rectangles, the areas of the parts of a difference and of the intersection add up to the area of the first rectangle. No conditions.
-/
import Derived.Test.YtjadccelplnpnaaLaw
import Derived.Test.YtjadccelplnpnaaExact
import Derived.Test.YtjadccelplnpnaaArea
import Derived.Deep.DeepCutAuto
namespace Go.Proofs.Ytjadccelplnpnaa.LAreas
open Go.ChangeShapes Go.WideShapes Go.ChangeAt Go.RowKit

/-- the cells of one rectangle of a row -/
abbrev EB (w : World) (B i : Nat) (x0 x1 x2 x3 : Int) : Prop :=
  w.cell? ⟨B, i * 4, none⟩ = some (.int .i64 x0) ∧ w.cell? ⟨B, i * 4 + 1, none⟩ = some (.int .i64 x1) ∧ w.cell? ⟨B, i * 4 + 2, none⟩ = some (.int .i64 x2) ∧ w.cell? ⟨B, i * 4 + 3, none⟩ = some (.int .i64 x3)
/-- one rectangle of the list, held in every later memory -/
theorem rcs_one {w : World} {po : Option Addr} {n c : Nat} {l : List Rc} (h : RcsAt w (.slice po n c) l) {k : Nat} (hk : k < l.length) : ∃ B, po = some ⟨B, 0, none⟩ ∧ B < w.heap.size ∧ EB w B k l[k].x0 l[k].y0 l[k].x1 l[k].y1 := by
  obtain ⟨po', c', hv, hl, hi⟩ := h
  injection hv with e1 e2 e3
  obtain ⟨b, hp, hb, h0, h1, h2, h3⟩ := hi k hk
  exact ⟨b, by rw [e1, hp], hb, h0, h1, h2, h3⟩
/-- memory of a walk over a list of rectangles -/
structure Sl (W : World) (L : List (Nat × Obj)) (v : Value) (l : List Rc) (w : World) : Prop where
  st : St W L w
  at_ : RcsAt w v l
theorem Sl.later {W w w' : World} {L : List (Nat × Obj)} {v : Value} {l : List Rc} (h : Sl W L v l w) (hb : Below w.heap.size w w') : Sl W L v l w' := ⟨h.st.later hb, h.at_.later hb⟩
theorem Sl.drew {W w : World} {L : List (Nat × Obj)} {v : Value} {l : List Rc} (h : Sl W L v l w) : Sl W L v l w.drew := h.later (Below.refl _ w).drew
theorem Sl.call {P : Program} {f : FuncId} {args : Array Value} {u v : Value} {W w : World} {L : List (Nat × Obj)} {l : List Rc} (h : Sl W L v l w) (hc : Calls P f args w fun e w' => e = .returned u ∧ Below w.heap.size w w') :
    Calls P f args w fun e w' => e = .returned u ∧ Sl W L v l w' := hc.mono fun _ _ ⟨h1, h2⟩ => ⟨h1, h.later h2⟩

set_option maxHeartbeats 4000000 in
set_option maxRecDepth 100000 in
theorem walk (q0 q1 q2 q3 q4 q5 q6 q7 : Int) (w : World) : Calls Try.prog 7 #[.agg #[.int .i64 q0, .int .i64 q1, .int .i64 q2, .int .i64 q3, .int .i64 q4, .int .i64 q5, .int .i64 q6, .int .i64 q7]] w fun e w' => e = .returned (.bool true) ∧ Below w.heap.size w w' := by
  go_enter Try.func7, Try.ntmps7
  go_upto_region 1 with fail
  have hs := (St.start w).alloc (.cells #[.int .i64 q0, .int .i64 q1, .int .i64 q2, .int .i64 q3, .int .i64 q4, .int .i64 q5, .int .i64 q6, .int .i64 q7] 39)
  generalize w.alloc (.cells #[.int .i64 q0, .int .i64 q1, .int .i64 q2, .int .i64 q3, .int .i64 q4, .int .i64 q5, .int .i64 q6, .int .i64 q7] 39) = w1 at hs ⊢
  go_upto_region 2 with (go_at_call 13; (with_reducible refine (St.call hs (sane_any _)).mono ?_); rintro e w2 ⟨rfl, h2⟩)
  clear hs
  obtain ⟨c0, c1, c2, c3, c4, c5, c6, c7⟩ : QB w2 w.heap.size q0 q1 q2 q3 q4 q5 q6 q7 := h2.qb (t := 39) (by simp)
  go_upto_region 3 with (go_at_call 14; (with_reducible refine (St.call h2 (small_any _ _ _ _ _)).mono ?_); rintro e w3 ⟨rfl, h3⟩)
  clear h2 c0 c1 c2 c3 c4 c5 c6 c7
  have ha := sml_sm q0 q1 q2 q3
  generalize sml q0 q1 q2 q3 = a at h3 ha ⊢
  have hs := h3.alloc (ro a.x0 a.y0 a.x1 a.y1)
  clear h3
  generalize w3.heap.size = ba at hs ⊢
  generalize w3.alloc (ro a.x0 a.y0 a.x1 a.y1) = w5 at hs ⊢
  obtain ⟨c0, c1, c2, c3, c4, c5, c6, c7⟩ : QB w5 w.heap.size q0 q1 q2 q3 q4 q5 q6 q7 := hs.qb (t := 39) (by simp)
  go_upto_region 4 with (go_at_call 14; (with_reducible refine (St.call hs (small_any _ _ _ _ _)).mono ?_); rintro e w6 ⟨rfl, h3⟩)
  clear hs c0 c1 c2 c3 c4 c5 c6 c7
  have hb := sml_sm q4 q5 q6 q7
  generalize sml q4 q5 q6 q7 = b at h3 hb ⊢
  have hs := h3.alloc (ro b.x0 b.y0 b.x1 b.y1)
  clear h3
  generalize w6.heap.size = bb at hs ⊢
  generalize w6.alloc (ro b.x0 b.y0 b.x1 b.y1) = w7 at hs ⊢
  obtain ⟨L, hL⟩ : ∃ L, L = [(bb, ro b.x0 b.y0 b.x1 b.y1), (ba, ro a.x0 a.y0 a.x1 a.y1), (w.heap.size, .cells #[.int .i64 q0, .int .i64 q1, .int .i64 q2, .int .i64 q3, .int .i64 q4, .int .i64 q5, .int .i64 q6, .int .i64 q7] 39)] := ⟨_, rfl⟩
  rw [← hL] at hs
  have HP : Hid (∀ V, St w L V → St w L V ∧ RB V ba a.x0 a.y0 a.x1 a.y1 ∧ RB V bb b.x0 b.y0 b.x1 b.y1) := fun V hV => by
    subst hL
    exact ⟨hV, hV.rect (by simp), hV.rect (by simp)⟩
  clear hL
  obtain ⟨_, ⟨a00, a01, a02, a03⟩, ⟨b00, b01, b02, b03⟩⟩ := HP.out _ hs
  go_upto_region 5 with (first | (go_at_call 32; (with_reducible refine (St.call (W := w) (L := L) ?_ (inter_any _ _ _ _ _ _ _ _ _)).mono ?_); (focus assumption); rintro e w4 ⟨rfl, h4⟩) | (go_at_call 34; (with_reducible refine (St.call (W := w) (L := L) ?_ (area_any _ _ _ _ _)).mono ?_); (focus assumption); rintro e w4 ⟨rfl, h4⟩))
  clear hs a00 a01 a02 a03 b00 b01 b02 b03
  obtain ⟨_, ⟨a00, a01, a02, a03⟩, ⟨b00, b01, b02, b03⟩⟩ := HP.out _ h4
  go_upto_region 6 with (go_at_call 30; (with_reducible refine (minus_st h4 _ _ _ _ _ _ _ _).mono ?_); rintro e w8 ⟨v, rfl, hv, h5, _⟩)
  clear h4 a00 a01 a02 a03 b00 b01 b02 b03
  have hsum := areas_sum ha hb
  have hmem : Hid (∀ x ∈ minus a b, emp x.x0 x.y0 x.x1 x.y1 = false ∧ ins x.x0 x.y0 x.x1 x.y1 a.x0 a.y0 a.x1 a.y1 = true ∧ emp (nrm (mx x.x0 b.x0) (mx x.y0 b.y0) (mn x.x1 b.x1) (mn x.y1 b.y1)).x0 (nrm (mx x.x0 b.x0) (mx x.y0 b.y0) (mn x.x1 b.x1) (mn x.y1 b.y1)).y0
      (nrm (mx x.x0 b.x0) (mx x.y0 b.y0) (mn x.x1 b.x1) (mn x.y1 b.y1)).x1 (nrm (mx x.x0 b.x0) (mx x.y0 b.y0) (mn x.x1 b.x1) (mn x.y1 b.y1)).y1 = true ∧ 0 ≤ areaR x) := fun x hx => ⟨(minus_mem hx).1, (minus_mem hx).2.1, (minus_mem hx).2.2, area_nonneg ha hx⟩
  have hle := area_le ha
  have hlen := minus_len a b
  have hi0 := inter_nonneg ha hb
  change RcsAt w8 v (minus a b) at hv
  have hst := sum_take (minus a b) (fun x hx => (hmem.out x hx).2.2.2)
  unfold inter at hsum hi0
  clear ha hb
  generalize minus a b = l at hv hsum hmem hlen hst
  obtain ⟨A, hA, hsum, hi0⟩ : ∃ A, A = area (nrm (mx a.x0 b.x0) (mx a.y0 b.y0) (mn a.x1 b.x1) (mn a.y1 b.y1)).x0 (nrm (mx a.x0 b.x0) (mx a.y0 b.y0) (mn a.x1 b.x1) (mn a.y1 b.y1)).y0 (nrm (mx a.x0 b.x0) (mx a.y0 b.y0) (mn a.x1 b.x1) (mn a.y1 b.y1)).x1 (nrm (mx a.x0 b.x0) (mx a.y0 b.y0) (mn a.x1 b.x1) (mn a.y1 b.y1)).y1 ∧ A + (l.map areaR).sum = areaR a ∧ 0 ≤ A := ⟨_, rfl, hsum, hi0⟩
  rw [← hA]
  clear hA
  obtain ⟨po, c, rfl⟩ : ∃ po c, v = .slice po l.length c := by obtain ⟨po, c, e, _⟩ := hv; exact ⟨po, c, e⟩
  have hS : Sl w L (.slice po l.length c) l w8 := ⟨h5, hv⟩
  clear hv h5
  go_wp2_with fail
  go_loopw [6, 8] (fun s i wr => ∃ k : Nat, k ≤ l.length ∧ i = .int .i64 k ∧ s = .int .i64 (A + ((l.take k).map areaR).sum) ∧ Hid (Sl w L (.slice po l.length c) l wr)) (fun _ i _ => l.length - (intOf i).toNat)
  case atStart => exact ⟨0, Nat.zero_le _, rfl, by simp, Lib.hid hS⟩
  case round =>
    clear hS
    obtain ⟨k, hk, rfl, rfl, hh⟩ := hrel
    have hw := hh.out
    clear hh
    by_cases hlt : k < l.length
    · obtain ⟨B, rfl, hB, _⟩ := rcs_one hw.at_ hlt
      obtain ⟨m1, m2, m3, m4⟩ := hmem.out l[k] (List.getElem_mem hlt)
      have hx := sum_step l k hlt
      have hb1 := hst k
      have hb2 := hst (k + 1)
      have HQ : Hid (∀ V, Sl w L (.slice (some ⟨B, 0, none⟩) l.length c) l V → Sl w L (.slice (some ⟨B, 0, none⟩) l.length c) l V ∧ EB V B k l[k].x0 l[k].y0 l[k].x1 l[k].y1 ∧ RB V ba a.x0 a.y0 a.x1 a.y1 ∧ RB V bb b.x0 b.y0 b.x1 b.y1) := fun V hV =>
        ⟨hV, by obtain ⟨B', e, _, h⟩ := rcs_one hV.at_ hlt; cases e; exact h, (HP.out _ hV.st).2⟩
      generalize l[k] = x at m1 m2 m3 m4 hx HQ
      generalize ((l.take k).map areaR).sum = s at hb1 hx ⊢
      obtain ⟨s', hs'⟩ : ∃ s', s' = ((l.take (k + 1)).map areaR).sum := ⟨_, rfl⟩
      rw [← hs'] at hb2 hx
      have hwr : IntKind.i64.wrap (A + s + area x.x0 x.y0 x.x1 x.y1) = A + s' := by
        change s' = s + area x.x0 x.y0 x.x1 x.y1 at hx
        rw [Int.add_assoc, ← hx]; exact IntWalk.i64_in _ ⟨by omega, by omega⟩
      go_upto_region 9 with fail
      have hd := hw.drew
      clear hw
      go_region_held3 (fun V => Sl w L (.slice (some ⟨B, 0, none⟩) l.length c) l V ∧ EB V B k x.x0 x.y0 x.x1 x.y1 ∧ RB V ba a.x0 a.y0 a.x1 a.y1 ∧ RB V bb b.x0 b.y0 b.x1 b.y1) ((refine HQ.out _ ?_; assumption)) (first | (go_at_call 35; (with_reducible refine (Sl.call (W := w) (L := L) (v := .slice (some ⟨B, 0, none⟩) l.length c) (l := l) ?_ (empty_any _ _ _ _ _)).mono ?_); (focus assumption); rintro e w4 ⟨rfl, h4⟩) | (go_at_call 33; (with_reducible refine (Sl.call (W := w) (L := L) (v := .slice (some ⟨B, 0, none⟩) l.length c) (l := l) ?_ (inside_any _ _ _ _ _ _ _ _ _)).mono ?_); (focus assumption); rintro e w4 ⟨rfl, h4⟩) | (go_at_call 32; (with_reducible refine (Sl.call (W := w) (L := L) (v := .slice (some ⟨B, 0, none⟩) l.length c) (l := l) ?_ (inter_any _ _ _ _ _ _ _ _ _)).mono ?_); (focus assumption); rintro e w4 ⟨rfl, h4⟩) | (go_at_call 34; (with_reducible refine (Sl.call (W := w) (L := L) (v := .slice (some ⟨B, 0, none⟩) l.length c) (l := l) ?_ (area_any _ _ _ _ _)).mono ?_); (focus assumption); rintro e w4 ⟨rfl, h4⟩))
      rename_i hHeld
      obtain ⟨hX, ⟨e0, e1, e2, e3⟩, _⟩ := hHeld
      clear hd
      go_wp2_with (first | (go_at_call 35; (with_reducible refine (Sl.call (W := w) (L := L) (v := .slice (some ⟨B, 0, none⟩) l.length c) (l := l) ?_ (empty_any _ _ _ _ _)).mono ?_); (focus assumption); rintro e w4 ⟨rfl, h4⟩) | (go_at_call 33; (with_reducible refine (Sl.call (W := w) (L := L) (v := .slice (some ⟨B, 0, none⟩) l.length c) (l := l) ?_ (inside_any _ _ _ _ _ _ _ _ _)).mono ?_); (focus assumption); rintro e w4 ⟨rfl, h4⟩) | (go_at_call 32; (with_reducible refine (Sl.call (W := w) (L := L) (v := .slice (some ⟨B, 0, none⟩) l.length c) (l := l) ?_ (inter_any _ _ _ _ _ _ _ _ _)).mono ?_); (focus assumption); rintro e w4 ⟨rfl, h4⟩) | (go_at_call 34; (with_reducible refine (Sl.call (W := w) (L := L) (v := .slice (some ⟨B, 0, none⟩) l.length c) (l := l) ?_ (area_any _ _ _ _ _)).mono ?_); (focus assumption); rintro e w4 ⟨rfl, h4⟩))
      go_roundw
      case rel => exact ⟨k + 1, by omega, by go_num, by rw [← hx, hs'], Lib.hid (by assumption)⟩
      case measure => simp [intOf]; omega
    · obtain rfl : k = l.length := by omega
      rw [List.take_length, hsum]
      obtain ⟨_, ⟨a00, a01, a02, a03⟩, _⟩ := HP.out _ hw.st
      go_wp2_with (go_at_call 34; (with_reducible refine (Sl.call (W := w) (L := L) (v := .slice po l.length c) (l := l) hw (area_any _ _ _ _ _)).mono ?_); rintro e w4 ⟨rfl, h4⟩)
      go_ret
      exact ⟨rfl, h4.st.below⟩

set_option maxRecDepth 100000 in
theorem lifted (os : Os) (started : os.Started) (H : Type) (enc : TypeId × Value → H) :
    ReturnsInHanded {} Try.checked os 7 .any (Rows.rectAreasSpec.pre6 enc Try.prog Try.f7 Rows.rectAreasRow.domain false) (Rows.rectAreasSpec.post enc Try.prog Try.f7 false true false false) := by
  refine returnsInHanded_of_change_sized (C := Try.checked) own started (by kernel_rfl) Try.func7
    (ChangeSpec.witness6 (enc := enc) (C := Try.checked) false ⟨#[], #[.agg #[.int .i64 0, .int .i64 0, .int .i64 0, .int .i64 0, .int .i64 0, .int .i64 0, .int .i64 0, .int .i64 0]], []⟩ 8 (by kernel_rfl) (by kernel_rfl) (by kernel_rfl) (by kernel_rfl)) ?_
  intro W base args ds gs before hval0 hW _ _ _
  have hval : ∀ (j : Nat) t v, Try.f7.params[j]? = some t → args[j]? = some v → Value.okWide Try.prog W .any base t v := hval0
  have hW' := hW
  obtain ⟨p, q, hA0, hV, rfl, hfz, hnd⟩ := hW
  have hA : DataW.TrodAll enc Try.prog W 0 (fun _ => true) true Try.f7.params.toList args.toList ds p := hA0
  rw [Try.params7] at hA hval
  obtain ⟨v0, d0, rfl, rfl, h0⟩ := trodAll_one hA
  obtain ⟨rfl, rfl⟩ := trodVars_none hV
  obtain ⟨q0, q1, q2, q3, q4, q5, q6, q7, rfl⟩ := agg_q2 (hval 0 39 v0 rfl rfl)
  refine (walk q0 q1 q2 q3 q4 q5 q6 q7 W).mono fun e W' ⟨he, hb⟩ => ?_
  subst he
  exact ⟨_, rfl, law_post hW' rfl (by kernel_rfl) rfl (by intro t ht; rw [Try.params7] at ht; simp at ht; subst ht; exact ⟨by kernel_rfl, of_decide_eq_true (by kernel_rfl)⟩) hb⟩

theorem holds : Rows.RectAreasSaid :=
  OpenClaim.holds_of_wide 7 Try.f7 rfl rfl rfl rfl rfl rfl rfl ⟨rfl, rfl, rfl, rfl, rfl⟩ rfl rfl rfl rfl rfl (by kernel_rfl) Try.func7 (by kernel_rfl)
    (of_decide_eq_true (by kernel_rfl)) (by unfold Func.isWrapper; first | (rw [if_pos (by decide +kernel)]; kernel_rfl) | (rw [if_neg (by decide +kernel)]; exact ⟨rfl, rfl⟩))
    (fun os started H enc _ => lifted os started H enc)
end Go.Proofs.Ytjadccelplnpnaa.LAreas
