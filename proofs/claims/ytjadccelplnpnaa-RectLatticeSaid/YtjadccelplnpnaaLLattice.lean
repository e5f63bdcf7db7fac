/-
  RectLattice: for all small rectangles, Union is the smallest rectangle that contains both, Intersect the greatest one that both contain, and both are commutative and associative. No conditions.
-/
import Derived.Test.YtjadccelplnpnaaLaw
import Derived.Test.YtjadccelplnpnaaLatt
import Derived.Deep.DeepCutAuto
namespace Go.Proofs.Ytjadccelplnpnaa.LLattice
open Go.ChangeShapes Go.WideShapes Go.ChangeAt Go.RowKit


set_option maxHeartbeats 4000000 in
set_option maxRecDepth 100000 in
theorem walk (q0 q1 q2 q3 q4 q5 q6 q7 q8 q9 q10 q11 : Int) (w : World) : Calls Try.prog 8 #[.agg #[.int .i64 q0, .int .i64 q1, .int .i64 q2, .int .i64 q3, .int .i64 q4, .int .i64 q5, .int .i64 q6, .int .i64 q7, .int .i64 q8, .int .i64 q9, .int .i64 q10, .int .i64 q11]] w fun e w' => e = .returned (.bool true) ∧ Below w.heap.size w w' := by
  go_enter Try.func8, Try.ntmps8
  go_upto_region 1 with fail
  have hs := (St.start w).alloc (.cells #[.int .i64 q0, .int .i64 q1, .int .i64 q2, .int .i64 q3, .int .i64 q4, .int .i64 q5, .int .i64 q6, .int .i64 q7, .int .i64 q8, .int .i64 q9, .int .i64 q10, .int .i64 q11] 50)
  generalize w.alloc (.cells #[.int .i64 q0, .int .i64 q1, .int .i64 q2, .int .i64 q3, .int .i64 q4, .int .i64 q5, .int .i64 q6, .int .i64 q7, .int .i64 q8, .int .i64 q9, .int .i64 q10, .int .i64 q11] 50) = w1 at hs ⊢
  go_upto_region 2 with (go_at_call 13; (with_reducible refine (St.call hs (sane_any _)).mono ?_); rintro e w2 ⟨rfl, h2⟩)
  clear hs
  obtain ⟨c0, c1, c2, c3, c4, c5, c6, c7, c8, c9, c10, c11⟩ : QC w2 w.heap.size q0 q1 q2 q3 q4 q5 q6 q7 q8 q9 q10 q11 := h2.qc (t := 50) (by simp)
  go_upto_region 3 with (go_at_call 14; (with_reducible refine (St.call h2 (small_any _ _ _ _ _)).mono ?_); rintro e w3 ⟨rfl, h3⟩)
  clear h2 c0 c1 c2 c3 c4 c5 c6 c7 c8 c9 c10 c11
  generalize sml q0 q1 q2 q3 = a at h3 ⊢
  have hs := h3.alloc (ro a.x0 a.y0 a.x1 a.y1)
  clear h3
  generalize w3.heap.size = ba at hs ⊢
  generalize w3.alloc (ro a.x0 a.y0 a.x1 a.y1) = w5 at hs ⊢
  obtain ⟨c0, c1, c2, c3, c4, c5, c6, c7, c8, c9, c10, c11⟩ : QC w5 w.heap.size q0 q1 q2 q3 q4 q5 q6 q7 q8 q9 q10 q11 := hs.qc (t := 50) (by simp)
  go_upto_region 4 with (go_at_call 14; (with_reducible refine (St.call hs (small_any _ _ _ _ _)).mono ?_); rintro e w3 ⟨rfl, h3⟩)
  clear hs c0 c1 c2 c3 c4 c5 c6 c7 c8 c9 c10 c11
  generalize sml q4 q5 q6 q7 = b at h3 ⊢
  have hs := h3.alloc (ro b.x0 b.y0 b.x1 b.y1)
  clear h3
  generalize w3.heap.size = bb at hs ⊢
  generalize w3.alloc (ro b.x0 b.y0 b.x1 b.y1) = w6 at hs ⊢
  obtain ⟨c0, c1, c2, c3, c4, c5, c6, c7, c8, c9, c10, c11⟩ : QC w6 w.heap.size q0 q1 q2 q3 q4 q5 q6 q7 q8 q9 q10 q11 := hs.qc (t := 50) (by simp)
  go_upto_region 5 with (go_at_call 14; (with_reducible refine (St.call hs (small_any _ _ _ _ _)).mono ?_); rintro e w3 ⟨rfl, h3⟩)
  clear hs c0 c1 c2 c3 c4 c5 c6 c7 c8 c9 c10 c11
  generalize sml q8 q9 q10 q11 = c at h3 ⊢
  have hs := h3.alloc (ro c.x0 c.y0 c.x1 c.y1)
  clear h3
  generalize w3.heap.size = bc at hs ⊢
  generalize w3.alloc (ro c.x0 c.y0 c.x1 c.y1) = w7 at hs ⊢
  obtain ⟨a00, a01, a02, a03⟩ := hs.rect (b := ba) (x0 := a.x0) (x1 := a.y0) (x2 := a.x1) (x3 := a.y1) (by simp)
  obtain ⟨b00, b01, b02, b03⟩ := hs.rect (b := bb) (x0 := b.x0) (x1 := b.y0) (x2 := b.x1) (x3 := b.y1) (by simp)
  go_upto_region 6 with (go_at_call 31; (with_reducible refine (St.call hs (union_any _ _ _ _ _ _ _ _ _)).mono ?_); rintro e w8 ⟨rfl, h3⟩)
  clear hs a00 a01 a02 a03 b00 b01 b02 b03
  have hu1 := latt_u1 a b
  have hu2 := latt_u2 a b c
  have hua := latt_ua a b c
  have hi1 := latt_i1 a b
  have hi2 := latt_i2 a b c
  have hia := latt_ia a b c
  unfold uniR at hu1 hu2 hua
  unfold insR at hu1 hu2 hi1 hi2
  unfold intR at hi1 hi2 hia
  unfold eqrR at hu1 hua hi1 hia
  have HF : Hid _ := Lib.hid (And.intro hu1 (And.intro hu2 (And.intro hua (And.intro hi1 (And.intro hi2 hia)))))
  clear hu1 hu2 hua hi1 hi2 hia
  generalize uni a.x0 a.y0 a.x1 a.y1 b.x0 b.y0 b.x1 b.y1 = u at h3 HF ⊢
  have hs := h3.alloc (ro u.x0 u.y0 u.x1 u.y1)
  clear h3
  generalize w8.heap.size = bu at hs ⊢
  generalize w8.alloc (ro u.x0 u.y0 u.x1 u.y1) = w9 at hs ⊢
  obtain ⟨a00, a01, a02, a03⟩ := hs.rect (b := ba) (x0 := a.x0) (x1 := a.y0) (x2 := a.x1) (x3 := a.y1) (by simp)
  obtain ⟨b00, b01, b02, b03⟩ := hs.rect (b := bb) (x0 := b.x0) (x1 := b.y0) (x2 := b.x1) (x3 := b.y1) (by simp)
  go_upto_region 7 with (go_at_call 32; (with_reducible refine (St.call hs (inter_any _ _ _ _ _ _ _ _ _)).mono ?_); rintro e w10 ⟨rfl, h3⟩)
  clear hs a00 a01 a02 a03 b00 b01 b02 b03
  generalize nrm (mx a.x0 b.x0) (mx a.y0 b.y0) (mn a.x1 b.x1) (mn a.y1 b.y1) = i at h3 HF ⊢
  have hs := h3.alloc (ro i.x0 i.y0 i.x1 i.y1)
  clear h3
  generalize w10.heap.size = bi at hs ⊢
  generalize w10.alloc (ro i.x0 i.y0 i.x1 i.y1) = w11 at hs ⊢
  obtain ⟨L, hL⟩ : ∃ L, L = [(bi, ro i.x0 i.y0 i.x1 i.y1), (bu, ro u.x0 u.y0 u.x1 u.y1), (bc, ro c.x0 c.y0 c.x1 c.y1), (bb, ro b.x0 b.y0 b.x1 b.y1), (ba, ro a.x0 a.y0 a.x1 a.y1), (w.heap.size, .cells #[.int .i64 q0, .int .i64 q1, .int .i64 q2, .int .i64 q3, .int .i64 q4, .int .i64 q5, .int .i64 q6, .int .i64 q7, .int .i64 q8, .int .i64 q9, .int .i64 q10, .int .i64 q11] 50)] := ⟨_, rfl⟩
  rw [← hL] at hs
  have HP : Hid (∀ V, St w L V → St w L V ∧ RB V ba a.x0 a.y0 a.x1 a.y1 ∧ RB V bb b.x0 b.y0 b.x1 b.y1 ∧ RB V bc c.x0 c.y0 c.x1 c.y1 ∧ RB V bu u.x0 u.y0 u.x1 u.y1 ∧ RB V bi i.x0 i.y0 i.x1 i.y1) := fun V hV => by
    subst hL
    exact ⟨hV, hV.rect (by simp), hV.rect (by simp), hV.rect (by simp), hV.rect (by simp), hV.rect (by simp)⟩
  clear hL
  obtain ⟨⟨f1, f2, f3⟩, f4, f5, ⟨f6, f7, f8⟩, f9, f10⟩ := HF.out
  clear HF
  go_cut [9] from 28 to 42 (fun v wx => v = .bool true ∧ St w L wx)
  case first =>
    clear f1 f2 f3 f5 f6 f7 f8 f9 f10
    obtain ⟨_, ⟨a00, a01, a02, a03⟩, ⟨b00, b01, b02, b03⟩, ⟨c00, c01, c02, c03⟩, ⟨u00, u01, u02, u03⟩, ⟨i00, i01, i02, i03⟩⟩ := HP.out _ hs
    cases hac : ins a.x0 a.y0 a.x1 a.y1 c.x0 c.y0 c.x1 c.y1
    case false =>
      go_wp2_with (go_at_call 33; (with_reducible refine (St.call (W := w) (L := L) ?_ (inside_any _ _ _ _ _ _ _ _ _)).mono ?_); (focus assumption); rintro e w4 ⟨rfl, h4⟩; obtain ⟨_, ⟨a00, a01, a02, a03⟩, ⟨b00, b01, b02, b03⟩, ⟨c00, c01, c02, c03⟩, ⟨u00, u01, u02, u03⟩, ⟨i00, i01, i02, i03⟩⟩ := HP.out _ h4)
      go_meet
      case rel => exact ⟨rfl, h4⟩
    case true =>
      cases hbc : ins b.x0 b.y0 b.x1 b.y1 c.x0 c.y0 c.x1 c.y1
      case false =>
        go_wp2_with (go_at_call 33; (with_reducible refine (St.call (W := w) (L := L) ?_ (inside_any _ _ _ _ _ _ _ _ _)).mono ?_); (focus assumption); rintro e w4 ⟨rfl, h4⟩; obtain ⟨_, ⟨a00, a01, a02, a03⟩, ⟨b00, b01, b02, b03⟩, ⟨c00, c01, c02, c03⟩, ⟨u00, u01, u02, u03⟩, ⟨i00, i01, i02, i03⟩⟩ := HP.out _ h4)
        go_meet
        case rel => exact ⟨rfl, h4⟩
      case true =>
        have huc := f4 hac hbc
        go_wp2_with (go_at_call 33; (with_reducible refine (St.call (W := w) (L := L) ?_ (inside_any _ _ _ _ _ _ _ _ _)).mono ?_); (focus assumption); rintro e w4 ⟨rfl, h4⟩; obtain ⟨_, ⟨a00, a01, a02, a03⟩, ⟨b00, b01, b02, b03⟩, ⟨c00, c01, c02, c03⟩, ⟨u00, u01, u02, u03⟩, ⟨i00, i01, i02, i03⟩⟩ := HP.out _ h4)
        go_meet
        case rel => exact ⟨rfl, h4⟩
  case rest =>
    obtain ⟨rfl, hX⟩ := hcut
    clear hs f4
    go_upto_region 8 with fail
    go_cut [10] from 43 to 57 (fun v wx => v = .bool true ∧ St w L wx)
    case first =>
      clear f1 f2 f3 f5 f6 f7 f8 f10
      obtain ⟨_, ⟨a00, a01, a02, a03⟩, ⟨b00, b01, b02, b03⟩, ⟨c00, c01, c02, c03⟩, ⟨u00, u01, u02, u03⟩, ⟨i00, i01, i02, i03⟩⟩ := HP.out _ hX
      cases hac : ins c.x0 c.y0 c.x1 c.y1 a.x0 a.y0 a.x1 a.y1
      case false =>
        go_wp2_with (go_at_call 33; (with_reducible refine (St.call (W := w) (L := L) ?_ (inside_any _ _ _ _ _ _ _ _ _)).mono ?_); (focus assumption); rintro e w4 ⟨rfl, h4⟩; obtain ⟨_, ⟨a00, a01, a02, a03⟩, ⟨b00, b01, b02, b03⟩, ⟨c00, c01, c02, c03⟩, ⟨u00, u01, u02, u03⟩, ⟨i00, i01, i02, i03⟩⟩ := HP.out _ h4)
        go_meet
        case rel => exact ⟨rfl, h4⟩
      case true =>
        cases hbc : ins c.x0 c.y0 c.x1 c.y1 b.x0 b.y0 b.x1 b.y1
        case false =>
          go_wp2_with (go_at_call 33; (with_reducible refine (St.call (W := w) (L := L) ?_ (inside_any _ _ _ _ _ _ _ _ _)).mono ?_); (focus assumption); rintro e w4 ⟨rfl, h4⟩; obtain ⟨_, ⟨a00, a01, a02, a03⟩, ⟨b00, b01, b02, b03⟩, ⟨c00, c01, c02, c03⟩, ⟨u00, u01, u02, u03⟩, ⟨i00, i01, i02, i03⟩⟩ := HP.out _ h4)
          go_meet
          case rel => exact ⟨rfl, h4⟩
        case true =>
          have huc := f9 hac hbc
          go_wp2_with (go_at_call 33; (with_reducible refine (St.call (W := w) (L := L) ?_ (inside_any _ _ _ _ _ _ _ _ _)).mono ?_); (focus assumption); rintro e w4 ⟨rfl, h4⟩; obtain ⟨_, ⟨a00, a01, a02, a03⟩, ⟨b00, b01, b02, b03⟩, ⟨c00, c01, c02, c03⟩, ⟨u00, u01, u02, u03⟩, ⟨i00, i01, i02, i03⟩⟩ := HP.out _ h4)
          go_meet
          case rel => exact ⟨rfl, h4⟩
    case rest =>
      obtain ⟨rfl, hY⟩ := hcut
      clear hX f9
      go_upto_region 9 with fail
      have hd := hY.drew
      clear hY
      go_region_held3 (fun V => St w L V ∧ RB V ba a.x0 a.y0 a.x1 a.y1 ∧ RB V bb b.x0 b.y0 b.x1 b.y1 ∧ RB V bc c.x0 c.y0 c.x1 c.y1 ∧ RB V bu u.x0 u.y0 u.x1 u.y1 ∧ RB V bi i.x0 i.y0 i.x1 i.y1) ((refine HP.out _ ?_; assumption)) (first | (go_at_call 31; (with_reducible refine (St.call (W := w) (L := L) ?_ (union_any _ _ _ _ _ _ _ _ _)).mono ?_); (focus assumption); rintro e w4 ⟨rfl, h4⟩) | (go_at_call 32; (with_reducible refine (St.call (W := w) (L := L) ?_ (inter_any _ _ _ _ _ _ _ _ _)).mono ?_); (focus assumption); rintro e w4 ⟨rfl, h4⟩) | (go_at_call 36; (with_reducible refine (St.call (W := w) (L := L) ?_ (equal_any _ _ _ _ _ _ _ _ _)).mono ?_); (focus assumption); rintro e w4 ⟨rfl, h4⟩))
      rename_i hHeld
      obtain ⟨hZ, ⟨a00, a01, a02, a03⟩, ⟨b00, b01, b02, b03⟩, ⟨c00, c01, c02, c03⟩, ⟨u00, u01, u02, u03⟩, ⟨i00, i01, i02, i03⟩⟩ := hHeld
      clear f3 f5 f8 f10
      go_upto_region 10 with fail
      go_wp2_with (go_at_call 33; (with_reducible refine (St.call (W := w) (L := L) ?_ (inside_any _ _ _ _ _ _ _ _ _)).mono ?_); (focus assumption); rintro e w4 ⟨rfl, h4⟩; obtain ⟨_, ⟨a00, a01, a02, a03⟩, ⟨b00, b01, b02, b03⟩, ⟨c00, c01, c02, c03⟩, ⟨u00, u01, u02, u03⟩, ⟨i00, i01, i02, i03⟩⟩ := HP.out _ h4)
      go_ret
      exact ⟨rfl, h4.below⟩

set_option maxRecDepth 100000 in
theorem lifted (os : Os) (started : os.Started) (H : Type) (enc : TypeId × Value → H) :
    ReturnsInHanded {} Try.checked os 8 .any (Rows.rectLatticeSpec.pre6 enc Try.prog Try.f8 Rows.rectLatticeRow.domain false) (Rows.rectLatticeSpec.post enc Try.prog Try.f8 false true false false) := by
  refine returnsInHanded_of_change_sized (C := Try.checked) own started (by kernel_rfl) Try.func8
    (ChangeSpec.witness6 (enc := enc) (C := Try.checked) false ⟨#[], #[.agg #[.int .i64 0, .int .i64 0, .int .i64 0, .int .i64 0, .int .i64 0, .int .i64 0, .int .i64 0, .int .i64 0, .int .i64 0, .int .i64 0, .int .i64 0, .int .i64 0]], []⟩ 8 (by kernel_rfl) (by kernel_rfl) (by kernel_rfl) (by kernel_rfl)) ?_
  intro W base args ds gs before hval0 hW _ _ _
  have hval : ∀ (j : Nat) t v, Try.f8.params[j]? = some t → args[j]? = some v → Value.okWide Try.prog W .any base t v := hval0
  have hW' := hW
  obtain ⟨p, q, hA0, hV, rfl, hfz, hnd⟩ := hW
  have hA : DataW.TrodAll enc Try.prog W 0 (fun _ => true) true Try.f8.params.toList args.toList ds p := hA0
  rw [Try.params8] at hA hval
  obtain ⟨v0, d0, rfl, rfl, h0⟩ := trodAll_one hA
  obtain ⟨rfl, rfl⟩ := trodVars_none hV
  obtain ⟨q0, q1, q2, q3, q4, q5, q6, q7, q8, q9, q10, q11, rfl⟩ := agg_q3 (hval 0 50 v0 rfl rfl)
  refine (walk q0 q1 q2 q3 q4 q5 q6 q7 q8 q9 q10 q11 W).mono fun e W' ⟨he, hb⟩ => ?_
  subst he
  exact ⟨_, rfl, law_post hW' rfl (by kernel_rfl) rfl (by intro t ht; rw [Try.params8] at ht; simp at ht; subst ht; exact ⟨by kernel_rfl, of_decide_eq_true (by kernel_rfl)⟩) hb⟩

theorem holds : Rows.RectLatticeSaid :=
  OpenClaim.holds_of_wide 8 Try.f8 rfl rfl rfl rfl rfl rfl rfl ⟨rfl, rfl, rfl, rfl, rfl⟩ rfl rfl rfl rfl rfl (by kernel_rfl) Try.func8 (by kernel_rfl)
    (of_decide_eq_true (by kernel_rfl)) (by unfold Func.isWrapper; first | (rw [if_pos (by decide +kernel)]; kernel_rfl) | (rw [if_neg (by decide +kernel)]; exact ⟨rfl, rfl⟩))
    (fun os started H enc _ => lifted os started H enc)
end Go.Proofs.Ytjadccelplnpnaa.LLattice
