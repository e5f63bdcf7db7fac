/-
  RectStops: for all rectangles, clipped to the coordinate limits, and all numbers, the first n tiles are those of the reference, and the iteration can be repeated. No conditions.
-/
import Derived.Test.YtjadccelplnpnaaLaw
import Derived.Test.YtjadccelplnpnaaTps
import Derived.Test.YtjadccelplnpnaaExact
namespace Go.Proofs.Ytjadccelplnpnaa.LStops
open Go.ChangeShapes Go.WideShapes Go.ChangeAt Go.RowKit

theorem rest41 (a : Int) (w : World) : Calls Try.prog 24 #[.int .i64 a, .int .i64 41] w fun e w' => e = .returned (.int .i64 (a % 41)) ∧ w = w' := by
  have h := rest_any a 41 w (by omega) (by omega)
  rw [rest_mod a 41 (by omega) (by omega)] at h; exact h
/-- what is known of a rectangle that is clipped -/
theorem clip (r0 r1 r2 r3 : Int) : ∀ H, H = nrm (mx r0 (-65536)) (mx r1 (-65536)) (mn r2 65536) (mn r3 65536) →
    -100000 ≤ H.x0 ∧ H.x1 ≤ 100000 ∧ -100000 ≤ H.y0 ∧ H.y1 ≤ 100000 ∧ (emp H.x0 H.y0 H.x1 H.y1 = false → vld H.x0 H.y0 H.x1 H.y1 = true) := by
  intro H hH
  rw [mx_eq, mx_eq, mn_eq, mn_eq] at hH
  by_cases h : max r0 (-65536) < min r2 65536 ∧ max r1 (-65536) < min r3 65536
  · rw [nrm_pos h] at hH
    subst hH
    refine ⟨by simp only; omega, by simp only; omega, by simp only; omega, by simp only; omega, fun he => ?_⟩
    unfold vld; rw [he]
    simp only [ins_iff, Bool.not_false, Bool.true_and]
    refine .inr ?_
    omega
  · rw [nrm_zero (by omega)] at hH
    subst hH
    exact ⟨by decide, by decide, by decide, by decide, fun he => absurd he (by decide)⟩

set_option maxHeartbeats 4000000 in
set_option maxRecDepth 100000 in
theorem walk (r0 r1 r2 r3 n : Int) (w : World) : Calls Try.prog 10 #[.agg #[.int .i64 r0, .int .i64 r1, .int .i64 r2, .int .i64 r3], .int .i64 n] w fun e w' => e = .returned (.bool true) ∧ Below w.heap.size w w' := by
  obtain ⟨N, hN, hN2⟩ : ∃ N : Nat, n % 41 = N ∧ N ≤ 1000 := ⟨(n % 41).toNat, by omega, by omega⟩
  go_enter Try.func10, Try.ntmps10
  go_upto_region 1 with fail
  have hs := (St.start w).alloc (ro r0 r1 r2 r3)
  generalize w.alloc (ro r0 r1 r2 r3) = w1 at hs ⊢
  go_upto_region 2 with (go_at_call 13; (with_reducible refine (St.call hs (sane_any _)).mono ?_); rintro e w2 ⟨rfl, h2⟩)
  clear hs
  obtain ⟨c0, c1, c2, c3⟩ := h2.rect (b := w.heap.size) (x0 := r0) (x1 := r1) (x2 := r2) (x3 := r3) (by simp)
  have hcl := clip r0 r1 r2 r3 _ rfl
  go_upto_region 3 with (go_at_call 32; (with_reducible refine (St.call h2 (inter_any _ _ _ _ _ _ _ _ _)).mono ?_); rintro e w3 ⟨rfl, h3⟩)
  clear h2 c0 c1 c2 c3
  generalize nrm (mx r0 (-65536)) (mx r1 (-65536)) (mn r2 65536) (mn r3 65536) = H at hcl h3 ⊢
  have hs := h3.alloc (ro H.x0 H.y0 H.x1 H.y1)
  clear h3
  generalize w3.heap.size = bh at hs ⊢
  generalize w3.alloc (ro H.x0 H.y0 H.x1 H.y1) = w4 at hs ⊢
  obtain ⟨x0b, x1b, y0b, y1b, hval⟩ := hcl
  have HV := Lib.hid hval; clear hval
  go_upto_region 4 with (go_at_call 24; (with_reducible refine (rest41 _ _).mono ?_); rintro e w5 ⟨rfl, rfl⟩)
  obtain ⟨l, hl⟩ : ∃ l, l = (tiles H.x0 H.y0 H.x1 H.y1).take N := ⟨_, rfl⟩
  have HT1 : Hid (∀ V, Calls Try.prog 37 #[rv H.x0 H.y0 H.x1 H.y1, .int .i64 N] V fun e w' => ∃ v, e = .returned v ∧ w'.ownsRow V.heap.size 30 2 v l.length (tcs l) ∧ Below V.heap.size V w') := fun V => by
    rw [hl]; exact tiles_any _ _ _ _ N _ x0b x1b y0b y1b hN2
  have HT2 : Hid (∀ V, Calls Try.prog 38 #[rv H.x0 H.y0 H.x1 H.y1, .int .i64 N] V fun e w' => ∃ v, e = .returned v ∧ w'.ownsRow V.heap.size 30 2 v l.length (tcs l) ∧ Below V.heap.size V w') := fun V => by
    rw [hl]; exact refTiles_any _ _ _ _ N _ x0b x1b y0b y1b hN2
  have hll : l.length ≤ N := by rw [hl]; exact List.length_take_le _ _
  clear hl
  have ht : Tl w _ [] l w4 := ⟨hs, fun v hv => by cases hv⟩
  clear hs
  have HC : Hid (∀ vs V, Tl w [(bh, ro H.x0 H.y0 H.x1 H.y1), (w.heap.size, ro r0 r1 r2 r3)] vs l V → RB V bh H.x0 H.y0 H.x1 H.y1) := fun vs V hV => hV.st.rect (by simp)
  obtain ⟨c0, c1, c2, c3⟩ := HC.out _ _ ht
  go_upto_region 5 with (go_at_call 37; (with_reducible refine (Tl.more ht (HT1.out _)).mono ?_); rintro e w5 ⟨po1, cp1, rfl, h5⟩)
  clear ht c0 c1 c2 c3
  obtain ⟨c0, c1, c2, c3⟩ := HC.out _ _ h5
  go_upto_region 6 with (go_at_call 37; (with_reducible refine (Tl.more h5 (HT1.out _)).mono ?_); rintro e w6 ⟨po2, cp2, rfl, h6⟩)
  clear h5 c0 c1 c2 c3
  obtain ⟨c0, c1, c2, c3⟩ := HC.out _ _ h6
  go_upto_region 7 with (go_at_call 38; (with_reducible refine (Tl.more h6 (HT2.out _)).mono ?_); rintro e w7 ⟨po3, cp3, rfl, h7⟩)
  clear h6 c0 c1 c2 c3
  go_wp2_with fail
  go_loopw [11] (fun i wr => ∃ k : Nat, k ≤ l.length ∧ i = .int .i64 k ∧ ∃ nq, wr = w7.drewN nq) (fun i _ => l.length - (intOf i).toNat)
  case atStart => exact ⟨0, Nat.zero_le _, rfl, 0, rfl⟩
  case round =>
    obtain ⟨k, hk, rfl, nq, rfl⟩ := hrel
    by_cases hlt : k < l.length
    · have hwr : wrap64 ((k : Int) + 1) = k + 1 := IntWalk.wrap64_in _ ⟨by omega, by omega⟩
      obtain ⟨B1, rfl, _, x0, x1⟩ := tps_one (h7.at_ (.slice po1 l.length cp1) (by simp)) hlt
      obtain ⟨B2, rfl, _, y0, y1⟩ := tps_one (h7.at_ (.slice po2 l.length cp2) (by simp)) hlt
      obtain ⟨B3, rfl, _, z0, z1⟩ := tps_one (h7.at_ (.slice po3 l.length cp3) (by simp)) hlt
      generalize l[k] = x at x0 x1 y0 y1 z0 z1
      obtain ⟨x0', x1'⟩ := x
      clear h7 HC HV
      go_upto_region 12 with fail
      go_quiet (fail)
      go_wp2
      go_roundw
      case rel => exact ⟨k + 1, by omega, by go_num, _, rfl⟩
      case measure => simp [intOf]; omega
    · have h8 := h7.drewN nq
      obtain ⟨c0, c1, c2, c3⟩ := HC.out _ _ h8
      cases he : emp H.x0 H.y0 H.x1 H.y1
      case true =>
        go_wp2_with (go_at_call 35; (with_reducible refine (Tl.call h8 (empty_any _ _ _ _ _)).mono ?_); rintro e w9 ⟨rfl, h9⟩)
        go_ret
        exact ⟨rfl, h9.st.below⟩
      case false =>
        have hv := HV.out he
        go_wp2_with (first | (go_at_call 35; (with_reducible refine (Tl.call h8 (empty_any _ _ _ _ _)).mono ?_); rintro e w9 ⟨rfl, h9⟩; obtain ⟨c0, c1, c2, c3⟩ := HC.out _ _ h9) | (go_at_call 39; (with_reducible refine (Tl.call h9 (valid_any _ _ _ _ _)).mono ?_); rintro e w10 ⟨rfl, h10⟩))
        go_ret
        exact ⟨rfl, h10.st.below⟩

set_option maxRecDepth 100000 in
theorem lifted (os : Os) (started : os.Started) (H : Type) (enc : TypeId × Value → H) :
    ReturnsInHanded {} Try.checked os 10 .any (Rows.rectStopsSpec.pre6 enc Try.prog Try.f10 Rows.rectStopsRow.domain false) (Rows.rectStopsSpec.post enc Try.prog Try.f10 false true false false) := by
  refine returnsInHanded_of_change_sized (C := Try.checked) own started (by kernel_rfl) Try.func10
    (ChangeSpec.witness6 (enc := enc) (C := Try.checked) false ⟨#[], #[.agg #[.int .i64 0, .int .i64 0, .int .i64 0, .int .i64 0], .int .i64 0], []⟩ 8 (by kernel_rfl) (by kernel_rfl) (by kernel_rfl) (by kernel_rfl)) ?_
  intro W base args ds gs before hval0 hW _ _ _
  have hval : ∀ (j : Nat) t v, Try.f10.params[j]? = some t → args[j]? = some v → Value.okWide Try.prog W .any base t v := hval0
  have hW' := hW
  obtain ⟨p, q, hA0, hV, rfl, hfz, hnd⟩ := hW
  have hA : DataW.TrodAll enc Try.prog W 0 (fun _ => true) true Try.f10.params.toList args.toList ds p := hA0
  rw [Try.params10] at hA hval
  obtain ⟨v0, v1, d0, d1, p0, p1, rfl, rfl, rfl, h0, h1⟩ := trodAll_two hA
  obtain ⟨rfl, rfl⟩ := trodVars_none hV
  obtain ⟨r0, r1, r2, r3, rfl⟩ := agg_rect (hval 0 23 v0 rfl rfl)
  obtain ⟨n, rfl, rfl, rfl, _⟩ := open_int Try.underlying3 (hval 1 3 v1 rfl rfl) h1
  refine (walk r0 r1 r2 r3 n W).mono fun e W' ⟨he, hb⟩ => ?_
  subst he
  exact ⟨_, rfl, law_post hW' rfl (by kernel_rfl) rfl (by intro t ht; rw [Try.params10] at ht; simp at ht; rcases ht with rfl | rfl <;> exact ⟨by kernel_rfl, of_decide_eq_true (by kernel_rfl)⟩) hb⟩

theorem holds : Rows.RectStopsSaid :=
  OpenClaim.holds_of_wide 10 Try.f10 rfl rfl rfl rfl rfl rfl rfl ⟨rfl, rfl, rfl, rfl, rfl⟩ rfl rfl rfl rfl rfl (by kernel_rfl) Try.func10 (by kernel_rfl)
    (of_decide_eq_true (by kernel_rfl)) (by unfold Func.isWrapper; first | (rw [if_pos (by decide +kernel)]; kernel_rfl) | (rw [if_neg (by decide +kernel)]; exact ⟨rfl, rfl⟩))
    (fun os started H enc _ => lifted os started H enc)
end Go.Proofs.Ytjadccelplnpnaa.LStops
