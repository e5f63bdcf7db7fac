/-
  CurveMonotone: what At says of one curve at two arguments. No conditions.
-/
import Derived.Test.YtdpcciidnkchfaaLaw
import Derived.Test.YtdpcciidnkchfaaSane
namespace Go.Proofs.Ytdpcciidnkchfaa.LMonotone
open Go.ChangeShapes Go.WideShapes Go.ChangeAt Go.RowKit

theorem made_row (l c : List Int) (N : Nat) (v : Value) (w : World) (hv : Cm w v l) (hc : madeL l = c) (hN : c.length = N) : Calls Try.prog 17 #[v] w fun e w' => ∃ g off cap, e = .returned (.slice (some ⟨g, off, none⟩) N cap) ∧ (N ≤ cap ∧ cap ≤ 9223372036854775807) ∧ Row w' g off c ∧ Below w.heap.size w w' := by
  subst hc hN
  refine (made_any l v w hv).mono ?_
  rintro e w' ⟨po, n, cap, rfl, hm, hb⟩
  obtain ⟨g, off, cap', heq, h1, h2, hr⟩ := hm.row (by have := (made_cv l).two; omega)
  cases heq
  exact ⟨g, off, _, rfl, ⟨h1, h2⟩, hr, hb⟩
theorem row_cm {V : World} {g off N cap : Nat} {c : List Int} (hr : Row V g off c) (hN : c.length = N) (h1 : N ≤ cap ∧ cap ≤ 9223372036854775807) : Cm V (.slice (some ⟨g, off, none⟩) N cap) c := by
  subst hN
  exact ⟨_, cap, rfl, h1.1, h1.2, fun _ => ⟨g, off, rfl, hr⟩⟩
theorem idx_facts {m a t i : Nat} (ha : a ≤ 65535) (hm : m ≤ 256) (ht : m * a = t) (hi : i = t / 65535) : IntKind.i64.wrap ((m : Int) * a) = t ∧ wrap64 ((m : Int) * a) = t ∧ (t : Int).tdiv 65535 = i ∧ (t : Int) / 65535 = i ∧ i ≤ m ∧ t ≤ 16776960 := by
  have h1 : t ≤ 256 * 65535 := ht ▸ Nat.mul_le_mul hm ha
  have h2 : t ≤ m * 65535 := ht ▸ Nat.mul_le_mul (Nat.le_refl m) ha
  have h3 : (m : Int) * a = t := by rw [← ht]; simp
  have h4 : IntKind.i64.wrap ((m : Int) * a) = t := by rw [h3]; exact IntWalk.i64_in _ (by omega)
  have h5 : (t : Int) / 65535 = i := by omega
  refine ⟨h4, (IntWalk.i64_left _).symm.trans h4, ?_, h5, by omega, by omega⟩
  rw [Int.tdiv_eq_ediv_of_nonneg (by omega)]
  exact h5
theorem mono_facts {c : List Int} (hc : Cv c) {N : Nat} (hN : c.length = N) {a b lo hi i j m : Nat} (ha : a ≤ 65535) (hb : b ≤ 65535) (hlo : lo = min a b) (hhi : hi = max a b) (hm : m = N - 1) (hi' : i = m * a / 65535) (hj : j = min (i + 1) m) :
    atv true c lo ≤ atv true c hi ∧ cg c i ≤ atv true c a ∧ atv true c a ≤ cg c j ∧ atv true c 0 = cg c 0 ∧ atv true c 65535 = cg c m ∧ atv true c (-1 - (a : Int)) = cg c 0 ∧ atv true c (65536 + (a : Int)) = cg c m := by
  subst hN hlo hhi hm hi' hj
  have a0 : atv true c 0 = cg c 0 := (at_val (c := c) (x := 0) (by omega)).trans val_zero
  have a1 : atv true c 65535 = cg c (c.length - 1) := (at_val (c := c) (x := 65535) (by omega)).trans val_end
  refine ⟨?_, ?_, ?_, a0, a1, ?_, ?_⟩
  · rw [at_val (by omega), at_val (by omega)]; exact val_mono hc (by omega) (by omega)
  · rw [at_val ha]; exact val_low hc ha
  · rw [at_val ha]; exact val_high hc ha
  · rw [← a0]; unfold atv; rw [if_pos rfl, if_pos rfl, clp_low (by omega), clp_low (Int.le_refl 0)]
  · rw [← a1]; unfold atv; rw [if_pos rfl, if_pos rfl, clp_high (by omega), clp_high (Int.le_refl 65535)]

set_option maxHeartbeats 8000000 in
set_option maxRecDepth 100000 in
theorem walk (l : List Int) (vl : Value) (x : Int) (y : Int) (w : World) (hl : Ca w vl l) : Calls Try.prog 4 #[vl, .int .i64 x, .int .i64 y] w fun e w' => e = .returned (.bool true) ∧ Below w.heap.size w w' := by
  have HL := Lib.hid hl; clear hl
  obtain ⟨a, qa, qa1⟩ := and16 x
  obtain ⟨b, qb, qb1⟩ := and16 y
  obtain ⟨c, hc⟩ : ∃ c, madeL l = c := ⟨_, rfl⟩
  have hv : Cv c := hc ▸ made_cv l
  obtain ⟨N, hN⟩ : ∃ N, c.length = N := ⟨_, rfl⟩
  have hN2 : 2 ≤ N := hN ▸ hv.two
  have hN3 : N ≤ 257 := hN ▸ hv.max
  obtain ⟨m, hm⟩ : ∃ m, m = N - 1 := ⟨_, rfl⟩
  obtain ⟨t, ht⟩ : ∃ t, m * a = t := ⟨_, rfl⟩
  obtain ⟨i, hi⟩ : ∃ i, i = t / 65535 := ⟨_, rfl⟩
  obtain ⟨hw1, hw2, hw3, hw4, him, ht1⟩ := idx_facts qa1 (by omega) ht hi
  obtain ⟨j, hj⟩ : ∃ j, j = min (i + 1) m := ⟨_, rfl⟩
  obtain ⟨lo, hlo⟩ : ∃ k, k = min a b := ⟨_, rfl⟩
  obtain ⟨hi', hhi⟩ : ∃ k, k = max a b := ⟨_, rfl⟩
  obtain ⟨f1, f2, f3, f4, f5, f6, f7⟩ := mono_facts hv hN qa1 qb1 hlo hhi hm (by rw [ht]; exact hi) hj
  have r1 : ∀ (ts : Array TypeId) (t : TypeId) (w : World), (Builtin.min_ ts t #[.int .i64 (a : Nat), .int .i64 (b : Nat)]).run Try.prog w = .ok (.int .i64 (lo : Nat)) w := fun ts t w => by
    have e : (lo : Int) = if (b : Int) < a then (b : Int) else (a : Int) := by split <;> omega
    rw [e]; simp only [run_min_int2]
  have r2 : ∀ (ts : Array TypeId) (t : TypeId) (w : World), (Builtin.max_ ts t #[.int .i64 (a : Nat), .int .i64 (b : Nat)]).run Try.prog w = .ok (.int .i64 (hi' : Nat)) w := fun ts t w => by
    have e : (hi' : Int) = if (a : Int) < b then (b : Int) else (a : Int) := by split <;> omega
    rw [e]; simp only [run_max_int2]
  have r3 : ∀ (ts : Array TypeId) (t : TypeId) (w : World), (Builtin.min_ ts t #[.int .i64 ((i : Nat) + 1), .int .i64 (m : Nat)]).run Try.prog w = .ok (.int .i64 (j : Nat)) w := fun ts t w => by
    have e : (j : Int) = if (m : Int) < (i : Int) + 1 then (m : Int) else (i : Int) + 1 := by split <;> omega
    rw [e]; simp only [run_min_int2]
  have hjm : j ≤ m := by omega
  have hmN : (N : Int) - 1 = m := by omega
  have hmN2 : m < N := by omega
  clear hlo hhi hj hi ht hm
  have b1 : (0 : Int) ≤ (i : Int) := by omega
  have b2 : (i : Int) < N := by omega
  have b3 : (0 : Int) ≤ (j : Int) := by omega
  have b4 : (j : Int) < N := by omega
  have b5 : (0 : Int) ≤ (m : Int) := by omega
  have b6 : (m : Int) < N := by omega
  have b7 : (0 : Int) < N := by omega
  have b0 : 0 < N := by omega
  have b8 : IntKind.i64.wrap ((i : Int) + 1) = (i : Int) + 1 := IntWalk.i64_in _ (by omega)
  have b9 : IntKind.i64.wrap (-1 - (a : Int)) = -1 - (a : Int) := IntWalk.i64_in _ (by omega)
  have b10 : IntKind.i64.wrap (65536 + (a : Int)) = 65536 + (a : Int) := IntWalk.i64_in _ (by omega)
  obtain ⟨ci, hci⟩ : ∃ z, cg c i = z := ⟨_, rfl⟩
  obtain ⟨cj, hcj⟩ : ∃ z, cg c j = z := ⟨_, rfl⟩
  obtain ⟨c0, hc0⟩ : ∃ z, cg c 0 = z := ⟨_, rfl⟩
  obtain ⟨cm, hcm⟩ : ∃ z, cg c m = z := ⟨_, rfl⟩
  obtain ⟨p, hp⟩ : ∃ p, atv true c lo = p := ⟨_, rfl⟩
  obtain ⟨q, hq⟩ : ∃ q, atv true c hi' = q := ⟨_, rfl⟩
  rw [hci] at f2
  rw [hcj] at f3
  rw [hc0] at f4 f6
  rw [hcm] at f5 f7
  obtain ⟨v, hv'⟩ : ∃ v, atv true c a = v := ⟨_, rfl⟩
  rw [hp, hq] at f1
  rw [hv'] at f2 f3
  have HC := Lib.hid hc; clear hc
  have HV := Lib.hid hv; clear hv
  have HN := Lib.hid hN; clear hN
  have HCI := Lib.hid hci; clear hci
  have HCJ := Lib.hid hcj; clear hcj
  have HC0 := Lib.hid hc0; clear hc0
  have HCM := Lib.hid hcm; clear hcm
  have HP := Lib.hid hp; clear hp
  have HQ := Lib.hid hq; clear hq
  have HF4 := Lib.hid f4; clear f4
  have HF5 := Lib.hid f5; clear f5
  have HF6 := Lib.hid f6; clear f6
  have HF7 := Lib.hid f7; clear f7
  have HV' := Lib.hid hv'; clear hv'
  go_enter Try.func4, Try.ntmps4
  go_upto_region 2 with (go_at_call 15; (with_reducible refine (sane_any _).mono ?_); rintro e w1 ⟨rfl, hb⟩; have BW : Hid (St w [] w1) := (St.start w).later hb; clear hb)
  go_upto_region 3 with (go_at_call 17; (with_reducible refine (made_row l c N vl _ (HL.out.cm.later BW.out.below) HC.out HN.out).mono ?_); rintro e wB ⟨g, off, cap, rfl, hcap, hrow, hb⟩; have KR := Lib.hid hrow; replace BW := Lib.hid (BW.out.later hb); clear hb hrow)
  obtain ⟨hcap1, hcap2⟩ := hcap
  have HW : Hid (St wB [] _) := St.start _
  have KC : Hid (∀ V, Below wB.heap.size wB V → Cm V (.slice (some ⟨g, off, none⟩) N cap) c) := fun V hV => row_cm (KR.out.later hV) HN.out ⟨hcap1, hcap2⟩
  have HA : Hid (∀ V x z, St wB [] V → atv true c x = z → Calls Try.prog 20 #[.slice (some ⟨g, off, none⟩) N cap, .int .i64 x] V fun e w' => e = .returned (.int .i64 z) ∧ St wB [] w') := fun V x z hV hz => St.call hV (at_is c _ true x z V (KC.out V hV.below) (by simp [HV.out]) hz)
  go_upto_region 5 with fail
  have h4 := HW.out
  go_upto_region 6 with (go_at_call 20; (with_reducible refine (HA.out _ _ _ ?_ HP.out).mono ?_); (focus assumption); rintro e w4 ⟨rfl, h4⟩)
  go_upto_region 7 with (go_at_call 20; (with_reducible refine (HA.out _ _ _ ?_ HQ.out).mono ?_); (focus assumption); rintro e w4 ⟨rfl, h4⟩)
  go_upto_region 9 with fail
  go_upto_region 10 with (go_at_call 20; (with_reducible refine (HA.out _ _ _ ?_ HV'.out).mono ?_); (focus assumption); rintro e w4 ⟨rfl, h4⟩)
  have HJ : Hid (∀ V, St wB [] V → St wB [] V ∧ (V.cell? ⟨g, off + i, none⟩ = some (.int .i64 ci) ∧ V.cell? ⟨g, off + j, none⟩ = some (.int .i64 cj) ∧ V.cell? ⟨g, off, none⟩ = some (.int .i64 c0) ∧ V.cell? ⟨g, off + m, none⟩ = some (.int .i64 cm))) := fun V h => ⟨h, HCI.out ▸ (KR.out.later h.below).at' i (by have := HN.out; omega), HCJ.out ▸ (KR.out.later h.below).at' j (by have := HN.out; omega), HC0.out ▸ (KR.out.later h.below).at' 0 (by have := HN.out; omega), HCM.out ▸ (KR.out.later h.below).at' m (by have := HN.out; omega)⟩
  have hd := h4.drew
  clear HP HQ HV'
  go_region_held3 (fun V => St wB [] V ∧ (V.cell? ⟨g, off + i, none⟩ = some (.int .i64 ci) ∧ V.cell? ⟨g, off + j, none⟩ = some (.int .i64 cj) ∧ V.cell? ⟨g, off, none⟩ = some (.int .i64 c0) ∧ V.cell? ⟨g, off + m, none⟩ = some (.int .i64 cm))) ((refine HJ.out _ ?_; assumption)) (first
    | (go_at_call 20; (with_reducible refine (HA.out _ _ _ ?_ HF4.out).mono ?_); (focus assumption); rintro e w4 ⟨rfl, h4⟩)
    | (go_at_call 20; (with_reducible refine (HA.out _ _ _ ?_ HF5.out).mono ?_); (focus assumption); rintro e w4 ⟨rfl, h4⟩)
    | (go_at_call 20; (with_reducible refine (HA.out _ _ _ ?_ HF6.out).mono ?_); (focus assumption); rintro e w4 ⟨rfl, h4⟩)
    | (go_at_call 20; (with_reducible refine (HA.out _ _ _ ?_ HF7.out).mono ?_); (focus assumption); rintro e w4 ⟨rfl, h4⟩))
  all_goals go_wp2_with fail
  all_goals go_ret
  all_goals exact ⟨rfl, BW.out.below.trans (h4.below.mono BW.out.below.size)⟩

set_option maxRecDepth 100000 in
theorem lifted (os : Os) (started : os.Started) (H : Type) (enc : TypeId × Value → H) :
    ReturnsInHanded {} Try.checked os 4 .any (Rows.curveMonotoneSpec.pre6 enc Try.prog Try.f4 Rows.curveMonotoneRow.domain false) (Rows.curveMonotoneSpec.post enc Try.prog Try.f4 false true false false) := by
  refine returnsInHanded_of_change_sized (C := Try.checked) own started (by kernel_rfl) Try.func4
    (ChangeSpec.witness6 (enc := enc) (C := Try.checked) false ⟨#[], #[.slice none 0 0, .int .i64 0, .int .i64 0], []⟩ 8 (by kernel_rfl) (by kernel_rfl) (by kernel_rfl) (by kernel_rfl)) ?_
  intro W base args ds gs before hval0 hW _ _ _
  have hval : ∀ (j : Nat) t v, Try.f4.params[j]? = some t → args[j]? = some v → Value.okWide Try.prog W .any base t v := hval0
  have hW' := hW
  obtain ⟨p, q, hA0, hV, rfl, hfz, hnd⟩ := hW
  have hA : DataW.TrodAll enc Try.prog W 0 (fun _ => true) true Try.f4.params.toList args.toList ds p := hA0
  rw [Try.params4] at hA hval
  obtain ⟨v0, v1, v2, d0, d1, d2, p0, p1, p2, rfl, rfl, rfl, h0, h1, h2⟩ := trodAll_three hA
  obtain ⟨rfl, rfl⟩ := trodVars_none hV
  obtain ⟨l, hl⟩ := open_ca 22 Try.underlying22 (hval 0 22 v0 rfl rfl) h0
  obtain ⟨x, rfl, rfl, rfl, _⟩ := open_int Try.underlying3 (hval 1 3 v1 rfl rfl) h1
  obtain ⟨y, rfl, rfl, rfl, _⟩ := open_int Try.underlying3 (hval 2 3 v2 rfl rfl) h2
  refine (walk l v0 x y W hl).mono fun e W' ⟨he, hb⟩ => ?_
  subst he
  exact ⟨_, rfl, law_post hW' rfl (by kernel_rfl) rfl (by intro t ht; rw [Try.params4] at ht; simp at ht; rcases ht with rfl | rfl <;> exact ⟨by kernel_rfl, of_decide_eq_true (by kernel_rfl)⟩) hb⟩

theorem holds : Rows.CurveMonotoneSaid :=
  OpenClaim.holds_of_wide 4 Try.f4 rfl rfl rfl rfl rfl rfl rfl ⟨rfl, rfl, rfl, rfl, rfl⟩ rfl rfl rfl rfl rfl (by kernel_rfl) Try.func4 (by kernel_rfl)
    (of_decide_eq_true (by kernel_rfl)) (by unfold Func.isWrapper; first | (rw [if_pos (by decide +kernel)]; kernel_rfl) | (rw [if_neg (by decide +kernel)]; exact ⟨rfl, rfl⟩))
    (fun os started H enc _ => lifted os started H enc)
end Go.Proofs.Ytdpcciidnkchfaa.LMonotone
