/-
  CurvePowers: Gamma goes from 0 to 65535, is one for equal quotients, falls with the numerator, and is the straight curve rounded down for equal powers. No conditions.
-/
import Derived.Test.YtdpcciidnkchfaaLaw
import Derived.Test.YtdpcciidnkchfaaSane
namespace Go.Proofs.Ytdpcciidnkchfaa.LPowers
open Go.ChangeShapes Go.WideShapes Go.ChangeAt Go.RowKit

theorem gamma_x (num den n : Int) (w : World) (e : Int) (p : List Int) (he : (if gok num den n then 0 else 1) = e) (hp : (if gok num den n then gamL num.toNat den.toNat n.toNat else []) = p) : Calls Try.prog 34 #[.int .i64 num, .int .i64 den, .int .i64 n] w (GotE p e w) := he ▸ hp ▸ gamma_any num den n w
theorem refGamma_x (num den n : Int) (w : World) (e : Int) (p : List Int) (he : (if gok num den n then 0 else 1) = e) (hp : (if gok num den n then gamL num.toNat den.toNat n.toNat else []) = p) : Calls Try.prog 35 #[.int .i64 num, .int .i64 den, .int .i64 n] w (GotR p e w) := he ▸ hp ▸ refGamma_any num den n w
theorem gok_nat {a b k : Nat} (a1 : 1 ≤ a) (a2 : a ≤ 8) (b1 : 1 ≤ b) (b2 : b ≤ 8) (k1 : 2 ≤ k) (k2 : k ≤ 257) : gok a b k = true := by unfold gok; rw [(vp_iff _).2 (by omega), (vp_iff _).2 (by omega), (vc_iff _).2 (by omega)]; rfl
theorem gamma_is (a b k : Nat) (w : World) (a1 : 1 ≤ a) (a2 : a ≤ 8) (b1 : 1 ≤ b) (b2 : b ≤ 8) (k1 : 2 ≤ k) (k2 : k ≤ 257) : Calls Try.prog 34 #[.int .i64 a, .int .i64 b, .int .i64 k] w (GotE (gamL a b k) 0 w) :=
  gamma_x a b k w 0 _ (by rw [if_pos (gok_nat a1 a2 b1 b2 k1 k2)]) (by rw [if_pos (gok_nat a1 a2 b1 b2 k1 k2)]; rfl)
theorem refGamma_is (a b k : Nat) (w : World) (a1 : 1 ≤ a) (a2 : a ≤ 8) (b1 : 1 ≤ b) (b2 : b ≤ 8) (k1 : 2 ≤ k) (k2 : k ≤ 257) : Calls Try.prog 35 #[.int .i64 a, .int .i64 b, .int .i64 k] w (GotR (gamL a b k) 0 w) :=
  refGamma_x a b k w 0 _ (by rw [if_pos (gok_nat a1 a2 b1 b2 k1 k2)]) (by rw [if_pos (gok_nat a1 a2 b1 b2 k1 k2)]; rfl)
theorem gotE_row {f : FuncId} {args : Array Value} {w : World} {c : List Int} {k : Nat} (hl : c.length = k) (h1 : 1 ≤ k) (h : Calls Try.prog f args w (GotE c 0 w)) : Calls Try.prog f args w fun e w' => ∃ g off cap, e = .returned (.tuple #[.slice (some ⟨g, off, none⟩) k cap, .int .i64 0]) ∧ (k ≤ cap ∧ cap ≤ 9223372036854775807) ∧ Row w' g off c ∧ Below w.heap.size w w' := by
  refine h.mono ?_
  rintro e w' ⟨po, n, cap, rfl, hm, hb⟩
  obtain ⟨g, off, cap', heq, h2, h4, hr⟩ := hm.row (by omega)
  rw [hl] at heq h2
  cases heq
  exact ⟨g, off, _, rfl, ⟨h2, h4⟩, hr, hb⟩
theorem gotC_row {f : FuncId} {args : Array Value} {w : World} {c : List Int} {k : Nat} (hl : c.length = k) (h1 : 1 ≤ k) (h : Calls Try.prog f args w (GotC c w)) : Calls Try.prog f args w fun e w' => ∃ g off cap, e = .returned (.slice (some ⟨g, off, none⟩) k cap) ∧ (k ≤ cap ∧ cap ≤ 9223372036854775807) ∧ Row w' g off c ∧ Below w.heap.size w w' := by
  refine h.mono ?_
  rintro e w' ⟨po, n, cap, rfl, hm, hb⟩
  obtain ⟨g, off, cap', heq, h2, h4, hr⟩ := hm.row (by omega)
  rw [hl] at heq h2
  cases heq
  exact ⟨g, off, _, rfl, ⟨h2, h4⟩, hr, hb⟩
theorem gamL_len (a b k : Nat) : (gamL a b k).length = k := by unfold gamL; simp
theorem gamL_at {a b k u : Nat} (h : u < k) : cg (gamL a b k) u = ((gam a b k u : Nat) : Int) := cg_map h
theorem gamL_cv {a b k : Nat} (hb : 1 ≤ b) (h2 : 2 ≤ k) (h3 : k ≤ 257) : Cv (gamL a b k) := by
  have hl := gamL_len a b k
  refine ⟨by omega, by omega, fun i hi => ?_, fun i hi => ?_⟩
  · rw [gamL_at (by omega)]; have := gam_le a b k i; omega
  · rw [gamL_at (by omega), gamL_at (by omega)]; have h : gam a b k i ≤ gam a b k (i + 1) := gam_mono hb (Nat.le_succ i); omega
theorem gamL_twice {a b k : Nat} (hb : 1 ≤ b) : gamL (2 * a) (2 * b) k = gamL a b k := by unfold gamL; exact List.map_congr_left (fun i _ => by rw [gam_twice hb])
theorem row_cm {V : World} {g off N cap : Nat} {c : List Int} (hr : Row V g off c) (hN : c.length = N) (h1 : N ≤ cap) (h2 : cap ≤ 9223372036854775807) : Cm V (.slice (some ⟨g, off, none⟩) N cap) c := by
  subst hN
  exact ⟨_, cap, rfl, h1, h2, fun _ => ⟨g, off, rfl, hr⟩⟩
theorem gamma_2 (a b k : Nat) (w : World) (a1 : 1 ≤ a) (a2 : a ≤ 4) (b1 : 1 ≤ b) (b2 : b ≤ 4) (k1 : 2 ≤ k) (k2 : k ≤ 257) : Calls Try.prog 34 #[.int .i64 (2 * (a : Int)), .int .i64 (2 * (b : Int)), .int .i64 k] w (GotE (gamL a b k) 0 w) :=
  gamL_twice (a := a) (k := k) b1 ▸ gamma_is (2 * a) (2 * b) k w (by omega) (by omega) (by omega) (by omega) k1 k2
theorem gamma_1 (a b k : Nat) (w : World) (a1 : 1 ≤ a) (a2 : a ≤ 4) (b1 : 1 ≤ b) (b2 : b ≤ 4) (k1 : 2 ≤ k) (k2 : k ≤ 257) : Calls Try.prog 34 #[.int .i64 ((a : Int) + 1), .int .i64 b, .int .i64 k] w (GotE (gamL (a + 1) b k) 0 w) :=
  gamma_is (a + 1) b k w (by omega) (by omega) (by omega) (by omega) k1 k2

set_option maxHeartbeats 8000000 in
set_option maxRecDepth 100000 in
theorem walk (num : Int) (den : Int) (n : Int) (w : World)  : Calls Try.prog 14 #[.int .i64 num, .int .i64 den, .int .i64 n] w fun e w' => e = .returned (.bool true) ∧ Below w.heap.size w w' := by
  obtain ⟨a', qa, qa1⟩ := and2 num
  obtain ⟨a, hca, la1, la2⟩ : ∃ a : Nat, 1 + (a' : Int) = a ∧ 1 ≤ a ∧ a ≤ 4 := ⟨1 + a', by omega, by omega, by omega⟩
  obtain ⟨b', qb, qb1⟩ := and2 den
  obtain ⟨b, hcb, lb1, lb2⟩ : ∃ b : Nat, 1 + (b' : Int) = b ∧ 1 ≤ b ∧ b ≤ 4 := ⟨1 + b', by omega, by omega, by omega⟩
  obtain ⟨m, hm, hm1⟩ := and16 n
  obtain ⟨k, hk, hk2, hk3⟩ := rem40 m
  go_enter Try.func14, Try.ntmps14
  go_upto_region 2 with (go_at_call 15; (with_reducible refine (sane_any _).mono ?_); rintro e w1 ⟨rfl, hb⟩; have BW : Hid (St w [] w1) := (St.start w).later hb; clear hb)
  go_upto_region 5 with fail
  try rw [hca]
  try rw [hcb]
  try rw [hk]
  have HW : Hid (St w1 [] _) := St.start _
  go_upto_region 6 with (go_at_call 34; (with_reducible refine (gotE_row (gamL_len a b k) (by omega) (gamma_is a b k _ la1 (by omega) lb1 (by omega) hk2 (by omega))).mono ?_); rintro e wz ⟨g1, o1, c1, rfl, hcap, hr, hb⟩; obtain ⟨hx1, hy1⟩ := hcap; have K1 := Lib.hid hr; replace HW := Lib.hid (HW.out.later hb); clear hb hr)
  go_upto_region 7 with (go_at_call 34; (with_reducible refine (gamma_2 a b k _ la1 la2 lb1 lb2 hk2 (by omega)).mono ?_); rintro e wz ⟨p2, n2, c2, rfl, hm, hb⟩; have K2 := Lib.hid hm; replace K1 := Lib.hid (K1.out.later hb); replace HW := Lib.hid (HW.out.later hb); clear hb hm)
  go_upto_region 8 with (go_at_call 34; (with_reducible refine (gotE_row (gamL_len (a + 1) b k) (by omega) (gamma_1 a b k _ la1 la2 lb1 lb2 hk2 (by omega))).mono ?_); rintro e wz ⟨g3, o3, c3, rfl, hcap, hr, hb⟩; obtain ⟨hx3, hy3⟩ := hcap; have K3 := Lib.hid hr; replace K1 := Lib.hid (K1.out.later hb); replace K2 := Lib.hid (K2.out.later hb); replace HW := Lib.hid (HW.out.later hb); clear hb hr)
  go_upto_region 9 with (go_at_call 34; (with_reducible refine (gotE_row (gamL_len a a k) (by omega) (gamma_is a a k _ la1 (by omega) la1 (by omega) hk2 (by omega))).mono ?_); rintro e wz ⟨g4, o4, c4, rfl, hcap, hr, hb⟩; obtain ⟨hx4, hy4⟩ := hcap; have K4 := Lib.hid hr; replace K1 := Lib.hid (K1.out.later hb); replace K2 := Lib.hid (K2.out.later hb); replace K3 := Lib.hid (K3.out.later hb); replace HW := Lib.hid (HW.out.later hb); clear hb hr)
  have hnn : ((k : Int) != k) = false := by simp
  obtain ⟨t, ht⟩ : ∃ t : Nat, t = k - 1 := ⟨_, rfl⟩
  have ht1 : (k : Int) - 1 = t := by omega
  have ht2 : ((t : Int) == 0) = false := by simp; omega
  have ht3 : 1 ≤ t := by omega
  have ht4 : t < k := by omega
  have HT0 := Lib.hid ht; clear ht
  go_wp2_with fail
  go_loopw [16] (fun i wr => ∃ u : Nat, u ≤ k ∧ i = .int .i64 u ∧ Hid (St wz [] wr)) (fun i _ => k - (intOf i).toNat)
  case atStart => exact ⟨0, by omega, rfl, St.start _⟩
  case round =>
    obtain ⟨u, hu, rfl, HT⟩ := hrel
    by_cases hlt : u < k
    · have d1 := (K1.out.later HT.out.below).at' u (by rw [gamL_len]; exact hlt)
      have d3 := (K3.out.later HT.out.below).at' u (by rw [gamL_len]; exact hlt)
      have d4 := (K4.out.later HT.out.below).at' u (by rw [gamL_len]; exact hlt)
      rw [gamL_at hlt] at d1 d3 d4
      have f1 := gam_more (num := a) (den := b) hk2 lb1 (i := u) (by omega)
      have f2 := gam_same (num := a) hk2 la1 (i := u) (by omega)
      rw [← HT0.out] at f2
      have f1' : ((gam (a + 1) b k u : Nat) : Int) ≤ ((gam a b k u : Nat) : Int) := by omega
      have g1' := gam_le a a k u
      have f2' : (65535 * (u : Int)) / (t : Int) = ((gam a a k u : Nat) : Int) := by rw [f2]; simp
      obtain ⟨x1, hx1⟩ : ∃ x : Int, ((gam a b k u : Nat) : Int) = x := ⟨_, rfl⟩
      obtain ⟨x3, hx3⟩ : ∃ x : Int, ((gam (a + 1) b k u : Nat) : Int) = x := ⟨_, rfl⟩
      obtain ⟨x4, hx4⟩ : ∃ x : Int, ((gam a a k u : Nat) : Int) = x := ⟨_, rfl⟩
      rw [hx1] at d1 f1'
      rw [hx3] at d3 f1'
      rw [hx4] at d4 f2'
      have g1' : 0 ≤ x4 ∧ x4 ≤ 65535 := by omega
      clear hx1 hx3 hx4
      have f3 : decide (x1 < x3) = false := by simp; omega
      have f4 := f2'
      have f5 : (65535 * (u : Int)).tdiv (t : Int) = x4 := by rw [Int.tdiv_eq_ediv_of_nonneg (by omega)]; exact f4
      have f6 : (x4 != x4) = false := by simp
      have f8 : IntKind.i64.wrap x4 = x4 := IntWalk.i64_in _ (by omega)
      have f9 : wrap64 x4 = x4 := (IntWalk.i64_left _).symm.trans f8
      clear g1'
      have q1 : (0 : Int) ≤ (u : Int) := by omega
      have q2 : (u : Int) < k := by omega
      clear f1 f2 f1' f2'
      go_upto_region 14 with fail
      go_quiet (fail)
      have HT2 : Hid (St wz [] (wr.drewN nq)) := HT.out.drewN nq
      generalize wr.drewN nq = w2 at HT2 ⊢
      go_wp2_with fail
      go_roundw
      case rel => exact ⟨u + 1, by omega, by go_num, HT2⟩
      case measure => simp [intOf]; omega
    · obtain rfl : u = k := by omega
      replace HW := Lib.hid (HW.out.later HT.out.below)
      replace K1 := Lib.hid (K1.out.later HT.out.below)
      replace K2 := Lib.hid (K2.out.later HT.out.below)
      have e0 := K1.out.at' 0 (by rw [gamL_len]; omega)
      have e1 := K1.out.at' t (by rw [gamL_len]; omega)
      rw [gamL_at (by omega), gam_zero hk2 la1 lb1] at e0
      rw [gamL_at (by omega), HT0.out, gam_end lb1, ← HT0.out] at e1
      simp only [Nat.add_zero] at e0
      have e0' : wr.cell? ⟨g1, o1, none⟩ = some (.int .i64 0) := e0
      have e1' : wr.cell? ⟨g1, o1 + t, none⟩ = some (.int .i64 65535) := e1
      clear e0 e1
      have q1 : (0 : Int) ≤ (t : Int) := by omega
      have q2 : (t : Int) < u := by omega
      have q3 : (0 : Int) < u := by omega
      have q4 : 0 < u := by omega
      have KC := Lib.hid (row_cm K1.out (gamL_len a b u) hx1 hy1)
      go_wp2_with (first
    | (go_at_call 18; (with_reducible refine (valid_any _ _ true _ KC.out (by simp [gamL_cv lb1 hk2 (show u ≤ 257 by omega)])).mono ?_); rintro e wz ⟨rfl, hb⟩; replace KC := Lib.hid (KC.out.later hb); replace K2 := Lib.hid (K2.out.later hb); replace HW := Lib.hid (HW.out.later hb); clear hb)
    | (go_at_call 23; (with_reducible refine (same_lit _ _ _ _ KC.out K2.out).mono ?_); rintro e wz ⟨rfl, hb⟩; replace HW := Lib.hid (HW.out.later hb); clear hb))
      go_ret
      exact ⟨rfl, BW.out.below.trans (HW.out.below.mono BW.out.below.size)⟩

set_option maxRecDepth 100000 in
theorem lifted (os : Os) (started : os.Started) (H : Type) (enc : TypeId × Value → H) :
    ReturnsInHanded {} Try.checked os 14 .any (Rows.curvePowersSpec.pre6 enc Try.prog Try.f14 Rows.curvePowersRow.domain false) (Rows.curvePowersSpec.post enc Try.prog Try.f14 false true false false) := by
  refine returnsInHanded_of_change_sized (C := Try.checked) own started (by kernel_rfl) Try.func14
    (ChangeSpec.witness6 (enc := enc) (C := Try.checked) false ⟨#[], #[.int .i64 0, .int .i64 0, .int .i64 0], []⟩ 8 (by kernel_rfl) (by kernel_rfl) (by kernel_rfl) (by kernel_rfl)) ?_
  intro W base args ds gs before hval0 hW _ _ _
  have hval : ∀ (j : Nat) t v, Try.f14.params[j]? = some t → args[j]? = some v → Value.okWide Try.prog W .any base t v := hval0
  have hW' := hW
  obtain ⟨p, q, hA0, hV, rfl, hfz, hnd⟩ := hW
  have hA : DataW.TrodAll enc Try.prog W 0 (fun _ => true) true Try.f14.params.toList args.toList ds p := hA0
  rw [Try.params14] at hA hval
  obtain ⟨v0, v1, v2, d0, d1, d2, p0, p1, p2, rfl, rfl, rfl, h0, h1, h2⟩ := trodAll_three hA
  obtain ⟨rfl, rfl⟩ := trodVars_none hV
  obtain ⟨num, rfl, rfl, rfl, _⟩ := open_int Try.underlying3 (hval 0 3 v0 rfl rfl) h0
  obtain ⟨den, rfl, rfl, rfl, _⟩ := open_int Try.underlying3 (hval 1 3 v1 rfl rfl) h1
  obtain ⟨n, rfl, rfl, rfl, _⟩ := open_int Try.underlying3 (hval 2 3 v2 rfl rfl) h2
  refine (walk num den n W).mono fun e W' ⟨he, hb⟩ => ?_
  subst he
  exact ⟨_, rfl, law_post hW' rfl (by kernel_rfl) rfl (by intro t ht; rw [Try.params14] at ht; simp at ht; subst ht; exact ⟨by kernel_rfl, of_decide_eq_true (by kernel_rfl)⟩) hb⟩

theorem holds : Rows.CurvePowersSaid :=
  OpenClaim.holds_of_wide 14 Try.f14 rfl rfl rfl rfl rfl rfl rfl ⟨rfl, rfl, rfl, rfl, rfl⟩ rfl rfl rfl rfl rfl (by kernel_rfl) Try.func14 (by kernel_rfl)
    (of_decide_eq_true (by kernel_rfl)) (by unfold Func.isWrapper; first | (rw [if_pos (by decide +kernel)]; kernel_rfl) | (rw [if_neg (by decide +kernel)]; exact ⟨rfl, rfl⟩))
    (fun os started H enc _ => lifted os started H enc)
end Go.Proofs.Ytdpcciidnkchfaa.LPowers
