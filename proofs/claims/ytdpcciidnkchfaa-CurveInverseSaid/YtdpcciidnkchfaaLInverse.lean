/-
  CurveInverse: for all curves and counts, Inverse answers as the reference does, and is valid for a valid curve. No conditions.
-/
import Derived.Test.YtdpcciidnkchfaaLaw
import Derived.Test.YtdpcciidnkchfaaSane
namespace Go.Proofs.Ytdpcciidnkchfaa.LInverse
open Go.ChangeShapes Go.WideShapes Go.ChangeAt Go.RowKit

theorem invL_len (c : List Int) (n : Nat) : (invL c n).length = n := by unfold invL; simp
theorem invL_cv {c : List Int} (hc : Cv c) {n : Nat} (h2 : 2 ≤ n) (h3 : n ≤ 257) : Cv (invL c n) := by
  have hl := invL_len c n
  have hle : ∀ y, invAt c y ≤ 65535 := fun y => by unfold invAt; split <;> omega
  have hcg : ∀ i, i < n → cg (invL c n) i = ((invAt c (arg i n) : Nat) : Int) := fun i hi => cg_map hi
  refine ⟨by omega, by omega, fun i hi => ?_, fun i hi => ?_⟩
  · rw [hcg i (by omega)]; have := hle (arg i n); omega
  · rw [hcg i (by omega), hcg (i + 1) (by omega)]
    have hm := sol_mono hc (arg_mono h2 (Nat.le_succ i))
    have hm' : sol c (arg i n) ≤ sol c (arg (i + 1) n) := hm
    unfold invAt
    split <;> split <;> omega
theorem errc_ok {k : Nat} (h2 : 2 ≤ k) (h3 : k ≤ 257) : errc true k = 0 := by unfold errc; rw [if_pos rfl, if_pos ((vc_iff _).2 (by omega))]
theorem inverse_is (c : List Int) (v : Value) (k : Nat) (w : World) (hc : Cm w v c) (hr : Cv c) (h2 : 2 ≤ k) (h3 : k ≤ 257) : Calls Try.prog 27 #[v, .int .i64 k] w (GotE (invL c k) 0 w) := by
  have h := inverse_any c v true k w hc (by simp [hr])
  rw [errc_ok h2 h3] at h
  exact h
theorem refInverse_is (c : List Int) (v : Value) (k : Nat) (w : World) (hc : Cm w v c) (hr : Cv c) (h2 : 2 ≤ k) (h3 : k ≤ 257) : Calls Try.prog 28 #[v, .int .i64 k] w (GotR (invL c k) 0 w) := by
  have h := refInverse_any c v true k w hc (by simp [hr])
  rw [errc_ok h2 h3] at h
  exact h
theorem inverse_x (c : List Int) (v : Value) (r : Bool) (n : Int) (w : World) (e : Int) (p : List Int) (hc : Cm w v c) (hr : r = true ↔ Cv c) (he : errc r n = e) (hp : whenOk (errc r n) (invL c n.toNat) = p) : Calls Try.prog 27 #[v, .int .i64 n] w (GotE p e w) := he ▸ hp ▸ inverse_any c v r n w hc hr
theorem refInverse_x (c : List Int) (v : Value) (r : Bool) (n : Int) (w : World) (e : Int) (p : List Int) (hc : Cm w v c) (hr : r = true ↔ Cv c) (he : errc r n = e) (hp : whenOk (errc r n) (invL c n.toNat) = p) : Calls Try.prog 28 #[v, .int .i64 n] w (GotR p e w) := he ▸ hp ▸ refInverse_any c v r n w hc hr

set_option maxHeartbeats 8000000 in
set_option maxRecDepth 100000 in
theorem walk (c : List Int) (vc : Value) (l : List Int) (vl : Value) (n : Int) (w : World) (hc : Ca w vc c) (hl : Ca w vl l) : Calls Try.prog 8 #[vc, vl, .int .i64 n] w fun e w' => e = .returned (.bool true) ∧ Below w.heap.size w w' := by
  have HC := Lib.hid hc; clear hc
  have HL := Lib.hid hl; clear hl
  obtain ⟨r, hr⟩ : ∃ r : Bool, (r = true ↔ Cv (c.take 260)) := ex_cv _
  obtain ⟨m, hm, hm1⟩ := and16 n
  obtain ⟨k, hk, hk2, hk3⟩ := rem256 m
  obtain ⟨e, he⟩ : ∃ e, errc r n = e := ⟨_, rfl⟩
  obtain ⟨p, hp⟩ : ∃ p, whenOk (errc r n) (invL (c.take 260) n.toNat) = p := ⟨_, rfl⟩
  have HE := Lib.hid he; clear he
  have HP := Lib.hid hp; clear hp
  go_enter Try.func8, Try.ntmps8
  go_upto_region 2 with (go_at_call 15; (with_reducible refine (sane_any _).mono ?_); rintro e w1 ⟨rfl, hb⟩; have BW : Hid (St w [] w1) := (St.start w).later hb; clear hb)
  go_upto_region 3 with (go_at_call 16; (with_reducible refine (some_any c vc _ (HC.out.later BW.out.below)).mono ?_); rintro e wA ⟨pA, nA, cA, rfl, hm, hb⟩; have KA := Lib.hid hm; replace BW := Lib.hid (BW.out.later hb); clear hb hm)
  go_upto_region 4 with (go_at_call 17; (with_reducible refine (made_any l vl _ (HL.out.cm.later BW.out.below)).mono ?_); rintro e wB ⟨pB, nB, cB, rfl, hm, hb⟩; have KB := Lib.hid hm; replace KA := Lib.hid (KA.out.later hb); replace BW := Lib.hid (BW.out.later hb); clear hb hm)
  go_upto_region 5 with fail
  try rw [hk]
  have HW : Hid (St wB [] _) := St.start _
  go_upto_region 6 with (go_at_call 27; (with_reducible refine (inverse_x _ _ r _ _ e p (KA.out.later HW.out.below) hr HE.out HP.out).mono ?_); rintro e wz ⟨p1, n1, c1, rfl, hm, hb⟩; have K1 := Lib.hid hm; replace HW := Lib.hid (HW.out.later hb); clear hb hm)
  go_upto_region 7 with (go_at_call 28; (with_reducible refine (refInverse_x _ _ r _ _ e p (KA.out.later HW.out.below) hr HE.out HP.out).mono ?_); rintro e wz ⟨p2, n2, c2, rfl, hm, hb⟩; have K2 := Lib.hid hm; replace K1 := Lib.hid (K1.out.later hb); replace HW := Lib.hid (HW.out.later hb); clear hb hm)
  have hs := HW.out.alloc (.cells #[.slice p2 n2 c2, .int .i64 e] 43)
  clear HW
  replace K1 := Lib.hid (K1.out.later (below1 (o := .cells #[.slice p2 n2 c2, .int .i64 e] 43)))
  replace K2 := Lib.hid (K2.out.later (below1 (o := .cells #[.slice p2 n2 c2, .int .i64 e] 43)))
  generalize wz.alloc (.cells #[.slice p2 n2 c2, .int .i64 e] 43) = wv at *
  generalize wz.heap.size = b1 at *
  have HW := Lib.hid hs; clear hs
  go_upto_region 8 with (go_at_call 27; (with_reducible refine (inverse_is _ _ k _ (KB.out.later HW.out.below) (made_cv l) hk2 hk3).mono ?_); rintro e wz ⟨p3, n3, c3, rfl, hm, hb⟩; have K3 := Lib.hid hm; replace K1 := Lib.hid (K1.out.later hb); replace K2 := Lib.hid (K2.out.later hb); replace HW := Lib.hid (HW.out.later hb); clear hb hm)
  go_upto_region 9 with (go_at_call 28; (with_reducible refine (refInverse_is _ _ k _ (KB.out.later HW.out.below) (made_cv l) hk2 hk3).mono ?_); rintro e wz ⟨p4, n4, c4, rfl, hm, hb⟩; have K4 := Lib.hid hm; replace K1 := Lib.hid (K1.out.later hb); replace K2 := Lib.hid (K2.out.later hb); replace K3 := Lib.hid (K3.out.later hb); replace HW := Lib.hid (HW.out.later hb); clear hb hm)
  have hs := HW.out.alloc (.cells #[.slice p4 n4 c4, .int .i64 0] 43)
  clear HW
  replace K1 := Lib.hid (K1.out.later (below1 (o := .cells #[.slice p4 n4 c4, .int .i64 0] 43)))
  replace K2 := Lib.hid (K2.out.later (below1 (o := .cells #[.slice p4 n4 c4, .int .i64 0] 43)))
  replace K3 := Lib.hid (K3.out.later (below1 (o := .cells #[.slice p4 n4 c4, .int .i64 0] 43)))
  replace K4 := Lib.hid (K4.out.later (below1 (o := .cells #[.slice p4 n4 c4, .int .i64 0] 43)))
  generalize wz.alloc (.cells #[.slice p4 n4 c4, .int .i64 0] 43) = wv at *
  generalize wz.heap.size = b2 at *
  have HW := Lib.hid hs; clear hs
  have d10 := HW.out.cell (b := b1) (cs := #[.slice p2 n2 c2, .int .i64 e]) (t := 43) (by simp) 0; have d11 := HW.out.cell (b := b1) (cs := #[.slice p2 n2 c2, .int .i64 e]) (t := 43) (by simp) 1; have d20 := HW.out.cell (b := b2) (cs := #[.slice p4 n4 c4, .int .i64 0]) (t := 43) (by simp) 0; have d21 := HW.out.cell (b := b2) (cs := #[.slice p4 n4 c4, .int .i64 0]) (t := 43) (by simp) 1
  go_wp2_with (first
    | (go_at_call 23; (with_reducible refine (same_lit p _ _ _ K1.out K2.out).mono ?_); rintro e wz ⟨rfl, hb⟩; replace K3 := Lib.hid (K3.out.later hb); replace K4 := Lib.hid (K4.out.later hb); replace HW := Lib.hid (HW.out.later hb); clear hb; have d10 := HW.out.cell (b := b1) (cs := #[.slice p2 n2 c2, .int .i64 e]) (t := 43) (by simp) 0; have d11 := HW.out.cell (b := b1) (cs := #[.slice p2 n2 c2, .int .i64 e]) (t := 43) (by simp) 1; have d20 := HW.out.cell (b := b2) (cs := #[.slice p4 n4 c4, .int .i64 0]) (t := 43) (by simp) 0; have d21 := HW.out.cell (b := b2) (cs := #[.slice p4 n4 c4, .int .i64 0]) (t := 43) (by simp) 1)
    | (go_at_call 23; (with_reducible refine (same_lit _ _ _ _ K3.out K4.out).mono ?_); rintro e wz ⟨rfl, hb⟩; replace K3 := Lib.hid (K3.out.later hb); replace HW := Lib.hid (HW.out.later hb); clear hb)
    | (go_at_call 18; (with_reducible refine (valid_any _ _ true _ K3.out (by simp [invL_cv (made_cv l) hk2 hk3])).mono ?_); rintro e wz ⟨rfl, hb⟩; replace HW := Lib.hid (HW.out.later hb); clear hb))
  go_ret
  exact ⟨rfl, BW.out.below.trans (HW.out.below.mono BW.out.below.size)⟩

set_option maxRecDepth 100000 in
theorem lifted (os : Os) (started : os.Started) (H : Type) (enc : TypeId × Value → H) :
    ReturnsInHanded {} Try.checked os 8 .any (Rows.curveInverseSpec.pre6 enc Try.prog Try.f8 Rows.curveInverseRow.domain false) (Rows.curveInverseSpec.post enc Try.prog Try.f8 false true false false) := by
  refine returnsInHanded_of_change_sized (C := Try.checked) own started (by kernel_rfl) Try.func8
    (ChangeSpec.witness6 (enc := enc) (C := Try.checked) false ⟨#[], #[.slice none 0 0, .slice none 0 0, .int .i64 0], []⟩ 8 (by kernel_rfl) (by kernel_rfl) (by kernel_rfl) (by kernel_rfl)) ?_
  intro W base args ds gs before hval0 hW _ _ _
  have hval : ∀ (j : Nat) t v, Try.f8.params[j]? = some t → args[j]? = some v → Value.okWide Try.prog W .any base t v := hval0
  have hW' := hW
  obtain ⟨p, q, hA0, hV, rfl, hfz, hnd⟩ := hW
  have hA : DataW.TrodAll enc Try.prog W 0 (fun _ => true) true Try.f8.params.toList args.toList ds p := hA0
  rw [Try.params8] at hA hval
  obtain ⟨v0, v1, v2, d0, d1, d2, p0, p1, p2, rfl, rfl, rfl, h0, h1, h2⟩ := trodAll_three hA
  obtain ⟨rfl, rfl⟩ := trodVars_none hV
  obtain ⟨c, hc⟩ := open_ca 23 Try.underlying23 (hval 0 23 v0 rfl rfl) h0
  obtain ⟨l, hl⟩ := open_ca 22 Try.underlying22 (hval 1 22 v1 rfl rfl) h1
  obtain ⟨n, rfl, rfl, rfl, _⟩ := open_int Try.underlying3 (hval 2 3 v2 rfl rfl) h2
  refine (walk c v0 l v1 n W hc hl).mono fun e W' ⟨he, hb⟩ => ?_
  subst he
  exact ⟨_, rfl, law_post hW' rfl (by kernel_rfl) rfl (by intro t ht; rw [Try.params8] at ht; simp at ht; rcases ht with rfl | rfl | rfl <;> exact ⟨by kernel_rfl, of_decide_eq_true (by kernel_rfl)⟩) hb⟩

theorem holds : Rows.CurveInverseSaid :=
  OpenClaim.holds_of_wide 8 Try.f8 rfl rfl rfl rfl rfl rfl rfl ⟨rfl, rfl, rfl, rfl, rfl⟩ rfl rfl rfl rfl rfl (by kernel_rfl) Try.func8 (by kernel_rfl)
    (of_decide_eq_true (by kernel_rfl)) (by unfold Func.isWrapper; first | (rw [if_pos (by decide +kernel)]; kernel_rfl) | (rw [if_neg (by decide +kernel)]; exact ⟨rfl, rfl⟩))
    (fun os started H enc _ => lifted os started H enc)
end Go.Proofs.Ytdpcciidnkchfaa.LInverse
