/-
  CurveThen: for all curves and counts, Then answers as the reference does, is valid for valid curves, and after the straight curve is the second one at the counts' arguments. No conditions.
-/
import Derived.Test.YtdpcciidnkchfaaLaw
import Derived.Test.YtdpcciidnkchfaaSane
namespace Go.Proofs.Ytdpcciidnkchfaa.LThen
open Go.ChangeShapes Go.WideShapes Go.ChangeAt Go.RowKit

theorem made_row (l c : List Int) (N : Nat) (v : Value) (w : World) (hv : Cm w v l) (hc : madeL l = c) (hN : c.length = N) : Calls Try.prog 17 #[v] w fun e w' => ∃ g off cap, e = .returned (.slice (some ⟨g, off, none⟩) N cap) ∧ (N ≤ cap ∧ cap ≤ 9223372036854775807) ∧ Row w' g off c ∧ Below w.heap.size w w' := by
  subst hc hN
  refine (made_any l v w hv).mono ?_
  rintro e w' ⟨po, n, cap, rfl, hm, hb⟩
  obtain ⟨g, off, cap', heq, h1, h2, hr⟩ := hm.row (by have := (made_cv l).two; omega)
  cases heq
  exact ⟨g, off, _, rfl, ⟨h1, h2⟩, hr, hb⟩
theorem row_cm {V : World} {g off N cap : Nat} {c : List Int} (hr : Row V g off c) (hN : c.length = N) (h1 : N ≤ cap ∧ cap ≤ 9223372036854775807) : Cm V (.slice (some ⟨g, off, none⟩) N cap) c := by
  subst hN
  exact ⟨_, cap, rfl, h1.1, h1.2, fun _ => ⟨g, off, rfl, hr⟩⟩
theorem val_id {x : Nat} (hx : x ≤ 65535) : val [0, 65535] x = x := by
  by_cases h : x = 65535
  · subst h; decide
  · have h0 : (1 * x) / 65535 = 0 := by omega
    have hm : (1 * x) % 65535 = x := by omega
    unfold val cn
    simp only [List.length_cons, List.length_nil, Nat.zero_add, Nat.add_sub_cancel, h0, hm]
    simp [cg]
    omega
theorem thnL_len (a b : List Int) (n : Nat) : (thnL a b n).length = n := by unfold thnL; simp
theorem thnL_at {a b : List Int} {n i : Nat} (h : i < n) : cg (thnL a b n) i = val b (val a (argN i n)).toNat := cg_map h
theorem thnL_cv {a b : List Int} (ha : Cv a) (hb : Cv b) {n : Nat} (h2 : 2 ≤ n) (h3 : n ≤ 257) : Cv (thnL a b n) := by
  have hl := thnL_len a b n
  have hr : ∀ i, i < n → 0 ≤ val a (argN i n) ∧ val a (argN i n) ≤ 65535 := fun i hi => val_rng ha (argN_eq h2 hi).2
  refine ⟨by omega, by omega, fun i hi => ?_, fun i hi => ?_⟩
  · rw [thnL_at (by omega)]
    have := hr i (by omega)
    exact val_rng hb (by omega)
  · rw [thnL_at (by omega), thnL_at (by omega)]
    have h0 := hr i (by omega)
    have h1 := hr (i + 1) (by omega)
    have e0 := argN_eq h2 (i := i) (by omega)
    have e1 := argN_eq h2 (i := i + 1) (by omega)
    have hm := arg_mono h2 (Nat.le_succ i)
    have hm' : arg i n ≤ arg (i + 1) n := hm
    have hv := val_mono ha (x := argN i n) (y := argN (i + 1) n) (by omega) (by omega)
    exact val_mono hb (by omega) (by omega)
theorem errc_ok {k : Nat} (h2 : 2 ≤ k) (h3 : k ≤ 257) : errc true k = 0 := by unfold errc; rw [if_pos rfl, if_pos ((vc_iff _).2 (by omega))]
theorem then_x (a b : List Int) (u v : Value) (r s : Bool) (n : Int) (w : World) (e : Int) (p : List Int) (ha : Cm w u a) (hb : Cm w v b) (hr : r = true ↔ Cv a) (hs : s = true ↔ Cv b) (he : errc (r && s) n = e) (hp : whenOk (errc (r && s) n) (thnL a b n.toNat) = p) : Calls Try.prog 29 #[u, v, .int .i64 n] w (GotE p e w) := he ▸ hp ▸ then_any a b u v r s n w ha hb hr hs
theorem refThen_x (a b : List Int) (u v : Value) (r s : Bool) (n : Int) (w : World) (e : Int) (p : List Int) (ha : Cm w u a) (hb : Cm w v b) (hr : r = true ↔ Cv a) (hs : s = true ↔ Cv b) (he : errc (r && s) n = e) (hp : whenOk (errc (r && s) n) (thnL a b n.toNat) = p) : Calls Try.prog 30 #[u, v, .int .i64 n] w (GotR p e w) := he ▸ hp ▸ refThen_any a b u v r s n w ha hb hr hs
theorem then_is (a b : List Int) (u v : Value) (k : Nat) (w : World) (ha : Cm w u a) (hb : Cm w v b) (hr : Cv a) (hs : Cv b) (h2 : 2 ≤ k) (h3 : k ≤ 257) : Calls Try.prog 29 #[u, v, .int .i64 k] w (GotE (thnL a b k) 0 w) := by
  have h := then_any a b u v true true k w ha hb (by simp [hr]) (by simp [hs])
  rw [Bool.and_true, errc_ok h2 h3] at h
  exact h
theorem refThen_is (a b : List Int) (u v : Value) (k : Nat) (w : World) (ha : Cm w u a) (hb : Cm w v b) (hr : Cv a) (hs : Cv b) (h2 : 2 ≤ k) (h3 : k ≤ 257) : Calls Try.prog 30 #[u, v, .int .i64 k] w (GotR (thnL a b k) 0 w) := by
  have h := refThen_any a b u v true true k w ha hb (by simp [hr]) (by simp [hs])
  rw [Bool.and_true, errc_ok h2 h3] at h
  exact h
theorem then_row (a b : List Int) (u v : Value) (k : Nat) (w : World) (ha : Cm w u a) (hb : Cm w v b) (hr : Cv a) (hs : Cv b) (h2 : 2 ≤ k) (h3 : k ≤ 257) : Calls Try.prog 29 #[u, v, .int .i64 k] w fun e w' => ∃ g off cap, e = .returned (.tuple #[.slice (some ⟨g, off, none⟩) k cap, .int .i64 0]) ∧ (k ≤ cap ∧ cap ≤ 9223372036854775807) ∧ Row w' g off (thnL a b k) ∧ Below w.heap.size w w' := by
  have hl := thnL_len a b k
  refine (then_is a b u v k w ha hb hr hs h2 h3).mono ?_
  rintro e w' ⟨po, n, cap, rfl, hm, hb⟩
  obtain ⟨g, off, cap', heq, h1, h4, hr⟩ := hm.row (by omega)
  rw [hl] at heq h1
  cases heq
  exact ⟨g, off, _, rfl, ⟨h1, h4⟩, hr, hb⟩

set_option maxHeartbeats 8000000 in
set_option maxRecDepth 100000 in
theorem walk (ca : List Int) (vca : Value) (cb : List Int) (vcb : Value) (l0 : List Int) (vl0 : Value) (l1 : List Int) (vl1 : Value) (n : Int) (w : World) (hca : Ca w vca ca) (hcb : Ca w vcb cb) (hl0 : Ca w vl0 l0) (hl1 : Ca w vl1 l1) : Calls Try.prog 10 #[.agg #[vca, vcb], .agg #[vl0, vl1], .int .i64 n] w fun e w' => e = .returned (.bool true) ∧ Below w.heap.size w w' := by
  have HCA := Lib.hid hca; clear hca
  have HCB := Lib.hid hcb; clear hcb
  have HL0 := Lib.hid hl0; clear hl0
  have HL1 := Lib.hid hl1; clear hl1
  obtain ⟨r, hr⟩ : ∃ r : Bool, (r = true ↔ Cv (ca.take 260)) := ex_cv _
  obtain ⟨s, hs⟩ : ∃ r : Bool, (r = true ↔ Cv (cb.take 260)) := ex_cv _
  obtain ⟨m, hm, hm1⟩ := and16 n
  obtain ⟨k, hk, hk2, hk3⟩ := rem256 m
  obtain ⟨e, he⟩ : ∃ e, errc (r && s) n = e := ⟨_, rfl⟩
  obtain ⟨p, hp⟩ : ∃ p, whenOk (errc (r && s) n) (thnL (ca.take 260) (cb.take 260) n.toNat) = p := ⟨_, rfl⟩
  obtain ⟨P, hP⟩ : ∃ c, madeL l0 = c := ⟨_, rfl⟩
  have hv : Cv P := hP ▸ made_cv l0
  obtain ⟨N, hN⟩ : ∃ N, P.length = N := ⟨_, rfl⟩
  have hN2 : 2 ≤ N := hN ▸ hv.two
  have hN3 : N ≤ 257 := hN ▸ hv.max
  have HE := Lib.hid he; clear he
  have HP := Lib.hid hp; clear hp
  have HP' := Lib.hid hP; clear hP
  have HN := Lib.hid hN; clear hN
  have HR := Lib.hid hr; clear hr
  have HS := Lib.hid hs; clear hs
  have HV := Lib.hid hv; clear hv
  go_enter Try.func10, Try.ntmps10
  go_upto_region 1 with fail
  have h0 := ((St.start w).alloc (.cells #[vca, vcb] 46)).alloc (.cells #[vl0, vl1] 47)
  rw [World.size_alloc] at h0
  generalize (w.alloc (.cells #[vca, vcb] 46)).alloc (.cells #[vl0, vl1] 47) = w0 at h0 ⊢
  have BW := Lib.hid h0; clear h0
  go_upto_region 2 with (go_at_call 15; (with_reducible refine (sane_any _).mono ?_); rintro e w1 ⟨rfl, hb⟩; replace BW := Lib.hid (BW.out.later hb); clear hb)
  have d0 := BW.out.cell (b := w.heap.size) (cs := #[vca, vcb]) (t := 46) (by simp) 0
  simp only [cell_at0] at d0
  go_upto_region 3 with (go_at_call 16; (with_reducible refine (some_any ca vca _ (HCA.out.later BW.out.below)).mono ?_); rintro e wA ⟨pA, nA, cA, rfl, hm, hb⟩; have KA := Lib.hid hm; replace BW := Lib.hid (BW.out.later hb); clear hb hm)
  have d0 := BW.out.cell (b := w.heap.size) (cs := #[vca, vcb]) (t := 46) (by simp) 1
  simp only [cell_at1] at d0
  go_upto_region 4 with (go_at_call 16; (with_reducible refine (some_any cb vcb _ (HCB.out.later BW.out.below)).mono ?_); rintro e wB ⟨pB, nB, cB, rfl, hm, hb⟩; have KB := Lib.hid hm; replace KA := Lib.hid (KA.out.later hb); replace BW := Lib.hid (BW.out.later hb); clear hb hm)
  have d0 := BW.out.cell (b := (w.heap.size + 1)) (cs := #[vl0, vl1]) (t := 47) (by simp) 0
  simp only [cell_at0] at d0
  go_upto_region 5 with (go_at_call 17; (with_reducible refine (made_row l0 P N vl0 _ (HL0.out.cm.later BW.out.below) HP'.out HN.out).mono ?_); rintro e wP ⟨g, off, cap, rfl, hcap, hrow, hb⟩; have KP := Lib.hid (row_cm hrow HN.out hcap); replace KA := Lib.hid (KA.out.later hb); replace KB := Lib.hid (KB.out.later hb); replace BW := Lib.hid (BW.out.later hb); clear hb hrow)
  obtain ⟨hcap1, hcap2⟩ := hcap
  have d0 := BW.out.cell (b := (w.heap.size + 1)) (cs := #[vl0, vl1]) (t := 47) (by simp) 1
  simp only [cell_at1] at d0
  go_upto_region 6 with (go_at_call 17; (with_reducible refine (made_any l1 vl1 _ (HL1.out.cm.later BW.out.below)).mono ?_); rintro e wQ ⟨pQ, nQ, cQ, rfl, hm, hb⟩; have KQ := Lib.hid hm; replace KA := Lib.hid (KA.out.later hb); replace KB := Lib.hid (KB.out.later hb); replace KP := Lib.hid (KP.out.later hb); replace BW := Lib.hid (BW.out.later hb); clear hb hm)
  have HW : Hid (St wQ [] _) := St.start _
  go_upto_region 7 with fail
  try rw [hk]
  go_upto_region 8 with (go_at_call 29; (with_reducible refine (then_x _ _ _ _ r s _ _ e p (KA.out.later HW.out.below) (KB.out.later HW.out.below) HR.out HS.out HE.out HP.out).mono ?_); rintro e wz ⟨p1, n1, c1, rfl, hm, hb⟩; have K1 := Lib.hid hm; replace HW := Lib.hid (HW.out.later hb); clear hb hm)
  go_upto_region 9 with (go_at_call 30; (with_reducible refine (refThen_x _ _ _ _ r s _ _ e p (KA.out.later HW.out.below) (KB.out.later HW.out.below) HR.out HS.out HE.out HP.out).mono ?_); rintro e wz ⟨p2, n2, c2, rfl, hm, hb⟩; have K2 := Lib.hid hm; replace K1 := Lib.hid (K1.out.later hb); replace HW := Lib.hid (HW.out.later hb); clear hb hm)
  have hB1 := HW.out.below.size
  have hs := HW.out.alloc (.cells #[.slice p2 n2 c2, .int .i64 e] 43)
  clear HW
  replace K1 := Lib.hid (K1.out.later (below1 (o := .cells #[.slice p2 n2 c2, .int .i64 e] 43)))
  replace K2 := Lib.hid (K2.out.later (below1 (o := .cells #[.slice p2 n2 c2, .int .i64 e] 43)))
  generalize wz.alloc (.cells #[.slice p2 n2 c2, .int .i64 e] 43) = wv at *
  generalize wz.heap.size = b1 at *
  have HW := Lib.hid hs; clear hs
  go_upto_region 10 with (go_at_call 29; (with_reducible refine (then_is _ _ _ _ k _ (KP.out.later HW.out.below) (KQ.out.later HW.out.below) HV.out (made_cv l1) hk2 hk3).mono ?_); rintro e wz ⟨p3, n3, c3, rfl, hm, hb⟩; have K3 := Lib.hid hm; replace K1 := Lib.hid (K1.out.later hb); replace K2 := Lib.hid (K2.out.later hb); replace HW := Lib.hid (HW.out.later hb); clear hb hm)
  go_upto_region 11 with (go_at_call 30; (with_reducible refine (refThen_is _ _ _ _ k _ (KP.out.later HW.out.below) (KQ.out.later HW.out.below) HV.out (made_cv l1) hk2 hk3).mono ?_); rintro e wz ⟨p4, n4, c4, rfl, hm, hb⟩; have K4 := Lib.hid hm; replace K1 := Lib.hid (K1.out.later hb); replace K2 := Lib.hid (K2.out.later hb); replace K3 := Lib.hid (K3.out.later hb); replace HW := Lib.hid (HW.out.later hb); clear hb hm)
  have hB2 := HW.out.below.size
  have hs := HW.out.alloc (.cells #[.slice p4 n4 c4, .int .i64 0] 43)
  clear HW
  replace K1 := Lib.hid (K1.out.later (below1 (o := .cells #[.slice p4 n4 c4, .int .i64 0] 43)))
  replace K2 := Lib.hid (K2.out.later (below1 (o := .cells #[.slice p4 n4 c4, .int .i64 0] 43)))
  replace K3 := Lib.hid (K3.out.later (below1 (o := .cells #[.slice p4 n4 c4, .int .i64 0] 43)))
  replace K4 := Lib.hid (K4.out.later (below1 (o := .cells #[.slice p4 n4 c4, .int .i64 0] 43)))
  generalize wz.alloc (.cells #[.slice p4 n4 c4, .int .i64 0] 43) = wv at *
  generalize wz.heap.size = b2 at *
  have HW := Lib.hid hs; clear hs
  have KP2 := Lib.hid (KP.out.later HW.out.below)
  go_upto_region 12 with (go_at_call 29; (with_reducible refine (then_row _ _ _ _ N _ (cm_two _ _ _) (KP2.out.later below1) cv1 HV.out hN2 hN3).mono ?_); rintro e wz ⟨g5, off5, cap5, rfl, hcap5, hr5, hb0⟩; have hb := below_lit (Below.refl _ _) (Nat.le_refl _) hb0; have KR := Lib.hid hr5; have hcp := Lib.hid hcap5; replace K1 := Lib.hid (K1.out.later hb); replace K2 := Lib.hid (K2.out.later hb); replace K3 := Lib.hid (K3.out.later hb); replace K4 := Lib.hid (K4.out.later hb); replace KP2 := Lib.hid (KP2.out.later hb); replace HW := Lib.hid (HW.out.later hb); clear hb hb0 hr5 hcap5)
  obtain ⟨hcap51, hcap52⟩ := hcp.out
  have hnn : ((N : Int) != N) = false := by simp
  have HZ : Hid (∀ u, u < N → atv true P (arg u N) = cg (thnL [0, 65535] P N) u) := fun u hu => by
    have he := argN_eq hN2 hu
    rw [thnL_at hu, val_id he.2, ← he.1, at_val he.2]; simp
  have HTl : Hid ((thnL [0, 65535] P N).length = N) := thnL_len _ _ _
  go_wp2_with fail
  go_loopw [21] (fun i wr => ∃ u : Nat, u ≤ N ∧ i = .int .i64 u ∧ Hid (St wz [] wr)) (fun i _ => N - (intOf i).toNat)
  case atStart => exact ⟨0, by omega, rfl, St.start _⟩
  case round =>
    obtain ⟨u, hu, rfl, HT⟩ := hrel
    by_cases hlt : u < N
    · obtain ⟨y, hy⟩ : ∃ y, arg u N = y := ⟨_, rfl⟩
      obtain ⟨z, hz⟩ : ∃ z, cg (thnL [0, 65535] P N) u = z := ⟨_, rfl⟩
      have HZu := Lib.hid (HZ.out u hlt)
      rw [hy, hz] at HZu
      have HJ : Hid (∀ V, St wz [] V → St wz [] V ∧ V.cell? ⟨g5, off5 + u, none⟩ = some (.int .i64 z)) := fun V h => ⟨h, hz ▸ (KR.out.later h.below).at' u (by have := HTl.out; omega)⟩
      have HArg : Hid (∀ V, St wz [] V → Calls Try.prog 31 #[.int .i64 u, .int .i64 N] V fun e w' => e = .returned (.int .i64 y) ∧ St wz [] w') := fun V h => (arg_any u N V hN2 hN3 (by omega)).mono (fun e w' ⟨h1, h2⟩ => ⟨hy ▸ h1, h2 ▸ h⟩)
      have HA : Hid (∀ V, St wz [] V → Calls Try.prog 20 #[.slice (some ⟨g, off, none⟩) N cap, .int .i64 y] V fun e w' => e = .returned (.int .i64 z) ∧ St wz [] w') := fun V hV => St.call hV (at_is P _ true y z V (KP2.out.later hV.below) (by simp [HV.out]) HZu.out)
      clear HZ hy hz HZu
      have q1 : (0 : Int) ≤ (u : Int) := by omega
      have q2 : (u : Int) < N := by omega
      go_upto_region 17 with fail
      have hd := HT.out.drew
      go_region_held3 (fun V => St wz [] V ∧ V.cell? ⟨g5, off5 + u, none⟩ = some (.int .i64 z)) ((refine HJ.out _ ?_; assumption)) (first
        | (go_at_call 31; (with_reducible refine (HArg.out _ ?_).mono ?_); (focus assumption); rintro e w4 ⟨rfl, h4⟩)
        | (go_at_call 20; (with_reducible refine (HA.out _ ?_).mono ?_); (focus assumption); rintro e w5 ⟨rfl, h5⟩))
      all_goals go_wp2_with fail
      all_goals go_roundw
      all_goals first | (case rel => exact ⟨u + 1, by omega, by go_num, Lib.hid h5⟩) | (case measure => simp [intOf]; omega)
    · obtain rfl : u = N := by omega
      replace HW := Lib.hid (HW.out.later HT.out.below)
      replace K1 := Lib.hid (K1.out.later HT.out.below)
      replace K2 := Lib.hid (K2.out.later HT.out.below)
      replace K3 := Lib.hid (K3.out.later HT.out.below)
      replace K4 := Lib.hid (K4.out.later HT.out.below)
      have d10 := HW.out.cell (b := b1) (cs := #[.slice p2 n2 c2, .int .i64 e]) (t := 43) (by simp) 0; have d11 := HW.out.cell (b := b1) (cs := #[.slice p2 n2 c2, .int .i64 e]) (t := 43) (by simp) 1; have d20 := HW.out.cell (b := b2) (cs := #[.slice p4 n4 c4, .int .i64 0]) (t := 43) (by simp) 0; have d21 := HW.out.cell (b := b2) (cs := #[.slice p4 n4 c4, .int .i64 0]) (t := 43) (by simp) 1
      go_wp2_with (first
    | (go_at_call 23; (with_reducible refine (same_lit p _ _ _ K1.out K2.out).mono ?_); rintro e wz ⟨rfl, hb⟩; replace K3 := Lib.hid (K3.out.later hb); replace K4 := Lib.hid (K4.out.later hb); replace HW := Lib.hid (HW.out.later hb); clear hb; have d10 := HW.out.cell (b := b1) (cs := #[.slice p2 n2 c2, .int .i64 e]) (t := 43) (by simp) 0; have d11 := HW.out.cell (b := b1) (cs := #[.slice p2 n2 c2, .int .i64 e]) (t := 43) (by simp) 1; have d20 := HW.out.cell (b := b2) (cs := #[.slice p4 n4 c4, .int .i64 0]) (t := 43) (by simp) 0; have d21 := HW.out.cell (b := b2) (cs := #[.slice p4 n4 c4, .int .i64 0]) (t := 43) (by simp) 1)
    | (go_at_call 23; (with_reducible refine (same_lit _ _ _ _ K3.out K4.out).mono ?_); rintro e wz ⟨rfl, hb⟩; replace K3 := Lib.hid (K3.out.later hb); replace HW := Lib.hid (HW.out.later hb); clear hb)
    | (go_at_call 18; (with_reducible refine (valid_any _ _ true _ K3.out (by simp [thnL_cv HV.out (made_cv l1) hk2 hk3])).mono ?_); rintro e wz ⟨rfl, hb⟩; replace HW := Lib.hid (HW.out.later hb); clear hb))
      go_ret
      exact ⟨rfl, BW.out.below.trans (HW.out.below.mono BW.out.below.size)⟩

set_option maxRecDepth 100000 in
theorem lifted (os : Os) (started : os.Started) (H : Type) (enc : TypeId × Value → H) :
    ReturnsInHanded {} Try.checked os 10 .any (Rows.curveThenSpec.pre6 enc Try.prog Try.f10 Rows.curveThenRow.domain false) (Rows.curveThenSpec.post enc Try.prog Try.f10 false true false false) := by
  refine returnsInHanded_of_change_sized (C := Try.checked) own started (by kernel_rfl) Try.func10
    (ChangeSpec.witness6 (enc := enc) (C := Try.checked) false ⟨#[], #[.agg #[.slice none 0 0, .slice none 0 0], .agg #[.slice none 0 0, .slice none 0 0], .int .i64 0], []⟩ 8 (by kernel_rfl) (by kernel_rfl) (by kernel_rfl) (by kernel_rfl)) ?_
  intro W base args ds gs before hval0 hW _ _ _
  have hval : ∀ (j : Nat) t v, Try.f10.params[j]? = some t → args[j]? = some v → Value.okWide Try.prog W .any base t v := hval0
  have hW' := hW
  obtain ⟨p, q, hA0, hV, rfl, hfz, hnd⟩ := hW
  have hA : DataW.TrodAll enc Try.prog W 0 (fun _ => true) true Try.f10.params.toList args.toList ds p := hA0
  rw [Try.params10] at hA hval
  obtain ⟨v0, v1, v2, d0, d1, d2, p0, p1, p2, rfl, rfl, rfl, h0, h1, h2⟩ := trodAll_three hA
  obtain ⟨rfl, rfl⟩ := trodVars_none hV
  obtain ⟨vca, vcb, ca, cb, rfl, hca, hcb⟩ := open_ca2 46 23 Try.underlying46 Try.underlying23 (by kernel_rfl) (by kernel_rfl) (by kernel_rfl) (hval 0 46 v0 rfl rfl) h0
  obtain ⟨vl0, vl1, l0, l1, rfl, hl0, hl1⟩ := open_ca2 47 22 Try.underlying47 Try.underlying22 (by kernel_rfl) (by kernel_rfl) (by kernel_rfl) (hval 1 47 v1 rfl rfl) h1
  obtain ⟨n, rfl, rfl, rfl, _⟩ := open_int Try.underlying3 (hval 2 3 v2 rfl rfl) h2
  refine (walk ca vca cb vcb l0 vl0 l1 vl1 n W hca hcb hl0 hl1).mono fun e W' ⟨he, hb⟩ => ?_
  subst he
  exact ⟨_, rfl, law_post hW' rfl (by kernel_rfl) rfl (by intro t ht; rw [Try.params10] at ht; simp at ht; rcases ht with rfl | rfl | rfl <;> exact ⟨by kernel_rfl, of_decide_eq_true (by kernel_rfl)⟩) hb⟩

theorem holds : Rows.CurveThenSaid :=
  OpenClaim.holds_of_wide 10 Try.f10 rfl rfl rfl rfl rfl rfl rfl ⟨rfl, rfl, rfl, rfl, rfl⟩ rfl rfl rfl rfl rfl (by kernel_rfl) Try.func10 (by kernel_rfl)
    (of_decide_eq_true (by kernel_rfl)) (by unfold Func.isWrapper; first | (rw [if_pos (by decide +kernel)]; kernel_rfl) | (rw [if_neg (by decide +kernel)]; exact ⟨rfl, rfl⟩))
    (fun os started H enc _ => lifted os started H enc)
end Go.Proofs.Ytdpcciidnkchfaa.LThen
