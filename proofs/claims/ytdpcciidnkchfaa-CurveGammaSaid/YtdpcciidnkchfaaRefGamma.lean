/-
  The reference's above and Gamma.
-/
import Derived.Test.YtdpcciidnkchfaaDigits
import Derived.Test.YtdpcciidnkchfaaRoot
import Derived.Test.YtdpcciidnkchfaaRefLine
namespace Go.Proofs.Ytdpcciidnkchfaa
open Go.RowKit
variable {w : World}

theorem above_iff {a b : List Nat} (hl : a.length = b.length) (ha : Dg a) (hb : Dg b) {i : Nat} (hi : i < a.length) (he : a.drop (i + 1) = b.drop (i + 1)) (hne : a.getD i 0 ≠ b.getD i 0) :
    decide (b.getD i 0 < a.getD i 0) = decide (dv b < dv a) := by
  rw [decide_eq_decide]
  constructor
  · exact dv_above hl.symm hb (by omega) he.symm
  · intro h
    rcases Nat.lt_or_ge (b.getD i 0) (a.getD i 0) with h1 | h1
    · exact h1
    · have := dv_above hl ha hi he (by omega); omega
theorem drop_step {a b : List Nat} (hl : a.length = b.length) {i : Nat} (hi : i < a.length) (he : a.drop (i + 1) = b.drop (i + 1)) (h : a.getD i 0 = b.getD i 0) : a.drop i = b.drop i := by
  rw [List.drop_eq_getElem_cons hi, List.drop_eq_getElem_cons (show i < b.length by omega), he]
  congr 1
  simpa [List.getD, hi, show i < b.length by omega] using h
set_option maxRecDepth 100000 in
set_option maxHeartbeats 4000000 in
theorem above_any (a b : List Nat) (u v : Value) (w : World) (hu : Cm w u (dz a)) (hv : Cm w v (dz b)) (la : a.length = 17) (lb : b.length = 17) (ha : Dg a) (hb : Dg b) :
    Calls Try.prog 53 #[u, v] w fun e w' => e = .returned (.bool (decide (dv b < dv a))) ∧ Below w.heap.size w w' := by
  obtain ⟨b1, o1, c1, rfl, _, _, r1⟩ := hu.row (by rw [dz_len]; omega)
  obtain ⟨b2, o2, c2, rfl, _, _, r2⟩ := hv.row (by rw [dz_len]; omega)
  have HC : Hid (∀ V, Below w.heap.size w V → ∀ i, i < 17 → V.cell? ⟨b1, o1 + i, none⟩ = some (.int .i64 (a.getD i 0 : Nat)) ∧ V.cell? ⟨b2, o2 + i, none⟩ = some (.int .i64 (b.getD i 0 : Nat))) := fun V hV i hi => by
    have h1 := (r1.later hV).at' i (by rw [dz_len]; omega)
    have h2 := (r2.later hV).at' i (by rw [dz_len]; omega)
    rw [dz_cg (by omega)] at h1 h2
    exact ⟨h1, h2⟩
  have HN : Hid (∀ i, i < 17 → a.drop (i + 1) = b.drop (i + 1) → a.getD i 0 ≠ b.getD i 0 → decide (b.getD i 0 < a.getD i 0) = decide (dv b < dv a)) := fun i hi he hne => above_iff (by omega) ha hb (by omega) he hne
  have HD : Hid (∀ i, i < 17 → a.drop (i + 1) = b.drop (i + 1) → a.getD i 0 = b.getD i 0 → a.drop i = b.drop i) := fun i hi he h => drop_step (by omega) (by omega) he h
  have HE : Hid (a.drop 0 = b.drop 0 → decide (dv b < dv a) = false) := fun h => by
    simp at h; rw [h]; simp
  have H17 : Hid (a.drop 17 = b.drop 17) := by unfold Hid; rw [List.drop_of_length_le (by omega), List.drop_of_length_le (by omega)]
  rw [dz_len, dz_len, la, lb]
  clear la lb ha hb hu hv r1 r2
  generalize decide (dv b < dv a) = r at HN HE ⊢
  go_enter Try.func53, Try.ntmps53
  go_wp2
  go_loopw [5] (fun i wr => ∃ k : Nat, k ≤ 17 ∧ i = .int .i64 ((k : Int) - 1) ∧ Hid (a.drop k = b.drop k) ∧ Hid (Below w.heap.size w wr)) (fun i _ => (intOf i + 1).toNat)
  case atStart => exact ⟨17, by omega, rfl, H17, Below.refl _ _⟩
  case round =>
    obtain ⟨k, hk, rfl, HK, HW⟩ := hrel
    by_cases h0 : 0 < k
    · obtain ⟨m, rfl⟩ : ∃ m, k = m + 1 := ⟨k - 1, by omega⟩
      have hm : ((m + 1 : Nat) : Int) - 1 = (m : Int) := by omega
      rw [hm]
      have hm17 : m < 17 := by omega
      have hmi : (m : Int) < 17 := by omega
      obtain ⟨x1, x2⟩ := HC.out _ HW.out m hm17
      have HN2 := Lib.hid (HN.out m hm17 HK.out)
      have HD2 := Lib.hid (HD.out m hm17 HK.out)
      generalize a.getD m 0 = x at x1 HN2 HD2
      generalize b.getD m 0 = y at x2 HN2 HD2
      clear hm h0
      by_cases hxy : x = y
      · have HD3 := Lib.hid (HD2.out hxy)
        have hne : ((x : Int) != (y : Int)) = false := by simp [hxy]
        have hxy' : (x : Int) = (y : Int) := by omega
        subst hxy
        clear HD2 HN2 hxy'
        go_upto_region 4 with fail
        go_quiet (fail)
        have HB2 : Hid (Below w.heap.size w (wr.drewN nq)) := HW.out.trans ((belowN nq).mono HW.out.size)
        generalize wr.drewN nq = w2 at HB2 ⊢
        go_wp2_with fail
        go_roundw
        case rel => exact ⟨m, by omega, rfl, HD3, HB2⟩
        case measure => simp [intOf]
      · have HR := Lib.hid (HN2.out hxy)
        have hne : ((x : Int) != (y : Int)) = true := by simp; omega
        have hne2 : ((x : Int) == (y : Int)) = false := by simp; omega
        have hne3 : (x == y) = false := by simp [hxy]
        have hne4 : (x != y) = true := by simp [hxy]
        clear HD2 HN2 hxy
        go_upto_region 4 with fail
        go_quiet (fail)
        have HB2 : Hid (Below w.heap.size w (wr.drewN nq)) := HW.out.trans ((belowN nq).mono HW.out.size)
        have y1 : (wr.drewN nq).cell? ⟨b1, o1 + m, none⟩ = some (.int .i64 (x : Nat)) := x1
        have y2 : (wr.drewN nq).cell? ⟨b2, o2 + m, none⟩ = some (.int .i64 (y : Nat)) := x2
        clear x1 x2
        generalize wr.drewN nq = w2 at HB2 y1 y2 ⊢
        go_upto_region 5 with fail
        go_quiet (fail)
        have HB3 : Hid (Below w.heap.size w (w2.drewN nq)) := HB2.out.trans ((belowN nq).mono HB2.out.size)
        generalize w2.drewN nq = w3 at HB3 ⊢
        go_wp2_with fail
        go_ret
        exact ⟨ret_bool (by rw [← HR.out]), HB3.out⟩
    · obtain rfl : k = 0 := by omega
      have HR := Lib.hid (HE.out HK.out)
      go_wp2
      go_ret
      exact ⟨ret_bool HR.out.symm, HW.out⟩

/-- one call of the search for a gamma curve's value -/
theorem over_eq {num den n i y : Nat} (hd : 1 ≤ den) (hy : y ≤ 65535) : decide (dv (rz 65535 den i num) < dv (rz y den (n - 1) num)) = decide (gam num den n i < y) := by
  rw [decide_eq_decide, rz_dv, rz_dv]
  have h := gam_spec (num := num) (n := n) (i := i) hd hy
  constructor
  · intro h1
    rcases Nat.lt_or_ge (gam num den n i) y with h2 | h2
    · exact h2
    · have := h.1 h2; omega
  · intro h1
    rcases Nat.lt_or_ge (65535 ^ den * i ^ num) (y ^ den * (n - 1) ^ num) with h2 | h2
    · exact h2
    · have := h.2 h2; omega
set_option maxRecDepth 100000 in
set_option maxHeartbeats 8000000 in
theorem refGamma_any (num den n : Int) (w : World) :
    Calls Try.prog 35 #[.int .i64 num, .int .i64 den, .int .i64 n] w (GotR (if gok num den n then gamL num.toNat den.toNat n.toNat else []) (if gok num den n then 0 else 1) w) := by
  have hs := (St.start w).alloc (go' (.slice none 0 0) 0)
  by_cases hg : gok num den n = true
  · obtain ⟨⟨h1, h2⟩, h3⟩ : (vp num = true ∧ vp den = true) ∧ vc n = true := by simpa [gok] using hg
    rw [if_pos hg, if_pos hg]
    obtain ⟨a, rfl, a1, a2⟩ := vp_nat h1
    obtain ⟨b, rfl, b1, b2⟩ := vp_nat h2
    obtain ⟨m, rfl, m1, m2⟩ := vc_nat h3
    have HC := Lib.hid h3
    have HG : Hid (gamL (a : Int).toNat (b : Int).toNat (m : Int).toNat = (List.range m).map fun i => ((gam a b m i : Nat) : Int)) := rfl
    have HR1 : Hid (∀ V i, i < m → Calls Try.prog 52 #[.int .i64 65535, .int .i64 b, .int .i64 (i : Nat), .int .i64 a] V (GotO (dz (rz 65535 b i a)) V)) := fun V i hi =>
      raised_any 65535 b i a V (by omega) (by omega) b2 a2
    have HR2 : Hid (∀ V y, y ≤ 65535 → Calls Try.prog 52 #[.int .i64 (y : Nat), .int .i64 b, .int .i64 ((m : Int) - 1), .int .i64 a] V (GotO (dz (rz y b (m - 1) a)) V)) := fun V y hy => by
      have := raised_any y b (m - 1) a V (by omega) (by omega) b2 a2
      rw [show ((m - 1 : Nat) : Int) = (m : Int) - 1 by omega] at this; exact this
    have HA : Hid (∀ V u v i y, y ≤ 65535 → i < m → Cm V u (dz (rz y b (m - 1) a)) → Cm V v (dz (rz 65535 b i a)) → Calls Try.prog 53 #[u, v] V fun e w' => e = .returned (.bool (decide (gam a b m i < y))) ∧ Below V.heap.size V w') := fun V u v i y hy hi hu hv => by
      have := above_any (rz y b (m - 1) a) (rz 65535 b i a) u v V hu hv (rz_len b2 a2) (rz_len b2 a2) (rz_dg (by omega) (by omega)) (rz_dg (by omega) (by omega))
      rw [over_eq b1 hy] at this; exact this
    have HLe : Hid (∀ i, gam a b m i ≤ 65535) := fun i => gam_le a b m i
    clear hg h1 h2 h3
    go_enter Try.func35, Try.ntmps35
    have hlt1 := hs.lt (b := w.heap.size) (o := go' (.slice none 0 0) 0) (by simp)
    go_wp2_with (go_at_call 38; (with_reducible refine (points_any _ _).mono ?_); rintro e w' ⟨rfl, rfl⟩; rw [HC.out])
    have H2 := Lib.hid hs
    have e1 : w.alloc (.cells #[.slice none 0 0, .int .i64 0] 43) = w.alloc (go' (.slice none 0 0) 0) := rfl
    clear hs hlt1
    go_loopw [8, 9] (fun t i wr => ∃ k : Nat, k ≤ m ∧ i = .int .i64 k ∧ Hid (OwnsI (w.heap.size + 1) wr t ((List.range k).map fun i => ((gam a b m i : Nat) : Int))) ∧ Hid (St w [(w.heap.size, go' (.slice none 0 0) 0)] wr ∧ w.heap.size + 1 ≤ wr.heap.size)) (fun _ i _ => m - (intOf i).toNat)
    case atStart => exact ⟨0, by omega, rfl, by have := ownsI_lit (w.alloc (go' (.slice none 0 0) 0)) (w.heap.size + 1) (by simp) [] 0 rfl (by omega) _ rfl; rw [World.size_alloc] at this; exact this, H2.out.later below1, by simp⟩
    case round =>
      obtain ⟨k, hk, rfl, HO, HT⟩ := hrel
      clear H2 e1
      by_cases hlt : k < m
      · have HLen : Hid (((List.range k).map fun i => ((gam a b m i : Nat) : Int)).length = k) := by unfold Hid; simp
        have HSn : Hid ((List.range (k + 1)).map (fun i => ((gam a b m i : Nat) : Int)) = (List.range k).map (fun i => ((gam a b m i : Nat) : Int)) ++ [((gam a b m k : Nat) : Int)]) := by unfold Hid; rw [List.range_succ, List.map_append]; rfl
        generalize hp : (List.range k).map (fun i => ((gam a b m i : Nat) : Int)) = p at HO HLen HSn
        have HP := Lib.hid hp; clear hp
        have HTz := Lib.hid (later_all HO.out HT.out)
        have HRk := Lib.hid (HR1.out wr k hlt)
        have HAk := Lib.hid (fun V u v y hy => HA.out V u v k y hy hlt)
        have hgle := HLe.out k
        generalize gam a b m k = g at HSn HAk hgle
        go_upto_region 9 with (go_at_call 52; (refine HRk.out.mono ?_); rintro e w2 ⟨p2, n2, c2, rfl, ho, hb⟩; have HLim := Lib.hid ho.cm; have HB2 := Lib.hid hb; clear ho hb)
        clear HRk HO HT HR1
        obtain ⟨w0, rfl⟩ : ∃ x, x = wr := ⟨_, rfl⟩
        have HLB : Hid (∀ V, Below w2.heap.size w2 V → Below w0.heap.size w0 V) := fun V hV => HB2.out.trans (hV.mono HB2.out.size)
        go_wp2_with fail
        go_loopw [11, 12] (fun i j wx => ∃ c d : Nat, c ≤ g ∧ g ≤ d ∧ d ≤ 65535 ∧ i = .int .i64 c ∧ j = .int .i64 d ∧ Hid (Below w2.heap.size w2 wx)) (fun i j _ => (intOf j).toNat - (intOf i).toNat)
        case atStart => exact ⟨0, 65535, by omega, hgle, by omega, rfl, rfl, Below.refl _ _⟩
        case round =>
          obtain ⟨c, d, hc, hd, hd2, rfl, rfl, HW⟩ := hrel
          by_cases hcd : c < d
          · obtain ⟨y, hy⟩ : ∃ y, y = (c + d + 1) / 2 := ⟨_, rfl⟩
            have hy1 : c < y := by omega
            have hy2 : y ≤ d := by omega
            have hq : ((c : Int) + (d : Int) + 1) / 2 = (y : Int) := by omega
            have HRy := Lib.hid (HR2.out wr y (by omega))
            have HAy := Lib.hid (fun V u v hu hv => HAk.out V u v y (by omega) hu hv)
            have HX : Hid (decide (g < y) = true ↔ g < y) := by unfold Hid; simp
            have hm1 : (2 : Int) ≤ m := by omega
            clear hy
            cases hdec : decide (g < y)
            · have hgy : y ≤ g := by have := HX.out; rw [hdec] at this; simp at this; omega
              rw [hdec] at HAy
              clear hdec HX
              go_wp2_with (first
                | (go_at_call 52; (refine HRy.out.mono ?_); rintro e w3 ⟨p3, n3, c3, rfl, ho, hb⟩; have HR3 := Lib.hid ho.cm; have HB3 : Hid (Below w2.heap.size w2 w3) := HW.out.trans (hb.mono HW.out.size); clear ho hb)
                | (go_at_call 53; (refine (HAy.out _ _ _ HR3.out (HLim.out.later HB3.out)).mono ?_); rintro e w4 ⟨rfl, hb⟩; have HB4 : Hid (Below w2.heap.size w2 w4) := HB3.out.trans (hb.mono HB3.out.size); clear hb))
              go_roundw
              case rel => exact ⟨y, d, hgy, hd, hd2, rfl, rfl, HB4⟩
              case measure => simp [intOf]; omega
            · have hgy : g < y := HX.out.1 hdec
              rw [hdec] at HAy
              clear hdec HX
              go_wp2_with (first
                | (go_at_call 52; (refine HRy.out.mono ?_); rintro e w3 ⟨p3, n3, c3, rfl, ho, hb⟩; have HR3 := Lib.hid ho.cm; have HB3 : Hid (Below w2.heap.size w2 w3) := HW.out.trans (hb.mono HW.out.size); clear ho hb)
                | (go_at_call 53; (refine (HAy.out _ _ _ HR3.out (HLim.out.later HB3.out)).mono ?_); rintro e w4 ⟨rfl, hb⟩; have HB4 : Hid (Below w2.heap.size w2 w4) := HB3.out.trans (hb.mono HB3.out.size); clear hb))
              go_roundw
              case rel => exact ⟨c, y - 1, hc, by omega, by omega, rfl, by rw [show ((y - 1 : Nat) : Int) = (y : Int) - 1 by omega], HB4⟩
              case measure => simp [intOf]; omega
          · obtain rfl : c = d := by omega
            obtain rfl : c = g := by omega
            have HBx := Lib.hid (HLB.out wr HW.out)
            go_wp2_with (at_builtin; refine wp_appI 23 Try.underlying23 rfl (.tmp 66) (.tmp 68) rfl (w.heap.size + 1) wr _ p (c : Nat) (by rfl) (HTz.out _ HBx.out).1 (by rfl) (by rw [HLen.out]; omega) (HTz.out _ HBx.out).2.2.1 ?_; intro v' w4 ho' hb'; have HO' := Lib.hid ho'; have HB' := Lib.hid hb'; clear ho' hb')
            go_roundw
            case rel => exact ⟨k + 1, by omega, by go_num, by rw [HSn.out]; exact HO', ⟨(HTz.out _ HBx.out).2.1.below.trans (HB'.out.mono (by omega)), fun x hx => by
              have h1 := (HTz.out _ HBx.out).2.1.rows x hx
              simp at hx; subst hx
              rw [HB'.out.block w.heap.size (by omega)]; exact h1⟩, Nat.le_trans (HTz.out _ HBx.out).2.2.1 HB'.out.size⟩
            case measure => simp [intOf]; omega
      · obtain rfl : k = m := by omega
        obtain ⟨po', cap', hv', _⟩ := HO.out.cm
        subst hv'
        obtain ⟨⟨c0, c1⟩, ⟨f0, f1⟩, hl⟩ := resAt HT.out.1 (b := w.heap.size) (by simp)
        generalize hq2 : ((List.range k).map fun i => ((gam a b k i : Nat) : Int)) = p at HO
        have HQ2 := Lib.hid hq2; clear hq2
        generalize hq3 : p.length = pl at HO
        have HQ3 := Lib.hid hq3; clear hq3
        clear HR1 HR2 HA
        go_wp2
        exact bodyPost_ret (v := .agg #[.slice po' pl cap', .int .i64 0]) (by simp [results, Try.results35, go_sem, *]) rfl ⟨po', pl, cap', rfl, by rw [HG.out, HQ2.out]; exact cm_set (own_set HO.out (Nat.lt_succ_self _)) (Nat.lt_succ_self _), below_set2 HT.out.1.below (Nat.le_refl _) _ _⟩
  · rw [if_neg hg, if_neg hg]
    have hg' : (vp num && vp den && vc n) = false := by simpa [gok] using hg
    obtain ⟨⟨c0, c1⟩, ⟨f0, f1⟩, hl⟩ := resAt hs (b := w.heap.size) (by simp)
    have HB := Lib.hid hs.below
    have h1 : (vp num = true) = (1 ≤ num ∧ num ≤ 8) := propext (vp_iff num)
    have h2 : (vp den = true) = (1 ≤ den ∧ den ≤ 8) := propext (vp_iff den)
    have HCase : Hid ((num < 1 ∨ 8 < num ∨ den < 1 ∨ 8 < den) ∨ vc n = false) := by
      unfold Hid
      cases hv : vc n
      · exact .inr rfl
      · refine .inl ?_
        cases hp : vp num
        · have : ¬ (1 ≤ num ∧ num ≤ 8) := by rw [← h1, hp]; decide
          omega
        · cases hq : vp den
          · have : ¬ (1 ≤ den ∧ den ≤ 8) := by rw [← h2, hq]; decide
            omega
          · rw [hp, hq, hv] at hg'; cases hg'
    clear hs hg hg' h1 h2
    clear c0 c1 f0 f1 hl HB
    by_cases g1 : num < 1
    · cases hv : vc n
      all_goals
        have HV := Lib.hid hv; clear hv HCase
        go_enter Try.func35, Try.ntmps35
        go_wp2_with (go_at_call 38; (with_reducible refine (points_any _ _).mono ?_); rintro e w' ⟨rfl, rfl⟩; rw [HV.out])
        exact bodyPost_ret (v := .agg #[.slice none 0 0, .int .i64 1]) (by simp [results, Try.results35, go_sem]) rfl ⟨none, 0, 0, rfl, cm_nil _, below1⟩
    by_cases g2 : 8 < num
    · cases hv : vc n
      all_goals
        have HV := Lib.hid hv; clear hv HCase
        go_enter Try.func35, Try.ntmps35
        go_wp2_with (go_at_call 38; (with_reducible refine (points_any _ _).mono ?_); rintro e w' ⟨rfl, rfl⟩; rw [HV.out])
        exact bodyPost_ret (v := .agg #[.slice none 0 0, .int .i64 1]) (by simp [results, Try.results35, go_sem]) rfl ⟨none, 0, 0, rfl, cm_nil _, below1⟩
    by_cases g3 : den < 1
    · cases hv : vc n
      all_goals
        have HV := Lib.hid hv; clear hv HCase
        go_enter Try.func35, Try.ntmps35
        go_wp2_with (go_at_call 38; (with_reducible refine (points_any _ _).mono ?_); rintro e w' ⟨rfl, rfl⟩; rw [HV.out])
        exact bodyPost_ret (v := .agg #[.slice none 0 0, .int .i64 1]) (by simp [results, Try.results35, go_sem]) rfl ⟨none, 0, 0, rfl, cm_nil _, below1⟩
    by_cases g4 : 8 < den
    · cases hv : vc n
      all_goals
        have HV := Lib.hid hv; clear hv HCase
        go_enter Try.func35, Try.ntmps35
        go_wp2_with (go_at_call 38; (with_reducible refine (points_any _ _).mono ?_); rintro e w' ⟨rfl, rfl⟩; rw [HV.out])
        exact bodyPost_ret (v := .agg #[.slice none 0 0, .int .i64 1]) (by simp [results, Try.results35, go_sem]) rfl ⟨none, 0, 0, rfl, cm_nil _, below1⟩
    have HV : Hid (vc n = false) := by rcases HCase.out with h | h
                                       · omega
                                       · exact h
    clear HCase
    go_enter Try.func35, Try.ntmps35
    go_wp2_with (go_at_call 38; (with_reducible refine (points_any _ _).mono ?_); rintro e w' ⟨rfl, rfl⟩; rw [HV.out])
    exact bodyPost_ret (v := .agg #[.slice none 0 0, .int .i64 1]) (by simp [results, Try.results35, go_sem]) rfl ⟨none, 0, 0, rfl, cm_nil _, below1⟩
end Go.Proofs.Ytdpcciidnkchfaa
