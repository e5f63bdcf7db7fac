/-
  ColourBetween: for all grids and colours, the interpolated colour lies between the corners, and is the table's at a grid point. No conditions.
-/
import Derived.Test.YtndikdflbjidiaaKLaw
import Derived.Test.YtndikdflbjidiaaKGrd
namespace Go.Proofs.Ytndikdflbjidiaa.K.KLBetween
open Go.ChangeShapes Go.WideShapes Go.ChangeAt Go.RowKit

theorem crn_walk {k : Nat} (hk : k = 2 ∨ k = 4 ∨ k = 6) {a0 a1 a2 : Int} (b0 : 0 ≤ a0 ∧ a0 ≤ (k : Int) - 2) (b1 : 0 ≤ a1 ∧ a1 ≤ (k : Int) - 2) (b2 : 0 ≤ a2 ∧ a2 ≤ (k : Int) - 2) {i : Nat} (hi : i < 8) :
    ∃ (x u y z p q : Int) (e : Nat), bits .and .i64 (i : Int) 1 = x ∧ (i : Int).tdiv 2 = u ∧ bits .and .i64 u 1 = y ∧ (i : Int).tdiv 4 = z ∧ wrap64 ((a0 + x) * (k : Int)) = p ∧ wrap64 ((p + a1 + y) * (k : Int)) = q ∧ q + a2 + z = (e : Int) ∧
      (i : Int) / 2 = u ∧ (i : Int) / 4 = z ∧ IntKind.i64.wrap ((a0 + x) * (k : Int)) = p ∧ IntKind.i64.wrap ((p + a1 + y) * (k : Int)) = q ∧
      0 ≤ x ∧ x ≤ 1 ∧ 0 ≤ u ∧ u ≤ 3 ∧ 0 ≤ y ∧ y ≤ 1 ∧ 0 ≤ z ∧ z ≤ 1 ∧ 0 ≤ p ∧ p ≤ 100 ∧ 0 ≤ q ∧ q ≤ 1000 ∧ e < k * k * k ∧ crn k a0 a1 a2 i = (e : Int) := by
  have m1 : ∀ n : Int, bits .and .i64 n 1 = n % 2 := fun n => by have := i64_mask 1 (by omega) n; simpa using this
  have hc : crn k a0 a1 a2 i = ((a0 + (i % 2 : Nat)) * k + a1 + (i / 2 % 2 : Nat)) * k + a2 + (i / 4 : Nat) := rfl
  refine ⟨(i % 2 : Nat), (i / 2 : Nat), (i / 2 % 2 : Nat), (i / 4 : Nat), (a0 + (i % 2 : Nat)) * k, ((a0 + (i % 2 : Nat)) * k + a1 + (i / 2 % 2 : Nat)) * k, (crn k a0 a1 a2 i).toNat, ?_⟩
  rw [m1, m1, hc]
  rcases hk with rfl | rfl | rfl
  all_goals refine ⟨by omega, by rw [Int.tdiv_eq_ediv_of_nonneg (by omega)]; omega, by omega, by rw [Int.tdiv_eq_ediv_of_nonneg (by omega)]; omega, wrap_in (by omega), wrap_in (by omega), by omega, by omega, by omega, wr_in (by omega), wr_in (by omega), by omega, by omega, by omega, by omega, by omega, by omega, by omega, by omega, by omega, by omega, by omega, by omega, by omega, by omega⟩
theorem lo_hi {f : Nat → Int} {i : Nat} {u v c u' v' : Int} (h : ∀ j, j < i → u ≤ f j ∧ f j ≤ v) (hc : f i = c) (hu : u' = min u c) (hv : v' = max v c) : ∀ j, j < i + 1 → u' ≤ f j ∧ f j ≤ v' := by
  intro j hj
  subst hu hv
  by_cases e : j = i
  · subst e; rw [hc]; omega
  · have := h j (by omega)
    omega
theorem stp {k : Nat} (hk : k = 2 ∨ k = 4 ∨ k = 6) : ∃ s : Int, (65535 : Int).tdiv ((k : Int) - 1) = s ∧ (65535 : Int) / ((k : Int) - 1) = s ∧ (((k : Int) - 1 = 0) = False) ∧ (((k : Int) - 1 == 0) = false) ∧ 0 ≤ s ∧ s ≤ 65535 ∧ s * ((k : Int) - 1) = 65535 := by
  rcases hk with rfl | rfl | rfl
  · exact ⟨65535, by decide, by decide, by simp, by decide, by decide, by decide, by decide⟩
  · exact ⟨21845, by decide, by decide, by simp, by decide, by decide, by decide, by decide⟩
  · exact ⟨13107, by decide, by decide, by simp, by decide, by decide, by decide, by decide⟩
theorem mul_in {s a : Int} (h0 : 0 ≤ s) (h1 : s ≤ 65535) (h2 : 0 ≤ a) (h3 : a ≤ 6) : wrap64 (s * a) = s * a ∧ IntKind.i64.wrap (s * a) = s * a := by
  have h := mul_bd h0 h1 h2 h3
  exact ⟨wrap_in (by omega), wr_in (by omega)⟩
theorem crn_zero {k : Nat} (hk : k = 2 ∨ k = 4 ∨ k = 6) {a0 a1 a2 : Int} (b0 : 0 ≤ a0 ∧ a0 ≤ (k : Int) - 2) (b1 : 0 ≤ a1 ∧ a1 ≤ (k : Int) - 2) (b2 : 0 ≤ a2 ∧ a2 ≤ (k : Int) - 2) :
    ∃ (p q : Int) (e : Nat), wrap64 (a0 * (k : Int)) = p ∧ IntKind.i64.wrap (a0 * (k : Int)) = p ∧ wrap64 ((p + a1) * (k : Int)) = q ∧ IntKind.i64.wrap ((p + a1) * (k : Int)) = q ∧ q + a2 = (e : Int) ∧ 0 ≤ p ∧ p ≤ 100 ∧ 0 ≤ q ∧ q ≤ 1000 ∧ e < k * k * k ∧ crn k a0 a1 a2 0 = (e : Int) := by
  have hc : crn k a0 a1 a2 0 = (a0 * k + a1) * k + a2 := by unfold crn; simp
  refine ⟨a0 * k, (a0 * k + a1) * k, (crn k a0 a1 a2 0).toNat, ?_⟩
  rw [hc]
  rcases hk with rfl | rfl | rfl
  all_goals exact ⟨wrap_in (by omega), wr_in (by omega), wrap_in (by omega), wr_in (by omega), by omega, by omega, by omega, by omega, by omega, by omega, by omega⟩
theorem min_ite {a b c : Int} (h : min a b = c) : (if b < a then b else a) = c := by
  rw [← h]; split <;> omega
theorem msr {i m : Nat} (h : i < m) (e : wrap64 ((i : Int) + 1) = i + 1) : m - (intOf (.int .i64 (wrap64 ((i : Int) + 1)))).toNat < m - (intOf (.int .i64 (i : Int))).toNat := by
  rw [e]
  show m - ((i : Int) + 1).toNat < m - ((i : Int)).toNat
  omega

set_option maxHeartbeats 8000000 in
set_option maxRecDepth 100000 in
theorem walk (n : Int) (q : List Int) (vq : Value) (c0 c1 c2 : Int) (w : World) (hq : Ca w vq q) : Calls Try.prog 3 #[.int .i64 n, vq, ag c0 c1 c2] w fun e w' => e = .returned (.bool true) ∧ Below w.heap.size w w' := by
  go_enter Try.func3, Try.ntmps3
  go_upto_region 1 with fail
  have hs := (St.start w).alloc (ac c0 c1 c2)
  generalize w.alloc (ac c0 c1 c2) = w1 at hs ⊢
  generalize hb : w.heap.size = b at hs ⊢
  go_upto_region 2 with (go_at_call 4; (refine (St.call hs (sane_any _)).mono ?_); rintro e w2 ⟨rfl, h2⟩)
  clear hs
  obtain ⟨r, hr⟩ : ∃ r : Nat, n % 3 = r := ⟨(n % 3).toNat, by omega⟩
  have hr3 : r < 3 := by omega
  have HRR := Lib.hid hr
  obtain ⟨k, hk⟩ : ∃ k : Nat, f3 2 4 6 r = k := by
    rcases (by omega : r = 0 ∨ r = 1 ∨ r = 2) with rfl | rfl | rfl <;> first | exact ⟨2, rfl⟩ | exact ⟨4, rfl⟩ | exact ⟨6, rfl⟩
  have hk3 : k = 2 ∨ k = 4 ∨ k = 6 := by
    rcases (by omega : r = 0 ∨ r = 1 ∨ r = 2) with rfl | rfl | rfl <;> first | (have h : (2 : Int) = k := hk; omega) | (have h : (4 : Int) = k := hk; omega) | (have h : (6 : Int) = k := hk; omega)
  have hx := jxk r hr3 2 4 6
  rw [hk] at hx
  clear hk hr
  go_upto_region 3 with (go_at_call 5; (refine (rest_is n 3 _ (by omega) (by omega) r HRR.out).mono ?_); rintro e w3 ⟨rfl, rfl⟩)
  clear hx HRR hr3
  go_upto_region 4 with fail
  have h3 := h2.alloc (gob k (.slice none 0 0))
  have hbg : b < w2.heap.size := h2.lt (b := b) (o := ac c0 c1 c2) (by simp)
  have hwg : w.heap.size ≤ w2.heap.size := h2.below.size
  have hB : w2.heap.size + 1 = (w2.alloc (gob k (.slice none 0 0))).heap.size := by simp
  clear h2
  generalize w2.alloc (gob k (.slice none 0 0)) = w3 at h3 hB ⊢
  generalize w2.heap.size = g at h3 hbg hwg hB ⊢
  obtain ⟨B, hBg⟩ : ∃ B, g + 1 = B := ⟨_, rfl⟩
  rw [hBg] at hB
  have HS := Lib.hid h3
  have HO := Lib.hid (OwnsC.nil B w3)
  clear h3
  have hcm := hq.cm
  obtain ⟨pq, capq, rfl, hq1, hq2, hq3⟩ := hcm
  have HQ : Hid (Cm w (.slice pq q.length capq) q) := ⟨pq, capq, rfl, hq1, hq2, hq3⟩
  clear hq hq1 hq2 hq3
  obtain ⟨N, hN⟩ : ∃ N, q.length = N := ⟨_, rfl⟩
  rw [hN] at HQ ⊢
  have HN := Lib.hid hN
  clear hN
  have hand : ∀ n, bits .and .i64 n 65535 = ((n % 65536).toNat : Int) := fun n => by have := i64_mask 16 (by omega) n; simp at this; rw [this]; omega
  obtain ⟨m2, hm2⟩ : ∃ m2, k * k = m2 := ⟨_, rfl⟩
  obtain ⟨m3, hm3⟩ : ∃ m3, k * k * k = m3 := ⟨_, rfl⟩
  have hm216 : m3 ≤ 216 := by rcases hk3 with rfl | rfl | rfl <;> omega
  have g2 : IntKind.i64.wrap ((k : Int) * k) = m2 := by rcases hk3 with rfl | rfl | rfl <;> (subst hm2; rfl)
  have g3 : IntKind.i64.wrap ((m2 : Int) * k) = m3 := by rcases hk3 with rfl | rfl | rfl <;> (subst hm3 hm2; rfl)
  have g4 : wrap64 ((k : Int) * k) = m2 := (IntWalk.i64_left _).symm.trans g2
  have g5 : wrap64 ((m2 : Int) * k) = m3 := (IntWalk.i64_left _).symm.trans g3
  have HGS := Lib.hid (And.intro g2 (And.intro g3 (And.intro g4 g5)))
  clear g2 g3 g4 g5
  have HM3 := Lib.hid hm3
  clear hm2 hm3
  have HB0 := Lib.hid hB
  have GMX : Hid (∀ y : Int, Gm (max (y % 65536) 0)) := fun y => by unfold Gm; omega
  have HAND := Lib.hid hand; clear hand
  have HK3 := Lib.hid (And.intro hk3 hm216); clear hk3 hm216
  have HGG := Lib.hid (And.intro hbg (And.intro hwg (And.intro hB hBg))); clear hbg hwg hBg
  go_upto_region 5 with fail
  go_loopw [10] (fun v10 wr => ∃ i : Nat, ∃ l : List C3, ∃ v : Value, i ≤ m3 ∧ v10 = .int .i64 i ∧ Hid (l.length = i ∧ ∀ j, j < l.length → InG (c3n l j)) ∧ Hid (St w [(g, gob k v), (b, ac c0 c1 c2)] wr) ∧ Hid (OwnsC B wr v l) ∧ Hid (B ≤ wr.heap.size)) (fun i _ => m3 - (intOf i).toNat)
  case atStart =>
    refine ⟨0, [], .slice none 0 0, Nat.zero_le _, rfl, ?_, ?_, ?_, ?_⟩
    · exact ⟨rfl, fun j hj => absurd hj (Nat.not_lt_zero _)⟩
    · exact HS
    · exact HO
    · exact Nat.le_of_eq hB
  case round =>
    obtain ⟨i, l, v, hi, rfl, HL, HT, HK, HZ⟩ := hrel
    rcases Nat.lt_or_ge i m3 with hlt | hge
    · as_aux_lemma =>
      have q1 : (0 : Int) ≤ i := Int.natCast_nonneg i
      have q2 : (i : Int) < m3 := Int.ofNat_lt.2 hlt
      obtain ⟨g2, g3, g4, g5⟩ := HGS.out
      go_upto_region 7 with fail
      go_upto_if 45 with fail
      clear g2 g3 g4 g5
      go_cut [11] (fun v wx => ∃ x, v = .int .i64 x ∧ wx = wr)
      case first =>
        by_cases hN0 : N = 0
        · subst hN0
          go_wp2_with fail
          go_meet
          exact ⟨_, rfl, rfl⟩
        · have hc := HQ.out.later HT.out.below
          obtain ⟨bq, oq, cq, hv, _, _, hrow⟩ := Cm.row hc (by rw [HN.out]; omega)
          rw [HN.out] at hv
          injection hv with e1 e2 e3
          subst e1 e3
          clear e2
          obtain ⟨j, hj⟩ : ∃ j, i % N = j := ⟨_, rfl⟩
          have hjN : j < N := by rw [← hj]; exact Nat.mod_lt _ (by omega)
          have d1 : (i : Int).tmod N = j := by rw [Int.tmod_eq_emod_of_nonneg (by omega), ← hj]; simp
          have d2 : (i : Int) % N = j := by rw [← hj]; simp
          have d3 : ((N : Int) == 0) = false := by simp; omega
          have d4 : ((N : Int) = 0) = False := by simp; omega
          have d5 : (0 : Int) < N := by omega
          have d6 : (0 : Int) ≤ j := by omega
          have d7 : (j : Int) < N := by omega
          have cj := hrow.at' j (by rw [HN.out]; exact hjN)
          clear hj hrow hc
          go_wp2_with fail
          go_meet
          exact ⟨_, rfl, rfl⟩
      case rest =>
      as_aux_lemma =>
      obtain ⟨x, rfl, rfl⟩ := hcut
      clear HQ HN
      have hT := HT.out
      have hO := HK.out
      obtain ⟨po, cp, rfl⟩ := hO.slice
      have HTP : Hid (∀ V, Below B wc V → St w [(g, gob k (.slice po l.length cp)), (b, ac c0 c1 c2)] V) := fun V hV => St.past hT hV (by have := HGG.out; omega) (by have := HGG.out; simp; omega)
      obtain ⟨hl, hg⟩ := HL.out
      have HG := Lib.hid hg
      have hbd : Hid (l.length < 1000000000) := by unfold Hid; have := HK3.out.2; omega
      have HL2 := Lib.hid hl
      clear hl hg HL HK
      generalize l.length = N3 at hO hT HTP ⊢
      have HK := Lib.hid hO; clear hO
      have m1 := hT.cell (b := g) (cs := #[.int .i64 k, .slice po N3 cp]) (t := 29) (by simp) 1
      simp only [pair1] at m1
      have HTA : Hid (∀ V v', St w [(g, gob k (.slice po N3 cp)), (b, ac c0 c1 c2)] V → St w [(g, gob k v'), (b, ac c0 c1 c2)] (V.setCell ⟨g, 1, none⟩ v')) := fun V v' hV => St.putg hV HGG.out.2.1 (by have := HGG.out; simp; omega)
      have HF : Hid (∀ V, St w [(g, gob k (.slice po N3 cp)), (b, ac c0 c1 c2)] V → V.cell? ⟨g, 1, none⟩ = some (.slice po N3 cp) ∧ V.frozen? ⟨g, 1, none⟩ = false) := fun V hV => ⟨hV.cell (b := g) (cs := #[.int .i64 k, .slice po N3 cp]) (t := 29) (by simp) 1, hV.frozen (b := g) (cs := #[.int .i64 k, .slice po N3 cp]) (t := 29) (by simp) 1⟩
      clear hT HT
      clear HGS HM3
      have hand := HAND.out
      have hw1 : wrap64 ((i : Int) + 1) = i + 1 := wrap_in (by have := HK3.out; omega)
      go_wp2_with (at_builtin; refine wp_appC rfl (.tmp 57) (.tmp 67) rfl B wc _ _ _ _ _ (by rfl) HK.out (by rfl) hbd.out HZ.out ?_; intro v' w5 ho5 hb5; obtain ⟨po5, cp5, hv5⟩ := OwnsC.slice ho5; simp only [List.length_append, List.length_singleton] at hv5; subst hv5; have HO5 := Lib.hid ho5; have HT5 := Lib.hid (HTP.out _ hb5); obtain ⟨n1, f1⟩ := HF.out _ HT5.out; have HB5 := Lib.hid (Nat.le_trans HZ.out hb5.size); clear ho5 hb5)
      go_roundw
      case rel =>
        refine ⟨i + 1, _, _, by omega, by go_num, ?_, ?_, Lib.hid (OwnsC.set HO5.out (by have := HGG.out; omega)), ?_⟩
        · exact ⟨by have := HL2.out; simp; omega, ing_snoc HG.out ⟨GMX.out _, GMX.out _, GMX.out _⟩⟩
        · exact Lib.hid (HTA.out _ _ HT5.out)
        · unfold Hid; simp [World.setCell]; exact HB5.out
      case measure => exact msr hlt hw1
    · as_aux_lemma =>
      have him : m3 = i := Nat.le_antisymm hge hi
      subst him
      clear hge hi HAND
      have h30 : 0 < m3 := by rw [← HM3.out]; rcases HK3.out.1 with h | h | h <;> rw [h] <;> decide
      obtain ⟨hl, hg⟩ := HL.out
      have hlm := Lib.hid hl
      have HGV : Hid (GV k l) := by
        have hk := HK3.out
        exact ⟨by omega, by omega, by rw [hl, HM3.out], hg⟩
      have hcl := HK.out.cls
      obtain ⟨bv, ov, cv, rfl, hcv1, hcv2, hrow⟩ := Cls.row hcl (by omega)
      rw [hl] at hcl hcv1
      have HCL : Hid (Cls wr (.slice (some ⟨bv, ov, none⟩) m3 cv) l) := hcl
      have hT : St w [(g, gob k (.slice (some ⟨bv, ov, none⟩) m3 cv)), (b, ac c0 c1 c2)] wr := hl ▸ HT.out
      clear hcl HT HK HZ hg HO HS HL
      obtain ⟨g2, g3, g4, g5⟩ := HGS.out
      go_upto_region 11 with fail
      clear g2 g3 g4 g5 HGS
      obtain ⟨m0, m1, m2⟩ := hT.col (b := b) (x := c0) (y := c1) (z := c2) (t := 24) (by simp)
      obtain ⟨x0, e0, k0⟩ := and_gm c0
      obtain ⟨x1, e1, k1⟩ := and_gm c1
      obtain ⟨x2, e2, k2⟩ := and_gm c2
      go_upto_region 12 with fail
      have HTL : Hid (∀ L V, St wr L V → St w [(g, gob k (.slice (some ⟨bv, ov, none⟩) m3 cv)), (b, ac c0 c1 c2)] V ∧ Cls V (.slice (some ⟨bv, ov, none⟩) m3 cv) l ∧ CRow V bv ov l) := fun L V h => ⟨hT.later h.below, HCL.out.later h.below, hrow.later h.below⟩
      have hs := (St.start wr).alloc (ac x0 x1 x2)
      clear hT HCL hrow m0 m1 m2 e0 e1 e2
      generalize wr.alloc (ac x0 x1 x2) = w4 at hs ⊢
      have HPW : Hid (wr.heap.size ≤ wr.heap.size) := Nat.le_refl _
      obtain ⟨p, hpp⟩ : ∃ p, wr.heap.size = p := ⟨_, rfl⟩
      have HPW : Hid (wr.heap.size ≤ p) := Nat.le_of_eq hpp
      rw [hpp] at hs ⊢
      clear hpp
      obtain ⟨⟨A0, A1, A2⟩, hA⟩ : ∃ A : C3, A = ipl k l ⟨x0, x1, x2⟩ := ⟨_, rfl⟩
      have HLK : Hid (∀ V, Cls V (.slice (some ⟨bv, ov, none⟩) m3 cv) l → Calls Try.prog 6 #[gv k (.slice (some ⟨bv, ov, none⟩) m3 cv), ag x0 x1 x2] V fun e w' => e = .returned (.tuple #[ag A0 A1 A2, .int .i64 0]) ∧ Below V.heap.size V w') := fun V hV => by
        have h := look_any k _ l true x0 x1 x2 V hV (by have := HK3.out; omega) ⟨fun _ => ⟨k, rfl, HGV.out⟩, fun _ => rfl⟩
        rw [← hA] at h
        exact h
      have HA := Lib.hid hA; clear hA
      obtain ⟨hg4, hc4, -⟩ := HTL.out _ _ hs
      have n0 := hg4.cell (b := g) (cs := #[.int .i64 k, .slice (some ⟨bv, ov, none⟩) m3 cv]) (t := 29) (by simp) 0
      have n1 := hg4.cell (b := g) (cs := #[.int .i64 k, .slice (some ⟨bv, ov, none⟩) m3 cv]) (t := 29) (by simp) 1
      simp only [pair0, pair1] at n0 n1
      obtain ⟨o0, o1, o2⟩ := hs.col (b := p) (x := x0) (y := x1) (z := x2) (t := 24) (by simp)
      clear hg4
      go_upto_region 13 with (go_at_call 6; (refine (St.call hs (HLK.out _ hc4)).mono ?_); rintro e w5 ⟨rfl, h5⟩)
      have h5lt : p < w5.heap.size := h5.lt (b := p) (o := ac x0 x1 x2) (by simp)
      have h6 := (h5.alloc (ac A0 A1 A2)).alloc (tri 0 0 0)
      rw [World.size_alloc] at h6
      clear hs h5 hc4 n0 n1 o0 o1 o2 HLK
      go_upto_region 14 with fail
      generalize (w5.alloc (ac A0 A1 A2)).alloc (tri 0 0 0) = w6 at h6 ⊢
      have hpt : wr.heap.size ≤ p ∧ p < w5.heap.size := ⟨HPW.out, h5lt⟩
      generalize w5.heap.size = t at h6 hpt ⊢
      have hk2 : 2 ≤ (k : Int) ∧ (k : Int) ≤ 6 := by have := HK3.out; omega
      obtain ⟨p0, a0, f0, hp0, wp0, ws0, p00, p01, ha0, hm0, a00, a01, hf0, hg0, f00, f01⟩ := cel_facts hk2.1 (by omega) k0
      obtain ⟨p1, a1, f1, hp1, wp1, ws1, p10, p11, ha1, hm1, a10, a11, hf1, hg1, f10, f11⟩ := cel_facts hk2.1 (by omega) k1
      obtain ⟨p2, a2, f2, hp2, wp2, ws2, p20, p21, ha2, hm2, a20, a21, hf2, hg2, f20, f21⟩ := cel_facts hk2.1 (by omega) k2
      have hn0 := min_ite hm0
      have hn1 := min_ite hm1
      have hn2 := min_ite hm2
      have hc0 : clp 0 65535 x0 = x0 := by unfold Gm at k0; unfold clp; omega
      have hc1 : clp 0 65535 x1 = x1 := by unfold Gm at k1; unfold clp; omega
      have hc2 : clp 0 65535 x2 = x2 := by unfold Gm at k2; unfold clp; omega
      have HMID : Hid (∀ f : C3 → Int, (f = C3.r ∨ f = C3.g ∨ f = C3.b) → ∀ lo hi : Int, (∀ i, i < 8 → lo ≤ f (c3n l (crn k a0 a1 a2 i).toNat) ∧ f (c3n l (crn k a0 a1 a2 i).toNat) ≤ hi) → lo ≤ f ⟨A0, A1, A2⟩ ∧ f ⟨A0, A1, A2⟩ ≤ hi) := fun f hf lo hi h => by
        rw [HA.out]
        refine ipl_mid hk2.1 (by omega) l ⟨x0, x1, x2⟩ f hf lo hi ?_
        simp only [hc0, hc1, hc2, ha0, ha1, ha2]
        exact h
      have HAB := Lib.hid (And.intro (And.intro a00 a01) (And.intro (And.intro a10 a11) (And.intro a20 a21)))
      have HT6 := Lib.hid h6
      clear h6 HA hp0 hp1 hp2 ha0 ha1 ha2 hf0 hf1 hf2 hg0 hg1 hg2 f00 f01 f10 f11 f20 f21 hc0 hc1 hc2 k0 k1 k2
      go_upto_region 15 with fail
      go_loopw [16] (fun v16 wv => ∃ j : Nat, j ≤ 3 ∧ v16 = .int .i64 j ∧ Hid (St wr [(t + 1, tri (if 0 < j then a0 else 0) (if 1 < j then a1 else 0) (if 2 < j then a2 else 0)), (t, ac A0 A1 A2), (p, ac x0 x1 x2)] wv)) (fun i _ => 3 - (intOf i).toNat)
      case atStart => exact ⟨0, by omega, rfl, HT6⟩
      case round =>
        clear HT6
        obtain ⟨j, hj, rfl, HT6⟩ := hrel
        obtain rfl | rfl | rfl | rfl : j = 0 ∨ j = 1 ∨ j = 2 ∨ j = 3 := by omega
        all_goals simp only [Nat.reduceLT, if_true, if_false, Nat.lt_irrefl] at HT6
        · as_aux_lemma =>
          clear hm1 wp1 ws1 hn1 hm2 wp2 ws2 hn2
          have h7 := HT6.out
          obtain ⟨o0, o1, o2⟩ := h7.col (b := p) (x := x0) (y := x1) (z := x2) (t := 24) (by simp)
          obtain ⟨m0, m1, m2⟩ := h7.col (b := t + 1) (x := 0) (y := 0) (z := 0) (t := 23) (by simp)
          obtain ⟨e0, e1, e2⟩ := h7.fro (b := t + 1) (cs := #[.int .i64 0, .int .i64 0, .int .i64 0]) (t := 23) (by simp)
          have H8 := Lib.hid (h7.put0 (by omega) (by simp; omega) (v := .int .i64 a0))
          clear h7
          go_wp2_with fail
          go_roundw
          case rel => exact ⟨1, by omega, rfl, H8⟩
          case measure => simp [intOf]
        · as_aux_lemma =>
          clear hm0 wp0 ws0 hn0 hm2 wp2 ws2 hn2
          have h7 := HT6.out
          obtain ⟨o0, o1, o2⟩ := h7.col (b := p) (x := x0) (y := x1) (z := x2) (t := 24) (by simp)
          obtain ⟨m0, m1, m2⟩ := h7.col (b := t + 1) (x := a0) (y := 0) (z := 0) (t := 23) (by simp)
          obtain ⟨e0, e1, e2⟩ := h7.fro (b := t + 1) (cs := #[.int .i64 a0, .int .i64 0, .int .i64 0]) (t := 23) (by simp)
          have H8 := Lib.hid (h7.put1 (by omega) (by simp; omega) (v := .int .i64 a1))
          clear h7
          go_wp2_with fail
          go_roundw
          case rel => exact ⟨2, by omega, rfl, H8⟩
          case measure => simp [intOf]
        · as_aux_lemma =>
          clear hm0 wp0 ws0 hn0 hm1 wp1 ws1 hn1
          have h7 := HT6.out
          obtain ⟨o0, o1, o2⟩ := h7.col (b := p) (x := x0) (y := x1) (z := x2) (t := 24) (by simp)
          obtain ⟨m0, m1, m2⟩ := h7.col (b := t + 1) (x := a0) (y := a1) (z := 0) (t := 23) (by simp)
          obtain ⟨e0, e1, e2⟩ := h7.fro (b := t + 1) (cs := #[.int .i64 a0, .int .i64 a1, .int .i64 0]) (t := 23) (by simp)
          have H8 := Lib.hid (h7.put2 (by omega) (by simp; omega) (v := .int .i64 a2))
          clear h7
          go_wp2_with fail
          go_roundw
          case rel => exact ⟨3, by omega, rfl, H8⟩
          case measure => simp [intOf]
        · as_aux_lemma =>
          clear hm0 hm1 hm2 wp0 wp1 wp2 ws0 ws1 ws2 hn0 hn1 hn2 p00 p01 p10 p11 p20 p21
          have h7 := HT6.out
          obtain ⟨hg4, hc4, hrow4⟩ := HTL.out _ _ h7
          have n0 := hg4.cell (b := g) (cs := #[.int .i64 k, .slice (some ⟨bv, ov, none⟩) m3 cv]) (t := 29) (by simp) 0
          have n1 := hg4.cell (b := g) (cs := #[.int .i64 k, .slice (some ⟨bv, ov, none⟩) m3 cv]) (t := 29) (by simp) 1
          simp only [pair0, pair1] at n0 n1
          obtain ⟨m0, m1, m2⟩ := h7.col (b := t + 1) (x := a0) (y := a1) (z := a2) (t := 23) (by simp)
          obtain ⟨s0, s1, s2⟩ := h7.col (b := t) (x := A0) (y := A1) (z := A2) (t := 24) (by simp)
          have HROW := Lib.hid (fun e (he : e < m3) => hrow4.at' e (by rw [hlm.out]; exact he))
          have HC4 := Lib.hid hc4
          have HAI := Lib.hid (And.intro hk2 (And.intro a00 (And.intro a10 a20)))
          clear hg4 hc4 hrow4 h7 a00 a01 a10 a11 a20 a21 hk2
          go_upto_region 18 with fail
          go_upto_region 19 with fail
          go_loopw [17] (fun v17 wx => (v17 = .int .i64 0 ∨ v17 = .int .i64 1 ∨ v17 = .int .i64 2 ∨ v17 = .int .i64 3) ∧ wx = wr) (fun i _ => 3 - (intOf i).toNat)
          case atStart => exact ⟨.inl rfl, rfl⟩
          case round =>
            obtain ⟨hm3, rfl⟩ := hrel
            rcases hm3 with rfl | rfl | rfl | rfl
            · as_aux_lemma =>
              go_upto_region 21 with fail
              go_upto_region 24 with fail
              go_loopw [18, 19, 20] (fun lo hi v20 wx => ∃ i : Nat, ∃ u v : Int, i ≤ 8 ∧ v20 = .int .i64 i ∧ lo = .int .i64 u ∧ hi = .int .i64 v ∧ Hid (∀ j, j < i → u ≤ C3.r (c3n l (crn k a0 a1 a2 j).toNat) ∧ C3.r (c3n l (crn k a0 a1 a2 j).toNat) ≤ v) ∧ wx = wr) (fun _ _ i _ => 8 - (intOf i).toNat)
              case atStart => exact ⟨0, 65535, 0, by omega, rfl, rfl, rfl, fun j hj => absurd hj (Nat.not_lt_zero _), rfl⟩
              case round =>
                obtain ⟨i, u, v, hi8, rfl, rfl, rfl, HL3, rfl⟩ := hrel
                by_cases hlt : i < 8
                · as_aux_lemma =>
                  obtain ⟨x, uu, y, z, pp, qq, e, F1, F2, F3, F4, F5, F6, F7, G1, G2, G3, G4, x0', x1', u0', u1', y0', y1', z0', z1', p0', p1', q0', q1', el, ec⟩ := crn_walk HK3.out.1 HAB.out.1 HAB.out.2.1 HAB.out.2.2 hlt
                  have hem : e < m3 := by rw [← HM3.out]; exact el
                  obtain ⟨d0, d1, d2⟩ := HROW.out e hem
                  have HVAL : Hid (C3.r (c3n l (crn k a0 a1 a2 i).toNat) = C3.r (c3n l e)) := by unfold Hid; rw [ec]; simp
                  have hi1 : (i : Int) < 8 := by omega
                  have hi0 : (0 : Int) ≤ i := by omega
                  have he1 : (e : Int) < m3 := by omega
                  have he0 : (0 : Int) ≤ e := by omega
                  obtain ⟨⟨b0, b1⟩, ⟨b2, b3⟩, ⟨b4, b5⟩⟩ := HAB.out
                  obtain ⟨⟨hk2, hk6⟩, _⟩ := HAI.out
                  clear el ec
                  generalize hcc : c3n l e = C at d0 d1 d2 HVAL
                  obtain ⟨C0, C1, C2⟩ := C
                  clear hcc
                  dsimp only at d0 d1 d2 HVAL
                  go_wp2_with fail
                  go_roundw
                  case rel => exact ⟨i + 1, _, _, by omega, by go_num, rfl, rfl, fun j hj => lo_hi HL3.out HVAL.out (by rfl) (by rfl) j hj, by first | trivial | rfl⟩
                  case measure => simp [intOf]; omega
                · as_aux_lemma =>
                  obtain rfl : i = 8 := by omega
                  obtain ⟨g0, g1⟩ := HMID.out C3.r (.inl rfl) u v HL3.out
                  clear hlt hi8 HL3
                  dsimp only at g0 g1
                  have g2 : (A0 < u) = False := by simp; omega
                  have g3 : (v < A0) = False := by simp; omega
                  go_wp2_with fail
                  go_roundw
                  case rel => exact ⟨.inr (.inl rfl), by first | trivial | rfl⟩
                  case measure => simp [intOf]
            · as_aux_lemma =>
              go_upto_region 21 with fail
              go_upto_region 24 with fail
              go_loopw [18, 19, 20] (fun lo hi v20 wx => ∃ i : Nat, ∃ u v : Int, i ≤ 8 ∧ v20 = .int .i64 i ∧ lo = .int .i64 u ∧ hi = .int .i64 v ∧ Hid (∀ j, j < i → u ≤ C3.g (c3n l (crn k a0 a1 a2 j).toNat) ∧ C3.g (c3n l (crn k a0 a1 a2 j).toNat) ≤ v) ∧ wx = wr) (fun _ _ i _ => 8 - (intOf i).toNat)
              case atStart => exact ⟨0, 65535, 0, by omega, rfl, rfl, rfl, fun j hj => absurd hj (Nat.not_lt_zero _), rfl⟩
              case round =>
                obtain ⟨i, u, v, hi8, rfl, rfl, rfl, HL3, rfl⟩ := hrel
                by_cases hlt : i < 8
                · as_aux_lemma =>
                  obtain ⟨x, uu, y, z, pp, qq, e, F1, F2, F3, F4, F5, F6, F7, G1, G2, G3, G4, x0', x1', u0', u1', y0', y1', z0', z1', p0', p1', q0', q1', el, ec⟩ := crn_walk HK3.out.1 HAB.out.1 HAB.out.2.1 HAB.out.2.2 hlt
                  have hem : e < m3 := by rw [← HM3.out]; exact el
                  obtain ⟨d0, d1, d2⟩ := HROW.out e hem
                  have HVAL : Hid (C3.g (c3n l (crn k a0 a1 a2 i).toNat) = C3.g (c3n l e)) := by unfold Hid; rw [ec]; simp
                  have hi1 : (i : Int) < 8 := by omega
                  have hi0 : (0 : Int) ≤ i := by omega
                  have he1 : (e : Int) < m3 := by omega
                  have he0 : (0 : Int) ≤ e := by omega
                  obtain ⟨⟨b0, b1⟩, ⟨b2, b3⟩, ⟨b4, b5⟩⟩ := HAB.out
                  obtain ⟨⟨hk2, hk6⟩, _⟩ := HAI.out
                  clear el ec
                  generalize hcc : c3n l e = C at d0 d1 d2 HVAL
                  obtain ⟨C0, C1, C2⟩ := C
                  clear hcc
                  dsimp only at d0 d1 d2 HVAL
                  go_wp2_with fail
                  go_roundw
                  case rel => exact ⟨i + 1, _, _, by omega, by go_num, rfl, rfl, fun j hj => lo_hi HL3.out HVAL.out (by rfl) (by rfl) j hj, by first | trivial | rfl⟩
                  case measure => simp [intOf]; omega
                · as_aux_lemma =>
                  obtain rfl : i = 8 := by omega
                  obtain ⟨g0, g1⟩ := HMID.out C3.g (.inr (.inl rfl)) u v HL3.out
                  clear hlt hi8 HL3
                  dsimp only at g0 g1
                  have g2 : (A1 < u) = False := by simp; omega
                  have g3 : (v < A1) = False := by simp; omega
                  go_wp2_with fail
                  go_roundw
                  case rel => exact ⟨.inr (.inr (.inl rfl)), by first | trivial | rfl⟩
                  case measure => simp [intOf]
            · as_aux_lemma =>
              go_upto_region 21 with fail
              go_upto_region 24 with fail
              go_loopw [18, 19, 20] (fun lo hi v20 wx => ∃ i : Nat, ∃ u v : Int, i ≤ 8 ∧ v20 = .int .i64 i ∧ lo = .int .i64 u ∧ hi = .int .i64 v ∧ Hid (∀ j, j < i → u ≤ C3.b (c3n l (crn k a0 a1 a2 j).toNat) ∧ C3.b (c3n l (crn k a0 a1 a2 j).toNat) ≤ v) ∧ wx = wr) (fun _ _ i _ => 8 - (intOf i).toNat)
              case atStart => exact ⟨0, 65535, 0, by omega, rfl, rfl, rfl, fun j hj => absurd hj (Nat.not_lt_zero _), rfl⟩
              case round =>
                obtain ⟨i, u, v, hi8, rfl, rfl, rfl, HL3, rfl⟩ := hrel
                by_cases hlt : i < 8
                · as_aux_lemma =>
                  obtain ⟨x, uu, y, z, pp, qq, e, F1, F2, F3, F4, F5, F6, F7, G1, G2, G3, G4, x0', x1', u0', u1', y0', y1', z0', z1', p0', p1', q0', q1', el, ec⟩ := crn_walk HK3.out.1 HAB.out.1 HAB.out.2.1 HAB.out.2.2 hlt
                  have hem : e < m3 := by rw [← HM3.out]; exact el
                  obtain ⟨d0, d1, d2⟩ := HROW.out e hem
                  have HVAL : Hid (C3.b (c3n l (crn k a0 a1 a2 i).toNat) = C3.b (c3n l e)) := by unfold Hid; rw [ec]; simp
                  have hi1 : (i : Int) < 8 := by omega
                  have hi0 : (0 : Int) ≤ i := by omega
                  have he1 : (e : Int) < m3 := by omega
                  have he0 : (0 : Int) ≤ e := by omega
                  obtain ⟨⟨b0, b1⟩, ⟨b2, b3⟩, ⟨b4, b5⟩⟩ := HAB.out
                  obtain ⟨⟨hk2, hk6⟩, _⟩ := HAI.out
                  clear el ec
                  generalize hcc : c3n l e = C at d0 d1 d2 HVAL
                  obtain ⟨C0, C1, C2⟩ := C
                  clear hcc
                  dsimp only at d0 d1 d2 HVAL
                  go_wp2_with fail
                  go_roundw
                  case rel => exact ⟨i + 1, _, _, by omega, by go_num, rfl, rfl, fun j hj => lo_hi HL3.out HVAL.out (by rfl) (by rfl) j hj, by first | trivial | rfl⟩
                  case measure => simp [intOf]; omega
                · as_aux_lemma =>
                  obtain rfl : i = 8 := by omega
                  obtain ⟨g0, g1⟩ := HMID.out C3.b (.inr (.inr rfl)) u v HL3.out
                  clear hlt hi8 HL3
                  dsimp only at g0 g1
                  have g2 : (A2 < u) = False := by simp; omega
                  have g3 : (v < A2) = False := by simp; omega
                  go_wp2_with fail
                  go_roundw
                  case rel => exact ⟨.inr (.inr (.inr rfl)), by first | trivial | rfl⟩
                  case measure => simp [intOf]
            · as_aux_lemma =>
              clear HMID s0 s1 s2
              obtain ⟨s, S1, S2, S3, S4, s0, s1, es⟩ := stp HK3.out.1
              obtain ⟨⟨b0, b1⟩, ⟨b2, b3⟩, ⟨b4, b5⟩⟩ := HAB.out
              obtain ⟨⟨hk2, hk6⟩, _⟩ := HAI.out
              obtain ⟨U0, V0⟩ := mul_in s0 s1 b0 (by omega : a0 ≤ 6)
              obtain ⟨U1, V1⟩ := mul_in s0 s1 b2 (by omega : a1 ≤ 6)
              obtain ⟨U2, V2⟩ := mul_in s0 s1 b4 (by omega : a2 ≤ 6)
              obtain ⟨P, Q, e, P1, P2, Q1, Q2, E1, P3, P4, Q3, Q4, el, ec⟩ := crn_zero HK3.out.1 HAB.out.1 HAB.out.2.1 HAB.out.2.2
              have hem : e < m3 := by rw [← HM3.out]; exact el
              obtain ⟨⟨B0, B1, B2⟩, hB3⟩ : ∃ B : C3, c3n l e = B := ⟨_, rfl⟩
              have HLK2 : Hid (∀ V, Cls V (.slice (some ⟨bv, ov, none⟩) m3 cv) l → Calls Try.prog 6 #[gv k (.slice (some ⟨bv, ov, none⟩) m3 cv), ag (s * a0) (s * a1) (s * a2)] V fun e w' => e = .returned (.tuple #[ag B0 B1 B2, .int .i64 0]) ∧ Below V.heap.size V w') := fun V hV => by
                have h := look_any k _ l true (s * a0) (s * a1) (s * a2) V hV (by have := HK3.out; have := hlm.out; omega) ⟨fun _ => ⟨k, rfl, HGV.out⟩, fun _ => rfl⟩
                rw [ipl_exact hk2 es l HAB.out.1 HAB.out.2.1 HAB.out.2.2, ec, Int.toNat_natCast, hB3] at h
                exact h
              have HB3 := Lib.hid hB3
              have HE := Lib.hid hem
              have HES := Lib.hid (And.intro P1 (And.intro P2 (And.intro Q1 (And.intro Q2 (And.intro E1 (And.intro P3 (And.intro P4 (And.intro Q3 Q4))))))))
              clear hB3 hem es ec el P1 P2 Q1 Q2 E1 P3 P4 Q3 Q4
              go_upto_region 32 with fail
              clear S1 S2 S3 S4
              go_upto_region 33 with (go_at_call 6; (refine (St.call HT6.out (HLK2.out _ HC4.out)).mono ?_); rintro e w9 ⟨rfl, h9⟩)
              have h10 := h9.alloc (ac B0 B1 B2)
              clear h9 HT6 HC4 HROW HLK2 n0 n1 m0 m1 m2 U0 V0 U1 V1 U2 V2
              generalize w9.alloc (ac B0 B1 B2) = w10 at h10 ⊢
              generalize w9.heap.size = tt at h10 ⊢
              obtain ⟨hg10, hc10, hrow10⟩ := HTL.out _ _ h10
              have n0 := hg10.cell (b := g) (cs := #[.int .i64 k, .slice (some ⟨bv, ov, none⟩) m3 cv]) (t := 29) (by simp) 0
              have n1 := hg10.cell (b := g) (cs := #[.int .i64 k, .slice (some ⟨bv, ov, none⟩) m3 cv]) (t := 29) (by simp) 1
              simp only [pair0, pair1] at n0 n1
              obtain ⟨m0, m1, m2⟩ := h10.col (b := t + 1) (x := a0) (y := a1) (z := a2) (t := 23) (by simp)
              obtain ⟨o0, o1, o2⟩ := h10.col (b := tt) (x := B0) (y := B1) (z := B2) (t := 24) (by simp)
              have hd := hrow10.at' e (by rw [hlm.out]; exact HE.out)
              rw [HB3.out] at hd
              obtain ⟨d0, d1, d2⟩ := hd
              dsimp only at d0 d1 d2
              have HBL := Lib.hid hg10.below
              have he := eql_col B0 B1 B2 B0 B1 B2
              obtain ⟨P1, P2, Q1, Q2, E1, P3, P4, Q3, Q4⟩ := HES.out
              have he1 : (e : Int) < m3 := by have := HE.out; omega
              have he0 : (0 : Int) ≤ e := by omega
              clear h10 hg10 hc10 hrow10
              go_quiet (fail)
              go_wp2_with fail
              go_ret
              exact ⟨rfl, HBL.out.trans ((belowN _).mono HBL.out.size)⟩

set_option maxRecDepth 100000 in
theorem lifted (os : Os) (started : os.Started) (H : Type) (enc : TypeId × Value → H) :
    ReturnsInHanded {} Try.checked os 3 .any (Rows.colourBetweenSpec.pre6 enc Try.prog Try.f3 Rows.colourBetweenRow.domain false) (Rows.colourBetweenSpec.post enc Try.prog Try.f3 false true false false) := by
  refine returnsInHanded_of_change_sized (C := Try.checked) own started (by kernel_rfl) Try.func3
    (ChangeSpec.witness6 (enc := enc) (C := Try.checked) false ⟨#[], #[.int .i64 0, .slice none 0 0, ag 0 0 0], []⟩ 8 (by kernel_rfl) (by kernel_rfl) (by kernel_rfl) (by kernel_rfl)) ?_
  intro W base args ds gs before hval0 hW _ _ _
  have hval : ∀ (j : Nat) t v, Try.f3.params[j]? = some t → args[j]? = some v → Value.okWide Try.prog W .any base t v := hval0
  have hW' := hW
  obtain ⟨p, q, hA0, hV, rfl, hfz, hnd⟩ := hW
  have hA : DataW.TrodAll enc Try.prog W 0 (fun _ => true) true Try.f3.params.toList args.toList ds p := hA0
  rw [Try.params3] at hA hval
  obtain ⟨v0, v1, v2, d0, d1, d2, p0, p1, p2, rfl, rfl, rfl, h0, h1, h2⟩ := trodAll_three hA
  obtain ⟨rfl, rfl⟩ := trodVars_none hV
  obtain ⟨n, rfl, rfl, rfl, _⟩ := open_int Try.underlying3 (hval 0 3 v0 rfl rfl) h0
  obtain ⟨q, hq⟩ := open_ca 22 Try.underlying22 (hval 1 22 v1 rfl rfl) h1
  obtain ⟨c0, c1, c2, rfl⟩ := agg_col (hval 2 24 v2 rfl rfl)
  refine (walk n q v1 c0 c1 c2 W hq).mono fun e W' ⟨he, hb⟩ => ?_
  subst he
  exact ⟨_, rfl, law_post hW' rfl (by kernel_rfl) rfl (by intro t ht; rw [Try.params3] at ht; simp at ht; rcases ht with rfl | rfl | rfl <;> exact ⟨by kernel_rfl, of_decide_eq_true (by kernel_rfl)⟩) hb⟩

theorem holds : Rows.ColourBetweenSaid :=
  OpenClaim.holds_of_wide 3 Try.f3 rfl rfl rfl rfl rfl rfl rfl ⟨rfl, rfl, rfl, rfl, rfl⟩ rfl rfl rfl rfl rfl (by kernel_rfl) Try.func3 (by kernel_rfl)
    (of_decide_eq_true (by kernel_rfl)) (by unfold Func.isWrapper; first | (rw [if_pos (by decide +kernel)]; kernel_rfl) | (rw [if_neg (by decide +kernel)]; exact ⟨rfl, rfl⟩))
    (fun os started H enc _ => lifted os started H enc)
end Go.Proofs.Ytndikdflbjidiaa.K.KLBetween
