/-
  FilterAreas: Need and Spread return what the reference returns; a pixel belongs to Need of a second one if and only if the second one belongs to Spread of the first. No conditions.
-/
import Derived.Test.YtihfpflnnhiikaaGreatWLaw
import Derived.Test.YtihfpflnnhiikaaGreatWMade
namespace Go.Proofs.YtihfpflnnhiikaaGreat.W.WLAreas
open Go.ChangeShapes Go.WideShapes Go.ChangeAt Go.RowKit
set_option maxRecDepth 100000

theorem msr5 {x : Int} (h : x ≤ 4) (e : wrap64 (x + 1) = x + 1) : (5 - intOf (.int .i64 (wrap64 (x + 1)))).toNat < (5 - intOf (.int .i64 x)).toNat := by
  rw [e]
  show (5 - (x + 1)).toNat < (5 - x).toNat
  omega
theorem msr6 {x : Int} (h : x ≤ 4) : (5 - intOf (.int .i64 (x + 1))).toNat < (5 - intOf (.int .i64 x)).toNat := by
  show (5 - (x + 1)).toNat < (5 - x).toNat
  omega
theorem cut_min (n : Nat) (c : Int) (hc : 0 ≤ c) : ∃ m : Nat, (if c < (n : Int) then c else (n : Int)) = m ∧ m ≤ n ∧ (m : Int) ≤ c := by
  by_cases h : c < (n : Int)
  · exact ⟨c.toNat, by rw [if_pos h]; omega, by omega, by omega⟩
  · exact ⟨n, by rw [if_neg h], Nat.le_refl _, by omega⟩
abbrev FA (V : World) (b : Nat) (k r : Int) (K : Value) (d v : Int) (C : Value) : Prop := V.cell? ⟨b, 0, none⟩ = some (.int .i64 k) ∧ V.cell? ⟨b, 1, none⟩ = some (.int .i64 r) ∧ V.cell? ⟨b, 2, none⟩ = some K ∧ V.cell? ⟨b, 3, none⟩ = some (.int .i64 d) ∧ V.cell? ⟨b, 4, none⟩ = some (.int .i64 v) ∧ V.cell? ⟨b, 5, none⟩ = some C
abbrev FZ (V : World) (b : Nat) (k r : Int) (K : Value) (d v : Int) (C : Value) : Prop := V.cell? ⟨b, 6, none⟩ = some (.int .i64 k) ∧ V.cell? ⟨b, 7, none⟩ = some (.int .i64 r) ∧ V.cell? ⟨b, 8, none⟩ = some K ∧ V.cell? ⟨b, 9, none⟩ = some (.int .i64 d) ∧ V.cell? ⟨b, 10, none⟩ = some (.int .i64 v) ∧ V.cell? ⟨b, 11, none⟩ = some C
abbrev R4 (V : World) (b : Nat) (x0 x1 x2 x3 : Int) : Prop := V.cell? ⟨b, 0, none⟩ = some (.int .i64 x0) ∧ V.cell? ⟨b, 1, none⟩ = some (.int .i64 x1) ∧ V.cell? ⟨b, 2, none⟩ = some (.int .i64 x2) ∧ V.cell? ⟨b, 3, none⟩ = some (.int .i64 x3)
theorem cm_slice {w : World} {v : Value} {l : List Int} (h : Cm w v l) : ∃ p n c, v = .slice p n c := by
  obtain ⟨po, cap, h, _⟩ := h
  exact ⟨_, _, _, h⟩
theorem cm_take {w : World} {po : Option Addr} {n m cap : Nat} {l : List Int} (h : Cm w (.slice po n cap) l) (hm : m ≤ n) : Cm w (.slice po m cap) (l.take m) := by
  obtain ⟨qo, cap', e, h1, h2, h3⟩ := h
  injection e with e1 e2 e3
  subst e1 e3
  refine ⟨po, cap, by rw [List.length_take, Nat.min_eq_left (by omega)], by rw [List.length_take]; omega, h2, fun hp => ?_⟩
  rw [List.length_take] at hp
  obtain ⟨b, off, rfl, hr⟩ := h3 (by omega)
  refine ⟨b, off, rfl, hr.lt, fun i hi => ?_⟩
  rw [List.length_take] at hi
  rw [hr.at' i (by omega)]
  simp only [cg, List.getD]
  rw [List.getElem?_take, if_pos (by omega)]

set_option maxHeartbeats 8000000 in
set_option maxRecDepth 100000 in
theorem walk (k ra d' va : Int) (K C : Value) (ks cs : List Int) (S : Value) (ss : List Int) (q0 q1 q2 q3 : Int) (w : World) (hK : Ca w K ks) (hC : Ca w C cs) (hS : Ca w S ss) (hq : I64 q0 ∧ I64 q1 ∧ I64 q2 ∧ I64 q3) : Calls Tryz.prog 3 #[fv k ra K d' va C, S, R.rv q0 q1 q2 q3] w fun e w' => e = .returned (.bool true) ∧ Below w.heap.size w w' := by
  have hs := ((St.start w).alloc (fo k ra K d' va C)).alloc (R.ro q0 q1 q2 q3)
  obtain ⟨pK, cK, rfl, hK1, hK2, hK3⟩ := hK.cm
  obtain ⟨pC, cC, rfl, hC1, hC2, hC3⟩ := hC.cm
  obtain ⟨pS, cS, rfl, hS1, hS2, hS3⟩ := hS.cm
  have HK := Lib.hid hK.cm; have HC := Lib.hid hC.cm; have HS := Lib.hid hS.cm
  clear hK hC hS hK3 hC3 hS3
  generalize hnK : ks.length = nK at *
  generalize hnC : cs.length = nC at *
  generalize hnS : ss.length = nS at *
  have HNN := Lib.hid (And.intro hnK (And.intro hnC hnS)); clear hnK hnC hnS
  obtain ⟨mK, hmK, lK, jK⟩ := cut_min nK 60 (by omega)
  obtain ⟨mC, hmC, lC, jC⟩ := cut_min nC 300 (by omega)
  obtain ⟨mS, hmS, lS, jS⟩ := cut_min nS 60 (by omega)
  have iK : (mK : Int) ≤ cK := by omega
  have iC : (mC : Int) ≤ cC := by omega
  have iS : (mS : Int) ≤ cS := by omega
  have HKm := Lib.hid (cm_take (m := mK) HK.out lK)
  have HCm := Lib.hid (cm_take (m := mC) HC.out lC)
  have HSm := Lib.hid (cm_take (m := mS) HS.out lS)
  have HQ := Lib.hid hq; clear hq HK HC HS HNN
  go_enter Tryz.func3, Tryz.ntmps3
  go_upto_region 1 with fail
  rw [World.size_alloc] at hs
  generalize (w.alloc (fo k ra (.slice pK nK cK) d' va (.slice pC nC cC))).alloc (R.ro q0 q1 q2 q3) = w1 at hs ⊢
  generalize hb : w.heap.size = b at hs ⊢
  have HB := Lib.hid hb; clear hb
  go_upto_region 2 with (go_at_call 4; (with_reducible refine (hs.call (sane_any _)).mono ?_); rintro e w2 ⟨rfl, h2⟩)
  clear hs
  have a2 : w2.cell? ⟨b, 2, none⟩ = some (.slice pK nK cK) := h2.cell (b := b) (cs := #[.int .i64 k, .int .i64 ra, .slice pK nK cK, .int .i64 d', .int .i64 va, .slice pC nC cC]) (t := 25) (by simp) 2
  have f2 := h2.frozen (b := b) (cs := #[.int .i64 k, .int .i64 ra, .slice pK nK cK, .int .i64 d', .int .i64 va, .slice pC nC cC]) (t := 25) (by simp) 2
  go_upto_region 3 with fail
  have h3 := put2 (Go.Proofs.YtihfpflnnhiikaaGreat.W.St.swap2 h2) (by have := HB.out; omega) (by simp) (.slice pK mK cK)
  clear a2 f2 h2
  generalize w2.setCell ⟨b, 2, none⟩ (.slice pK mK cK) = w3 at h3 ⊢
  have a5 : w3.cell? ⟨b, 5, none⟩ = some (.slice pC nC cC) := h3.cell (b := b) (cs := #[.int .i64 k, .int .i64 ra, .slice pK mK cK, .int .i64 d', .int .i64 va, .slice pC nC cC]) (t := 25) (by simp) 5
  have f5 := h3.frozen (b := b) (cs := #[.int .i64 k, .int .i64 ra, .slice pK mK cK, .int .i64 d', .int .i64 va, .slice pC nC cC]) (t := 25) (by simp) 5
  go_upto_region 4 with fail
  have h4 := put5 h3 (by have := HB.out; omega) (by simp) (.slice pC mC cC)
  clear a5 f5 h3 hmK hmC iK iC jK jC lK lC
  generalize w3.setCell ⟨b, 5, none⟩ (.slice pC mC cC) = w4 at h4 ⊢
  go_upto_region 5 with (go_at_call 5; (with_reducible refine (made_any _ _ _ (HSm.out.later h4.below)).mono ?_); rintro e w5 ⟨k2, r2, d2, v2, K2, C2, ks2, cs2, rfl, hb5, hK2', hC2', hv2⟩; obtain ⟨pK2, nK2, cK2, rfl⟩ := cm_slice hK2'; obtain ⟨pC2, nC2, cC2, rfl⟩ := cm_slice hC2')
  have h6 := (h4.later hb5).alloc (fo k2 r2 (.slice pK2 nK2 cK2) d2 v2 (.slice pC2 nC2 cC2))
  have HK2 := Lib.hid (hK2'.later (below1 (o := fo k2 r2 (.slice pK2 nK2 cK2) d2 v2 (.slice pC2 nC2 cC2))))
  have HC2 := Lib.hid (hC2'.later (below1 (o := fo k2 r2 (.slice pK2 nK2 cK2) d2 v2 (.slice pC2 nC2 cC2))))
  have HV2 := Lib.hid hv2
  have HBg : Hid (b + 1 < w5.heap.size) := (h4.later hb5).lt (b := b + 1) (o := R.ro q0 q1 q2 q3) (by simp)
  clear hmS lS jS iS h4 hK2' hC2' hv2 hb5 HSm
  generalize w5.alloc (fo k2 r2 (.slice pK2 nK2 cK2) d2 v2 (.slice pC2 nC2 cC2)) = w6 at h6 HK2 HC2 ⊢
  generalize w5.heap.size = g at h6 HBg ⊢
  have a0 := h6.cell (b := b) (cs := #[.int .i64 k, .int .i64 ra, .slice pK mK cK, .int .i64 d', .int .i64 va, .slice pC mC cC]) (t := 25) (by simp) 0
  have b0 := h6.cell (b := g) (cs := #[.int .i64 k2, .int .i64 r2, .slice pK2 nK2 cK2, .int .i64 d2, .int .i64 v2, .slice pC2 nC2 cC2]) (t := 25) (by simp) 0
  have a1 := h6.cell (b := b) (cs := #[.int .i64 k, .int .i64 ra, .slice pK mK cK, .int .i64 d', .int .i64 va, .slice pC mC cC]) (t := 25) (by simp) 1
  have b1 := h6.cell (b := g) (cs := #[.int .i64 k2, .int .i64 r2, .slice pK2 nK2 cK2, .int .i64 d2, .int .i64 v2, .slice pC2 nC2 cC2]) (t := 25) (by simp) 1
  have a2 := h6.cell (b := b) (cs := #[.int .i64 k, .int .i64 ra, .slice pK mK cK, .int .i64 d', .int .i64 va, .slice pC mC cC]) (t := 25) (by simp) 2
  have b2 := h6.cell (b := g) (cs := #[.int .i64 k2, .int .i64 r2, .slice pK2 nK2 cK2, .int .i64 d2, .int .i64 v2, .slice pC2 nC2 cC2]) (t := 25) (by simp) 2
  have a3 := h6.cell (b := b) (cs := #[.int .i64 k, .int .i64 ra, .slice pK mK cK, .int .i64 d', .int .i64 va, .slice pC mC cC]) (t := 25) (by simp) 3
  have b3 := h6.cell (b := g) (cs := #[.int .i64 k2, .int .i64 r2, .slice pK2 nK2 cK2, .int .i64 d2, .int .i64 v2, .slice pC2 nC2 cC2]) (t := 25) (by simp) 3
  have a4 := h6.cell (b := b) (cs := #[.int .i64 k, .int .i64 ra, .slice pK mK cK, .int .i64 d', .int .i64 va, .slice pC mC cC]) (t := 25) (by simp) 4
  have b4 := h6.cell (b := g) (cs := #[.int .i64 k2, .int .i64 r2, .slice pK2 nK2 cK2, .int .i64 d2, .int .i64 v2, .slice pC2 nC2 cC2]) (t := 25) (by simp) 4
  have a5 := h6.cell (b := b) (cs := #[.int .i64 k, .int .i64 ra, .slice pK mK cK, .int .i64 d', .int .i64 va, .slice pC mC cC]) (t := 25) (by simp) 5
  have b5 := h6.cell (b := g) (cs := #[.int .i64 k2, .int .i64 r2, .slice pK2 nK2 cK2, .int .i64 d2, .int .i64 v2, .slice pC2 nC2 cC2]) (t := 25) (by simp) 5
  simp only [List.getElem?_toArray, List.getElem?_cons_succ, List.getElem?_cons_zero] at a0 a1 a2 a3 a4 a5 b0 b1 b2 b3 b4 b5
  go_upto_region 6 with fail
  have h7 := h6.alloc (.cells #[.int .i64 k, .int .i64 ra, .slice pK mK cK, .int .i64 d', .int .i64 va, .slice pC mC cC, .int .i64 k2, .int .i64 r2, .slice pK2 nK2 cK2, .int .i64 d2, .int .i64 v2, .slice pC2 nC2 cC2] 30)
  have HK3 := Lib.hid (HK2.out.later (below1 (o := .cells #[.int .i64 k, .int .i64 ra, .slice pK mK cK, .int .i64 d', .int .i64 va, .slice pC mC cC, .int .i64 k2, .int .i64 r2, .slice pK2 nK2 cK2, .int .i64 d2, .int .i64 v2, .slice pC2 nC2 cC2] 30)))
  have HC3 := Lib.hid (HC2.out.later (below1 (o := .cells #[.int .i64 k, .int .i64 ra, .slice pK mK cK, .int .i64 d', .int .i64 va, .slice pC mC cC, .int .i64 k2, .int .i64 r2, .slice pK2 nK2 cK2, .int .i64 d2, .int .i64 v2, .slice pC2 nC2 cC2] 30)))
  clear h6 HK2 HC2 a0 b0 a1 b1 a2 b2 a3 b3 a4 b4 a5 b5
  generalize w6.alloc (.cells #[.int .i64 k, .int .i64 ra, .slice pK mK cK, .int .i64 d', .int .i64 va, .slice pC mC cC, .int .i64 k2, .int .i64 r2, .slice pK2 nK2 cK2, .int .i64 d2, .int .i64 v2, .slice pC2 nC2 cC2] 30) = w7 at h7 HK3 HC3 ⊢
  generalize w6.heap.size = l at h7 ⊢
  have e0 : w7.cell? ⟨b + 1, 0, none⟩ = some (.int .i64 q0) := h7.cell (b := b + 1) (cs := #[.int .i64 q0, .int .i64 q1, .int .i64 q2, .int .i64 q3]) (t := 27) (by simp) 0
  have e1 : w7.cell? ⟨b + 1, 1, none⟩ = some (.int .i64 q1) := h7.cell (b := b + 1) (cs := #[.int .i64 q0, .int .i64 q1, .int .i64 q2, .int .i64 q3]) (t := 27) (by simp) 1
  have e2 : w7.cell? ⟨b + 1, 2, none⟩ = some (.int .i64 q2) := h7.cell (b := b + 1) (cs := #[.int .i64 q0, .int .i64 q1, .int .i64 q2, .int .i64 q3]) (t := 27) (by simp) 2
  have e3 : w7.cell? ⟨b + 1, 3, none⟩ = some (.int .i64 q3) := h7.cell (b := b + 1) (cs := #[.int .i64 q0, .int .i64 q1, .int .i64 q2, .int .i64 q3]) (t := 27) (by simp) 3
  obtain ⟨m, hm⟩ : ∃ m : R.Rc, sml q0 q1 q2 q3 = m := ⟨_, rfl⟩
  have HM : Hid (I64 m.x0 ∧ I64 m.y0 ∧ I64 m.x1 ∧ I64 m.y1) := by rw [← hm]; exact sml_in _ _ _ _
  have HSM : Hid (∀ V, Calls Tryz.prog 6 #[.agg #[.int .i64 q0, .int .i64 q1, .int .i64 q2, .int .i64 q3]] V fun e w' => e = .returned m.v ∧ Below V.heap.size V w') := fun V => hm ▸ small_any q0 q1 q2 q3 V
  clear hm
  obtain ⟨m0, m1, m2, m3⟩ := m
  go_upto_region 7 with (go_at_call 6; (with_reducible refine (h7.call2 (HSM.out _)).mono ?_); rintro e w8 ⟨rfl, h8, hb8⟩)
  have h9 := h8.alloc (R.ro m0 m1 m2 m3)
  have HK4 := Lib.hid ((HK3.out.later hb8).later (below1 (o := R.ro m0 m1 m2 m3)))
  have HC4 := Lib.hid ((HC3.out.later hb8).later (below1 (o := R.ro m0 m1 m2 m3)))
  clear h7 h8 hb8 HK3 HC3 HSM e0 e1 e2 e3
  generalize w8.alloc (R.ro m0 m1 m2 m3) = w9 at h9 HK4 HC4 ⊢
  generalize w8.heap.size = nb at h9 ⊢
  have HKa := Lib.hid (HKm.out.later h9.below)
  have HCa := Lib.hid (HCm.out.later h9.below)
  clear HKm HCm
  have HP : Hid (∀ V, Below w9.heap.size w9 V → Below w9.heap.size w9 V ∧ FA V l k ra (.slice pK mK cK) d' va (.slice pC mC cC) ∧ FZ V l k2 r2 (.slice pK2 nK2 cK2) d2 v2 (.slice pC2 nC2 cC2) ∧ R4 V (b + 1) q0 q1 q2 q3 ∧ R4 V nb m0 m1 m2 m3 ∧ FA V g k2 r2 (.slice pK2 nK2 cK2) d2 v2 (.slice pC2 nC2 cC2)) := fun V hV => by
    have h := h9.later hV
    have c1 := h.cell (b := l) (cs := #[.int .i64 k, .int .i64 ra, .slice pK mK cK, .int .i64 d', .int .i64 va, .slice pC mC cC, .int .i64 k2, .int .i64 r2, .slice pK2 nK2 cK2, .int .i64 d2, .int .i64 v2, .slice pC2 nC2 cC2]) (t := 30) (by simp)
    have c2 := h.cell (b := b + 1) (cs := #[.int .i64 q0, .int .i64 q1, .int .i64 q2, .int .i64 q3]) (t := 27) (by simp)
    have c3 := h.cell (b := nb) (cs := #[.int .i64 m0, .int .i64 m1, .int .i64 m2, .int .i64 m3]) (t := 27) (by simp)
    have c4 := h.cell (b := g) (cs := #[.int .i64 k2, .int .i64 r2, .slice pK2 nK2 cK2, .int .i64 d2, .int .i64 v2, .slice pC2 nC2 cC2]) (t := 25) (by simp)
    exact ⟨hV, ⟨c1 0, c1 1, c1 2, c1 3, c1 4, c1 5⟩, ⟨c1 6, c1 7, c1 8, c1 9, c1 10, c1 11⟩, ⟨c2 0, c2 1, c2 2, c2 3⟩, ⟨c3 0, c3 1, c3 2, c3 3⟩, ⟨c4 0, c4 1, c4 2, c4 3, c4 4, c4 5⟩⟩
  have HBw := Lib.hid (Below.refl w9.heap.size w9)
  have HWb := Lib.hid h9.below
  clear h9 HB HBg
  go_upto_region 8 with fail
  go_loopw [11] (fun v11 wr => (v11 = .int .i64 0 ∨ v11 = .int .i64 1 ∨ v11 = .int .i64 2) ∧ Hid (Below w9.heap.size w9 wr)) (fun i _ => 2 - (intOf i).toNat)
  case atStart => exact ⟨.inl rfl, HBw⟩
  case round =>
    obtain ⟨rfl | rfl | rfl, HBr⟩ := hrel
    · as_aux_lemma =>
      obtain ⟨zN1, hzN1⟩ : ∃ z : R.Rc, rch (-1) (vf k ra (ks.take mK) d' va (cs.take mC)) k ra va q0 q1 q2 q3 = z := ⟨_, rfl⟩
      have HCzN1 : Hid (∀ V, Below w9.heap.size w9 V → Calls Tryz.prog 7 #[fv k ra (.slice pK mK cK) d' va (.slice pC mC cC), R.rv q0 q1 q2 q3] V fun e w' => e = .returned zN1.v ∧ Below w9.heap.size w9 w') := fun V hV => Below.call hV (hzN1 ▸ need_any k ra d' va q0 q1 q2 q3 (ks.take mK) (cs.take mC) (.slice pK mK cK) (.slice pC mC cC) V (HKa.out.later hV) (HCa.out.later hV))
      have HRzN1 : Hid (∀ V, Below w9.heap.size w9 V → Calls Tryz.prog 8 #[fv k ra (.slice pK mK cK) d' va (.slice pC mC cC), R.rv q0 q1 q2 q3] V fun e w' => e = .returned zN1.v ∧ Below w9.heap.size w9 w') := fun V hV => Below.call hV (hzN1 ▸ rfa_eq (s := (-1)) (k := k) (r := ra) (d := d') (v := va) (ks := ks.take mK) (cs := cs.take mC) HQ.out.1 HQ.out.2.1 HQ.out.2.2.1 HQ.out.2.2.2 ▸ rneed_any k ra d' va q0 q1 q2 q3 (ks.take mK) (cs.take mC) (.slice pK mK cK) (.slice pC mC cC) V (HKa.out.later hV) (HCa.out.later hV))
      clear hzN1
      obtain ⟨zN10, zN11, zN12, zN13⟩ := zN1
      obtain ⟨zS1, hzS1⟩ : ∃ z : R.Rc, rch 1 (vf k ra (ks.take mK) d' va (cs.take mC)) k ra va q0 q1 q2 q3 = z := ⟨_, rfl⟩
      have HCzS1 : Hid (∀ V, Below w9.heap.size w9 V → Calls Tryz.prog 9 #[fv k ra (.slice pK mK cK) d' va (.slice pC mC cC), R.rv q0 q1 q2 q3] V fun e w' => e = .returned zS1.v ∧ Below w9.heap.size w9 w') := fun V hV => Below.call hV (hzS1 ▸ spread_any k ra d' va q0 q1 q2 q3 (ks.take mK) (cs.take mC) (.slice pK mK cK) (.slice pC mC cC) V (HKa.out.later hV) (HCa.out.later hV))
      have HRzS1 : Hid (∀ V, Below w9.heap.size w9 V → Calls Tryz.prog 10 #[fv k ra (.slice pK mK cK) d' va (.slice pC mC cC), R.rv q0 q1 q2 q3] V fun e w' => e = .returned zS1.v ∧ Below w9.heap.size w9 w') := fun V hV => Below.call hV (hzS1 ▸ rfa_eq (s := 1) (k := k) (r := ra) (d := d') (v := va) (ks := ks.take mK) (cs := cs.take mC) HQ.out.1 HQ.out.2.1 HQ.out.2.2.1 HQ.out.2.2.2 ▸ rspread_any k ra d' va q0 q1 q2 q3 (ks.take mK) (cs.take mC) (.slice pK mK cK) (.slice pC mC cC) V (HKa.out.later hV) (HCa.out.later hV))
      clear hzS1
      obtain ⟨zS10, zS11, zS12, zS13⟩ := zS1
      obtain ⟨zn1, hzn1⟩ : ∃ z : R.Rc, rch (-1) (vf k ra (ks.take mK) d' va (cs.take mC)) k ra va m0 m1 m2 m3 = z := ⟨_, rfl⟩
      have HCzn1 : Hid (∀ V, Below w9.heap.size w9 V → Calls Tryz.prog 7 #[fv k ra (.slice pK mK cK) d' va (.slice pC mC cC), R.rv m0 m1 m2 m3] V fun e w' => e = .returned zn1.v ∧ Below w9.heap.size w9 w') := fun V hV => Below.call hV (hzn1 ▸ need_any k ra d' va m0 m1 m2 m3 (ks.take mK) (cs.take mC) (.slice pK mK cK) (.slice pC mC cC) V (HKa.out.later hV) (HCa.out.later hV))
      have HRzn1 : Hid (∀ V, Below w9.heap.size w9 V → Calls Tryz.prog 8 #[fv k ra (.slice pK mK cK) d' va (.slice pC mC cC), R.rv m0 m1 m2 m3] V fun e w' => e = .returned zn1.v ∧ Below w9.heap.size w9 w') := fun V hV => Below.call hV (hzn1 ▸ rfa_eq (s := (-1)) (k := k) (r := ra) (d := d') (v := va) (ks := ks.take mK) (cs := cs.take mC) HM.out.1 HM.out.2.1 HM.out.2.2.1 HM.out.2.2.2 ▸ rneed_any k ra d' va m0 m1 m2 m3 (ks.take mK) (cs.take mC) (.slice pK mK cK) (.slice pC mC cC) V (HKa.out.later hV) (HCa.out.later hV))
      clear hzn1
      obtain ⟨zn10, zn11, zn12, zn13⟩ := zn1
      obtain ⟨zs1, hzs1⟩ : ∃ z : R.Rc, rch 1 (vf k ra (ks.take mK) d' va (cs.take mC)) k ra va m0 m1 m2 m3 = z := ⟨_, rfl⟩
      have HCzs1 : Hid (∀ V, Below w9.heap.size w9 V → Calls Tryz.prog 9 #[fv k ra (.slice pK mK cK) d' va (.slice pC mC cC), R.rv m0 m1 m2 m3] V fun e w' => e = .returned zs1.v ∧ Below w9.heap.size w9 w') := fun V hV => Below.call hV (hzs1 ▸ spread_any k ra d' va m0 m1 m2 m3 (ks.take mK) (cs.take mC) (.slice pK mK cK) (.slice pC mC cC) V (HKa.out.later hV) (HCa.out.later hV))
      have HRzs1 : Hid (∀ V, Below w9.heap.size w9 V → Calls Tryz.prog 10 #[fv k ra (.slice pK mK cK) d' va (.slice pC mC cC), R.rv m0 m1 m2 m3] V fun e w' => e = .returned zs1.v ∧ Below w9.heap.size w9 w') := fun V hV => Below.call hV (hzs1 ▸ rfa_eq (s := 1) (k := k) (r := ra) (d := d') (v := va) (ks := ks.take mK) (cs := cs.take mC) HM.out.1 HM.out.2.1 HM.out.2.2.1 HM.out.2.2.2 ▸ rspread_any k ra d' va m0 m1 m2 m3 (ks.take mK) (cs.take mC) (.slice pK mK cK) (.slice pC mC cC) V (HKa.out.later hV) (HCa.out.later hV))
      clear hzs1
      obtain ⟨zs10, zs11, zs12, zs13⟩ := zs1
      have hd := HBr.out.drew
      obtain ⟨_, hFA, hFZ, hR1, hR2, hG⟩ := HP.out _ HBr.out
      go_upto_region 10 with fail
      clear hFA hFZ hR1 hR2 hG
      obtain ⟨_, hFA, hFZ, hR1, hR2, hG⟩ := HP.out _ hd
      go_region_held3 (fun V => Below w9.heap.size w9 V ∧ FA V l k ra (.slice pK mK cK) d' va (.slice pC mC cC) ∧ FZ V l k2 r2 (.slice pK2 nK2 cK2) d2 v2 (.slice pC2 nC2 cC2) ∧ R4 V (b + 1) q0 q1 q2 q3 ∧ R4 V nb m0 m1 m2 m3 ∧ FA V g k2 r2 (.slice pK2 nK2 cK2) d2 v2 (.slice pC2 nC2 cC2)) ((refine HP.out _ ?_; assumption)) (first
        | (go_at_call 7; (with_reducible refine (HCzN1.out _ (by assumption)).mono ?_); rintro e w4 ⟨rfl, h4⟩)
        | (go_at_call 8; (with_reducible refine (HRzN1.out _ (by assumption)).mono ?_); rintro e w4 ⟨rfl, h4⟩)
        | (go_at_call 9; (with_reducible refine (HCzS1.out _ (by assumption)).mono ?_); rintro e w4 ⟨rfl, h4⟩)
        | (go_at_call 10; (with_reducible refine (HRzS1.out _ (by assumption)).mono ?_); rintro e w4 ⟨rfl, h4⟩)
        | (go_at_call 7; (with_reducible refine (HCzn1.out _ (by assumption)).mono ?_); rintro e w4 ⟨rfl, h4⟩)
        | (go_at_call 8; (with_reducible refine (HRzn1.out _ (by assumption)).mono ?_); rintro e w4 ⟨rfl, h4⟩)
        | (go_at_call 9; (with_reducible refine (HCzs1.out _ (by assumption)).mono ?_); rintro e w4 ⟨rfl, h4⟩)
        | (go_at_call 10; (with_reducible refine (HRzs1.out _ (by assumption)).mono ?_); rintro e w4 ⟨rfl, h4⟩))
      rename_i hHeld
      obtain ⟨hX, _⟩ := hHeld
      go_wp2_with fail
      go_roundw
      case rel => exact ⟨.inr (.inl rfl), Lib.hid hX⟩
      case measure => simp [intOf]
    · as_aux_lemma =>
      obtain ⟨zN2, hzN2⟩ : ∃ z : R.Rc, rch (-1) (vf k2 r2 (ks2) d2 v2 (cs2)) k2 r2 v2 q0 q1 q2 q3 = z := ⟨_, rfl⟩
      have HCzN2 : Hid (∀ V, Below w9.heap.size w9 V → Calls Tryz.prog 7 #[fv k2 r2 (.slice pK2 nK2 cK2) d2 v2 (.slice pC2 nC2 cC2), R.rv q0 q1 q2 q3] V fun e w' => e = .returned zN2.v ∧ Below w9.heap.size w9 w') := fun V hV => Below.call hV (hzN2 ▸ need_any k2 r2 d2 v2 q0 q1 q2 q3 (ks2) (cs2) (.slice pK2 nK2 cK2) (.slice pC2 nC2 cC2) V (HK4.out.later hV) (HC4.out.later hV))
      have HRzN2 : Hid (∀ V, Below w9.heap.size w9 V → Calls Tryz.prog 8 #[fv k2 r2 (.slice pK2 nK2 cK2) d2 v2 (.slice pC2 nC2 cC2), R.rv q0 q1 q2 q3] V fun e w' => e = .returned zN2.v ∧ Below w9.heap.size w9 w') := fun V hV => Below.call hV (hzN2 ▸ rfa_eq (s := (-1)) (k := k2) (r := r2) (d := d2) (v := v2) (ks := ks2) (cs := cs2) HQ.out.1 HQ.out.2.1 HQ.out.2.2.1 HQ.out.2.2.2 ▸ rneed_any k2 r2 d2 v2 q0 q1 q2 q3 (ks2) (cs2) (.slice pK2 nK2 cK2) (.slice pC2 nC2 cC2) V (HK4.out.later hV) (HC4.out.later hV))
      clear hzN2
      obtain ⟨zN20, zN21, zN22, zN23⟩ := zN2
      obtain ⟨zS2, hzS2⟩ : ∃ z : R.Rc, rch 1 (vf k2 r2 (ks2) d2 v2 (cs2)) k2 r2 v2 q0 q1 q2 q3 = z := ⟨_, rfl⟩
      have HCzS2 : Hid (∀ V, Below w9.heap.size w9 V → Calls Tryz.prog 9 #[fv k2 r2 (.slice pK2 nK2 cK2) d2 v2 (.slice pC2 nC2 cC2), R.rv q0 q1 q2 q3] V fun e w' => e = .returned zS2.v ∧ Below w9.heap.size w9 w') := fun V hV => Below.call hV (hzS2 ▸ spread_any k2 r2 d2 v2 q0 q1 q2 q3 (ks2) (cs2) (.slice pK2 nK2 cK2) (.slice pC2 nC2 cC2) V (HK4.out.later hV) (HC4.out.later hV))
      have HRzS2 : Hid (∀ V, Below w9.heap.size w9 V → Calls Tryz.prog 10 #[fv k2 r2 (.slice pK2 nK2 cK2) d2 v2 (.slice pC2 nC2 cC2), R.rv q0 q1 q2 q3] V fun e w' => e = .returned zS2.v ∧ Below w9.heap.size w9 w') := fun V hV => Below.call hV (hzS2 ▸ rfa_eq (s := 1) (k := k2) (r := r2) (d := d2) (v := v2) (ks := ks2) (cs := cs2) HQ.out.1 HQ.out.2.1 HQ.out.2.2.1 HQ.out.2.2.2 ▸ rspread_any k2 r2 d2 v2 q0 q1 q2 q3 (ks2) (cs2) (.slice pK2 nK2 cK2) (.slice pC2 nC2 cC2) V (HK4.out.later hV) (HC4.out.later hV))
      clear hzS2
      obtain ⟨zS20, zS21, zS22, zS23⟩ := zS2
      obtain ⟨zn2, hzn2⟩ : ∃ z : R.Rc, rch (-1) (vf k2 r2 (ks2) d2 v2 (cs2)) k2 r2 v2 m0 m1 m2 m3 = z := ⟨_, rfl⟩
      have HCzn2 : Hid (∀ V, Below w9.heap.size w9 V → Calls Tryz.prog 7 #[fv k2 r2 (.slice pK2 nK2 cK2) d2 v2 (.slice pC2 nC2 cC2), R.rv m0 m1 m2 m3] V fun e w' => e = .returned zn2.v ∧ Below w9.heap.size w9 w') := fun V hV => Below.call hV (hzn2 ▸ need_any k2 r2 d2 v2 m0 m1 m2 m3 (ks2) (cs2) (.slice pK2 nK2 cK2) (.slice pC2 nC2 cC2) V (HK4.out.later hV) (HC4.out.later hV))
      have HRzn2 : Hid (∀ V, Below w9.heap.size w9 V → Calls Tryz.prog 8 #[fv k2 r2 (.slice pK2 nK2 cK2) d2 v2 (.slice pC2 nC2 cC2), R.rv m0 m1 m2 m3] V fun e w' => e = .returned zn2.v ∧ Below w9.heap.size w9 w') := fun V hV => Below.call hV (hzn2 ▸ rfa_eq (s := (-1)) (k := k2) (r := r2) (d := d2) (v := v2) (ks := ks2) (cs := cs2) HM.out.1 HM.out.2.1 HM.out.2.2.1 HM.out.2.2.2 ▸ rneed_any k2 r2 d2 v2 m0 m1 m2 m3 (ks2) (cs2) (.slice pK2 nK2 cK2) (.slice pC2 nC2 cC2) V (HK4.out.later hV) (HC4.out.later hV))
      clear hzn2
      obtain ⟨zn20, zn21, zn22, zn23⟩ := zn2
      obtain ⟨zs2, hzs2⟩ : ∃ z : R.Rc, rch 1 (vf k2 r2 (ks2) d2 v2 (cs2)) k2 r2 v2 m0 m1 m2 m3 = z := ⟨_, rfl⟩
      have HCzs2 : Hid (∀ V, Below w9.heap.size w9 V → Calls Tryz.prog 9 #[fv k2 r2 (.slice pK2 nK2 cK2) d2 v2 (.slice pC2 nC2 cC2), R.rv m0 m1 m2 m3] V fun e w' => e = .returned zs2.v ∧ Below w9.heap.size w9 w') := fun V hV => Below.call hV (hzs2 ▸ spread_any k2 r2 d2 v2 m0 m1 m2 m3 (ks2) (cs2) (.slice pK2 nK2 cK2) (.slice pC2 nC2 cC2) V (HK4.out.later hV) (HC4.out.later hV))
      have HRzs2 : Hid (∀ V, Below w9.heap.size w9 V → Calls Tryz.prog 10 #[fv k2 r2 (.slice pK2 nK2 cK2) d2 v2 (.slice pC2 nC2 cC2), R.rv m0 m1 m2 m3] V fun e w' => e = .returned zs2.v ∧ Below w9.heap.size w9 w') := fun V hV => Below.call hV (hzs2 ▸ rfa_eq (s := 1) (k := k2) (r := r2) (d := d2) (v := v2) (ks := ks2) (cs := cs2) HM.out.1 HM.out.2.1 HM.out.2.2.1 HM.out.2.2.2 ▸ rspread_any k2 r2 d2 v2 m0 m1 m2 m3 (ks2) (cs2) (.slice pK2 nK2 cK2) (.slice pC2 nC2 cC2) V (HK4.out.later hV) (HC4.out.later hV))
      clear hzs2
      obtain ⟨zs20, zs21, zs22, zs23⟩ := zs2
      have hd := HBr.out.drew
      obtain ⟨_, hFA, hFZ, hR1, hR2, hG⟩ := HP.out _ HBr.out
      go_upto_region 10 with fail
      clear hFA hFZ hR1 hR2 hG
      obtain ⟨_, hFA, hFZ, hR1, hR2, hG⟩ := HP.out _ hd
      go_region_held3 (fun V => Below w9.heap.size w9 V ∧ FA V l k ra (.slice pK mK cK) d' va (.slice pC mC cC) ∧ FZ V l k2 r2 (.slice pK2 nK2 cK2) d2 v2 (.slice pC2 nC2 cC2) ∧ R4 V (b + 1) q0 q1 q2 q3 ∧ R4 V nb m0 m1 m2 m3 ∧ FA V g k2 r2 (.slice pK2 nK2 cK2) d2 v2 (.slice pC2 nC2 cC2)) ((refine HP.out _ ?_; assumption)) (first
        | (go_at_call 7; (with_reducible refine (HCzN2.out _ (by assumption)).mono ?_); rintro e w4 ⟨rfl, h4⟩)
        | (go_at_call 8; (with_reducible refine (HRzN2.out _ (by assumption)).mono ?_); rintro e w4 ⟨rfl, h4⟩)
        | (go_at_call 9; (with_reducible refine (HCzS2.out _ (by assumption)).mono ?_); rintro e w4 ⟨rfl, h4⟩)
        | (go_at_call 10; (with_reducible refine (HRzS2.out _ (by assumption)).mono ?_); rintro e w4 ⟨rfl, h4⟩)
        | (go_at_call 7; (with_reducible refine (HCzn2.out _ (by assumption)).mono ?_); rintro e w4 ⟨rfl, h4⟩)
        | (go_at_call 8; (with_reducible refine (HRzn2.out _ (by assumption)).mono ?_); rintro e w4 ⟨rfl, h4⟩)
        | (go_at_call 9; (with_reducible refine (HCzs2.out _ (by assumption)).mono ?_); rintro e w4 ⟨rfl, h4⟩)
        | (go_at_call 10; (with_reducible refine (HRzs2.out _ (by assumption)).mono ?_); rintro e w4 ⟨rfl, h4⟩))
      rename_i hHeld
      obtain ⟨hX, _⟩ := hHeld
      go_wp2_with fail
      go_roundw
      case rel => exact ⟨.inr (.inr rfl), Lib.hid hX⟩
      case measure => simp [intOf]
    · as_aux_lemma =>
      clear HBw HKa HCa HQ HM
      have hv2 := HV2.out
      have HN0 : Hid (∀ V, Below w9.heap.size w9 V → Calls Tryz.prog 7 #[fv k2 r2 (.slice pK2 nK2 cK2) d2 v2 (.slice pC2 nC2 cC2), R.rv 0 0 1 1] V fun e w' => e = .returned (rch (-1) true k2 r2 v2 0 0 1 1).v ∧ Below w9.heap.size w9 w') := fun V hV => Below.call hV (hv2 ▸ need_any k2 r2 d2 v2 0 0 1 1 ks2 cs2 _ _ V (HK4.out.later hV) (HC4.out.later hV))
      have HS0 : Hid (∀ V x y, Below w9.heap.size w9 V → Calls Tryz.prog 9 #[fv k2 r2 (.slice pK2 nK2 cK2) d2 v2 (.slice pC2 nC2 cC2), R.rv x y (x + 1) (y + 1)] V fun e w' => e = .returned (rch 1 true k2 r2 v2 x y (x + 1) (y + 1)).v ∧ Below w9.heap.size w9 w') := fun V x y hV => Below.call hV (hv2 ▸ spread_any k2 r2 d2 v2 x y (x + 1) (y + 1) ks2 cs2 _ _ V (HK4.out.later hV) (HC4.out.later hV))
      clear hv2 HK4 HC4
      have HO0 : Hid (∀ V, Below w9.heap.size w9 V → Calls Tryz.prog 12 #[.int .i64 0, .int .i64 0] V fun e w' => e = .returned (R.rv 0 0 1 1) ∧ Below w9.heap.size w9 w') := fun V hV => Below.call hV (one_any 0 0 V (by omega) (by omega))
      go_upto_region 13 with fail
      go_loopw [12] (fun v12 wr => ∃ y : Int, (-4 ≤ y ∧ y ≤ 5) ∧ v12 = .int .i64 y ∧ Hid (Below w9.heap.size w9 wr)) (fun i _ => (5 - intOf i).toNat)
      case atStart => exact ⟨-4, by omega, rfl, HBr⟩
      case round =>
        clear HBr
        obtain ⟨y, hy, rfl, HBr⟩ := hrel
        by_cases hlt : y ≤ 4
        · as_aux_lemma =>
          go_upto_region 15 with fail
          have HY := Lib.hid (And.intro hy.1 hlt)
          clear hy hlt
          go_upto_region 16 with fail
          go_loopw [13] (fun v13 wr => ∃ x : Int, (-4 ≤ x ∧ x ≤ 5) ∧ v13 = .int .i64 x ∧ Hid (Below w9.heap.size w9 wr)) (fun i _ => (5 - intOf i).toNat)
          case atStart => exact ⟨-4, by omega, rfl, HBr⟩
          case round =>
            clear HBr
            obtain ⟨x, hx, rfl, HBr⟩ := hrel
            by_cases hlt : x ≤ 4
            · as_aux_lemma =>
              go_upto_region 18 with fail
              have HX := Lib.hid (And.intro hx.1 hlt)
              clear hx hlt
              have HO : Hid (∀ V, Below w9.heap.size w9 V → Calls Tryz.prog 12 #[.int .i64 x, .int .i64 y] V fun e w' => e = .returned (R.rv x y (x + 1) (y + 1)) ∧ Below w9.heap.size w9 w') := fun V hV => Below.call hV (one_any x y V (by have := HX.out; omega) (by have := HY.out; omega))
              have hne := near_eq HV2.out HX.out HY.out
              obtain ⟨zn, hzn⟩ : ∃ z : R.Rc, rch (-1) true k2 r2 v2 0 0 1 1 = z := ⟨_, rfl⟩
              obtain ⟨zs, hzs⟩ : ∃ z : R.Rc, rch 1 true k2 r2 v2 x y (x + 1) (y + 1) = z := ⟨_, rfl⟩
              rw [hzn, hzs] at hne
              have HN1 : Hid (∀ V, Below w9.heap.size w9 V → Calls Tryz.prog 7 #[fv k2 r2 (.slice pK2 nK2 cK2) d2 v2 (.slice pC2 nC2 cC2), R.rv 0 0 1 1] V fun e w' => e = .returned (R.rv zn.x0 zn.y0 zn.x1 zn.y1) ∧ Below w9.heap.size w9 w') := fun V hV => hzn ▸ HN0.out V hV
              have HS1 : Hid (∀ V, Below w9.heap.size w9 V → Calls Tryz.prog 9 #[fv k2 r2 (.slice pK2 nK2 cK2) d2 v2 (.slice pC2 nC2 cC2), R.rv x y (x + 1) (y + 1)] V fun e w' => e = .returned (R.rv zs.x0 zs.y0 zs.x1 zs.y1) ∧ Below w9.heap.size w9 w') := fun V hV => hzs ▸ HS0.out V x y hV
              obtain ⟨q, hq⟩ : ∃ q : Bool, R.ins 0 0 1 1 zs.x0 zs.y0 zs.x1 zs.y1 = q := ⟨_, rfl⟩
              rw [hq] at hne
              have HI1 : Hid (∀ V, Below w9.heap.size w9 V → Calls Tryz.prog 11 #[R.rv x y (x + 1) (y + 1), R.rv zn.x0 zn.y0 zn.x1 zn.y1] V fun e w' => e = .returned (.bool q) ∧ Below w9.heap.size w9 w') := fun V hV => Below.call hV (hne ▸ R.refInside_any _ _ _ _ _ _ _ _ V)
              have HI2 : Hid (∀ V, Below w9.heap.size w9 V → Calls Tryz.prog 11 #[R.rv 0 0 1 1, R.rv zs.x0 zs.y0 zs.x1 zs.y1] V fun e w' => e = .returned (.bool q) ∧ Below w9.heap.size w9 w') := fun V hV => Below.call hV (hq ▸ R.refInside_any _ _ _ _ _ _ _ _ V)
              clear hne hzn hzs hq
              obtain ⟨zn0, zn1, zn2, zn3⟩ := zn
              obtain ⟨zs0, zs1, zs2, zs3⟩ := zs
              dsimp only at HN1 HS1 HI1 HI2
              have hd := HBr.out.drew
              obtain ⟨_, _, _, _, _, hG⟩ := HP.out _ hd
              go_region_held3 (fun V => Below w9.heap.size w9 V ∧ FA V g k2 r2 (.slice pK2 nK2 cK2) d2 v2 (.slice pC2 nC2 cC2)) ((refine (fun h => ⟨h, (HP.out _ h).2.2.2.2.2⟩ : Below w9.heap.size w9 _ → _) ?_; assumption)) (first
                | (go_at_call 12; (with_reducible refine (HO.out _ (by assumption)).mono ?_); rintro e w4 ⟨rfl, h4⟩)
                | (go_at_call 12; (with_reducible refine (HO0.out _ (by assumption)).mono ?_); rintro e w4 ⟨rfl, h4⟩)
                | (go_at_call 7; (with_reducible refine (HN1.out _ (by assumption)).mono ?_); rintro e w4 ⟨rfl, h4⟩)
                | (go_at_call 11; (with_reducible refine (HI1.out _ (by assumption)).mono ?_); rintro e w4 ⟨rfl, h4⟩))
              rename_i hHeld
              obtain ⟨hX, _⟩ := hHeld
              clear hd hG
              go_upto_region 19 with fail
              have hd := hX.drew
              clear h4 hX
              obtain ⟨_, _, _, _, _, hG⟩ := HP.out _ hd
              go_region_held3 (fun V => Below w9.heap.size w9 V ∧ FA V g k2 r2 (.slice pK2 nK2 cK2) d2 v2 (.slice pC2 nC2 cC2)) ((refine (fun h => ⟨h, (HP.out _ h).2.2.2.2.2⟩ : Below w9.heap.size w9 _ → _) ?_; assumption)) (first
                | (go_at_call 12; (with_reducible refine (HO.out _ (by assumption)).mono ?_); rintro e w4 ⟨rfl, h4⟩)
                | (go_at_call 12; (with_reducible refine (HO0.out _ (by assumption)).mono ?_); rintro e w4 ⟨rfl, h4⟩)
                | (go_at_call 9; (with_reducible refine (HS1.out _ (by assumption)).mono ?_); rintro e w4 ⟨rfl, h4⟩)
                | (go_at_call 11; (with_reducible refine (HI2.out _ (by assumption)).mono ?_); rintro e w4 ⟨rfl, h4⟩))
              rename_i hHeld
              obtain ⟨hX, _⟩ := hHeld
              obtain ⟨hx0, hx1⟩ := HX.out
              have hw1 : wrap64 (x + 1) = x + 1 := wrap_in (by omega)
              go_wp2_with fail
              go_roundw
              case rel => exact ⟨x + 1, by omega, by go_num, Lib.hid hX⟩
              case measure => (first | exact msr5 hx1 hw1 | exact msr6 hx1)
            · as_aux_lemma =>
              obtain ⟨hy0, hy1⟩ := HY.out
              have hw1 : wrap64 (y + 1) = y + 1 := wrap_in (by omega)
              obtain rfl : x = 5 := by omega
              go_wp2_with fail
              go_roundw
              case rel => exact ⟨y + 1, by omega, by go_num, HBr⟩
              case measure => (first | exact msr5 hy1 hw1 | exact msr6 hy1)
        · as_aux_lemma =>
          obtain rfl : y = 5 := by omega
          go_wp2_with fail
          go_ret
          exact ⟨rfl, HWb.out.trans (HBr.out.mono HWb.out.size)⟩
theorem lifted (os : Os) (started : os.Started) (H : Type) (enc : TypeId × Value → H) :
    ReturnsInHanded {} Tryz.checked os 3 .any (Rows.filterAreasSpec.pre6 enc Tryz.prog Tryz.f3 Rows.filterAreasRow.domain false) (Rows.filterAreasSpec.post enc Tryz.prog Tryz.f3 false true false false) := by
  refine returnsInHanded_of_change_sized (C := Tryz.checked) own started (by kernel_rfl) Tryz.func3
    (ChangeSpec.witness6 (enc := enc) (C := Tryz.checked) false ⟨#[], #[.agg #[.int .i64 0, .int .i64 0, .slice none 0 0, .int .i64 0, .int .i64 0, .slice none 0 0], .slice none 0 0, .agg #[.int .i64 0, .int .i64 0, .int .i64 0, .int .i64 0]], []⟩ 8 (by kernel_rfl) (by kernel_rfl) (by kernel_rfl) (by kernel_rfl)) ?_
  intro W base args ds gs before hval0 hW _ _ _
  have hval : ∀ (j : Nat) t v, Tryz.f3.params[j]? = some t → args[j]? = some v → Value.okWide Tryz.prog W .any base t v := hval0
  have hW' := hW
  obtain ⟨p, q, hA0, hV, rfl, hfz, hnd⟩ := hW
  have hA : DataW.TrodAll enc Tryz.prog W 0 (fun _ => true) true Tryz.f3.params.toList args.toList ds p := hA0
  rw [Tryz.params3] at hA hval
  obtain ⟨v0, v1, v2, d0, d1, d2, p0, p1, p2, rfl, rfl, rfl, h0, h1, h2⟩ := trodAll_three hA
  obtain ⟨rfl, rfl⟩ := trodVars_none hV
  obtain ⟨k, ra, d', va, K, C, ks, cs, rfl, hK, hC⟩ := open_filter (hval 0 25 v0 rfl rfl) h0
  obtain ⟨ss, hS⟩ := open_ca 22 Tryz.underlying22 (hval 1 22 v1 rfl rfl) h1
  obtain ⟨q0, q1, q2, q3, rfl, hq⟩ := open_rect (hval 2 27 v2 rfl rfl)
  refine (walk k ra d' va K C ks cs v1 ss q0 q1 q2 q3 W hK hC hS hq).mono fun e W' ⟨he, hb⟩ => ?_
  subst he
  exact ⟨_, rfl, law_post hW' rfl (by kernel_rfl) rfl (by intro t ht; rw [Tryz.params3] at ht; simp at ht; rcases ht with rfl | rfl | rfl <;> exact ⟨by kernel_rfl, of_decide_eq_true (by kernel_rfl)⟩) hb⟩

theorem holds : Rows.FilterAreasSaid :=
  OpenClaim.holds_of_wide 3 Tryz.f3 rfl rfl rfl rfl rfl rfl rfl ⟨rfl, rfl, rfl, rfl, rfl⟩ rfl rfl rfl rfl rfl (by kernel_rfl) Tryz.func3 (by kernel_rfl)
    (of_decide_eq_true (by kernel_rfl)) (by unfold Func.isWrapper; first | (rw [if_pos (by decide +kernel)]; kernel_rfl) | (rw [if_neg (by decide +kernel)]; exact ⟨rfl, rfl⟩))
    (fun os started H enc _ => lifted os started H enc)
end Go.Proofs.YtihfpflnnhiikaaGreat.W.WLAreas
