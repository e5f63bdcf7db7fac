/-
  FilterValid: Valid, Local, Clear and Bytes return what the reference returns, also after one field of a valid filter has been changed. No conditions.
-/
import Derived.Test.YtbodmeiecdomfaaGreatWLaw
import Derived.Test.YtbodmeiecdomfaaGreatWByt
import Derived.Test.YtbodmeiecdomfaaGreatWLcl
import Derived.Deep.CutBlock
namespace Go.Proofs.YtbodmeiecdomfaaGreat.W.WLValid
open Go.ChangeShapes Go.WideShapes Go.ChangeAt Go.RowKit
set_option maxRecDepth 100000

theorem cut_min (n : Nat) (c : Int) (hc : 0 ≤ c) : ∃ m : Nat, ((if c < (n : Int) then c else (n : Int)) = m ∧ min (n : Int) c = m) ∧ m ≤ n ∧ (m : Int) ≤ c := by
  by_cases h : c < (n : Int)
  · exact ⟨c.toNat, ⟨by rw [if_pos h]; omega, by omega⟩, by omega, by omega⟩
  · exact ⟨n, ⟨by rw [if_neg h], by omega⟩, Nat.le_refl _, by omega⟩
abbrev F0 (V : World) (b : Nat) (k r : Int) (K : Value) (d v : Int) (C : Value) : Prop := V.cell? ⟨b, 0, none⟩ = some (.int .i64 k) ∧ V.cell? ⟨b, 1, none⟩ = some (.int .i64 r) ∧ V.cell? ⟨b, 2, none⟩ = some K ∧ V.cell? ⟨b, 3, none⟩ = some (.int .i64 d) ∧ V.cell? ⟨b, 4, none⟩ = some (.int .i64 v) ∧ V.cell? ⟨b, 5, none⟩ = some C
abbrev F1 (V : World) (b : Nat) (k r : Int) (K : Value) (d v : Int) (C : Value) : Prop := V.cell? ⟨b, 6, none⟩ = some (.int .i64 k) ∧ V.cell? ⟨b, 7, none⟩ = some (.int .i64 r) ∧ V.cell? ⟨b, 8, none⟩ = some K ∧ V.cell? ⟨b, 9, none⟩ = some (.int .i64 d) ∧ V.cell? ⟨b, 10, none⟩ = some (.int .i64 v) ∧ V.cell? ⟨b, 11, none⟩ = some C
abbrev F2 (V : World) (b : Nat) (k r : Int) (K : Value) (d v : Int) (C : Value) : Prop := V.cell? ⟨b, 12, none⟩ = some (.int .i64 k) ∧ V.cell? ⟨b, 13, none⟩ = some (.int .i64 r) ∧ V.cell? ⟨b, 14, none⟩ = some K ∧ V.cell? ⟨b, 15, none⟩ = some (.int .i64 d) ∧ V.cell? ⟨b, 16, none⟩ = some (.int .i64 v) ∧ V.cell? ⟨b, 17, none⟩ = some C
theorem cm_slice {w : World} {v : Value} {l : List Int} (h : Cm w v l) : ∃ p n c, v = .slice p n c := by
  obtain ⟨po, cap, h, _⟩ := h
  exact ⟨_, _, _, h⟩
theorem cm_take {w : World} {po : Option Addr} {n m cap : Nat} {l : List Int} (h : Cm w (.slice po n cap) l) (hm : m ≤ n) : Cm w (.slice po m cap) (l.take m) := by
  obtain ⟨qo, cap', e, h1, h2, h3⟩ := h
  injection e with e1 e2 e3
  subst e1 e3
  refine ⟨po, cap, by rw [List.length_take, Nat.min_eq_left (by omega)], by rw [List.length_take]; omega, h2, fun hp => ?_⟩
  rw [List.length_take] at hp
  obtain ⟨b, off, rfl, hr⟩ := h3 (by omega)
  refine ⟨b, off, rfl, hr.lt, fun i hi => ?_⟩
  rw [List.length_take] at hi
  rw [hr.at' i (by omega)]
  simp only [cg, List.getD]
  rw [List.getElem?_take, if_pos (by omega)]
theorem agg_n2 {W : World} {r : Reach} {base : Nat} {v : Value} (hv : Value.okWide Tryz.prog W r base 26 v) : ∃ x y : Int, v = .agg #[.int .i64 x, .int .i64 y] := by
  obtain ⟨l, hl, rfl⟩ := agg_ints (n := 2) (t := 26) (by kernel_rfl) (by kernel_rfl) (by kernel_rfl) hv
  match l, hl with
  | [a, b], _ => exact ⟨a, b, rfl⟩

set_option maxHeartbeats 8000000 in
set_option maxRecDepth 100000 in
theorem walk (k ra d' va : Int) (K C : Value) (ks cs : List Int) (S : Value) (ss : List Int) (x y : Int) (w : World) (hK : Ca w K ks) (hC : Ca w C cs) (hS : Ca w S ss) : Calls Tryz.prog 3 #[fv k ra K d' va C, S, .agg #[.int .i64 x, .int .i64 y]] w fun e w' => e = .returned (.bool true) ∧ Below w.heap.size w w' := by
  have hs := ((St.start w).alloc (fo k ra K d' va C)).alloc (.cells #[.int .i64 x, .int .i64 y] 26)
  obtain ⟨pK, cK, rfl, hK1, hK2, hK3⟩ := hK.cm
  obtain ⟨pC, cC, rfl, hC1, hC2, hC3⟩ := hC.cm
  obtain ⟨pS, cS, rfl, hS1, hS2, hS3⟩ := hS.cm
  have HK := Lib.hid hK.cm; have HC := Lib.hid hC.cm; have HS := Lib.hid hS.cm
  clear hK hC hS hK3 hC3 hS3
  generalize hnK : ks.length = nK at *
  generalize hnC : cs.length = nC at *
  generalize hnS : ss.length = nS at *
  clear hnK hnC hnS
  obtain ⟨mK, ⟨hmK, hnK⟩, lK, jK⟩ := cut_min nK 60 (by omega)
  obtain ⟨mC, ⟨hmC, hnC⟩, lC, jC⟩ := cut_min nC 300 (by omega)
  obtain ⟨mS, ⟨hmS, hnS⟩, lS, jS⟩ := cut_min nS 60 (by omega)
  have iK : (mK : Int) ≤ cK := by omega
  have iC : (mC : Int) ≤ cC := by omega
  have iS : (mS : Int) ≤ cS := by omega
  have HKm := Lib.hid (cm_take (m := mK) HK.out lK)
  have HCm := Lib.hid (cm_take (m := mC) HC.out lC)
  have HSm := Lib.hid (cm_take (m := mS) HS.out lS)
  have HLa : Hid ((ks.take mK).length ≤ 60 ∧ (cs.take mC).length ≤ 300) := ⟨by rw [List.length_take]; omega, by rw [List.length_take]; omega⟩
  clear HK HC HS
  obtain ⟨m, hm, hm7⟩ := and3 x
  go_enter Tryz.func3, Tryz.ntmps3
  go_upto_region 1 with fail
  rw [World.size_alloc] at hs
  generalize (w.alloc (fo k ra (.slice pK nK cK) d' va (.slice pC nC cC))).alloc (.cells #[.int .i64 x, .int .i64 y] 26) = w1 at hs ⊢
  generalize hb : w.heap.size = b at hs ⊢
  have HB := Lib.hid hb; clear hb
  go_upto_region 2 with (go_at_call 4; (with_reducible refine (hs.call (sane_any _)).mono ?_); rintro e w2 ⟨rfl, h2⟩)
  clear hs
  have a2 : w2.cell? ⟨b, 2, none⟩ = some (.slice pK nK cK) := h2.cell (b := b) (cs := #[.int .i64 k, .int .i64 ra, .slice pK nK cK, .int .i64 d', .int .i64 va, .slice pC nC cC]) (t := 25) (by simp) 2
  have f2 := h2.frozen (b := b) (cs := #[.int .i64 k, .int .i64 ra, .slice pK nK cK, .int .i64 d', .int .i64 va, .slice pC nC cC]) (t := 25) (by simp) 2
  go_upto_region 3 with fail
  have h3 := put2 (Go.Proofs.YtbodmeiecdomfaaGreat.W.St.swap2 h2) (by have := HB.out; omega) (by simp) (.slice pK mK cK)
  clear a2 f2 h2
  generalize w2.setCell ⟨b, 2, none⟩ (.slice pK mK cK) = w3 at h3 ⊢
  have a5 : w3.cell? ⟨b, 5, none⟩ = some (.slice pC nC cC) := h3.cell (b := b) (cs := #[.int .i64 k, .int .i64 ra, .slice pK mK cK, .int .i64 d', .int .i64 va, .slice pC nC cC]) (t := 25) (by simp) 5
  have f5 := h3.frozen (b := b) (cs := #[.int .i64 k, .int .i64 ra, .slice pK mK cK, .int .i64 d', .int .i64 va, .slice pC nC cC]) (t := 25) (by simp) 5
  go_upto_region 4 with fail
  have h4 := put5 h3 (by have := HB.out; omega) (by simp) (.slice pC mC cC)
  clear a5 f5 h3 hmK hmC hnK hnC iK iC jK jC lK lC
  generalize w3.setCell ⟨b, 5, none⟩ (.slice pC mC cC) = w4 at h4 ⊢
  go_upto_region 5 with (go_at_call 5; (with_reducible refine (made_any2 _ _ _ (HSm.out.later h4.below)).mono ?_); rintro e w5 ⟨k2, r2, d2, v2, K2, C2, ks2, cs2, rfl, hb5, hK2', hC2', hv2, hk2', hc2'⟩; obtain ⟨pK2, nK2, cK2, rfl⟩ := cm_slice hK2'; obtain ⟨pC2, nC2, cC2, rfl⟩ := cm_slice hC2')
  have h6 := (h4.later hb5).alloc (fo k2 r2 (.slice pK2 nK2 cK2) d2 v2 (.slice pC2 nC2 cC2))
  have HK2 := Lib.hid (hK2'.later (below1 (o := fo k2 r2 (.slice pK2 nK2 cK2) d2 v2 (.slice pC2 nC2 cC2))))
  have HC2 := Lib.hid (hC2'.later (below1 (o := fo k2 r2 (.slice pK2 nK2 cK2) d2 v2 (.slice pC2 nC2 cC2))))
  have HHK := Lib.hid hk2'; have HHC := Lib.hid hc2'
  have HVV := Lib.hid hv2
  have HLen := Lib.hid (vf_len hv2)
  have HLK := Lib.hid HLen.out.1; have HLC := Lib.hid HLen.out.2
  clear hmS hnS lS jS iS h4 hK2' hC2' hv2 hb5 HSm hk2' hc2'
  generalize w5.alloc (fo k2 r2 (.slice pK2 nK2 cK2) d2 v2 (.slice pC2 nC2 cC2)) = w6 at h6 HK2 HC2 ⊢
  generalize w5.heap.size = g at h6 ⊢
  have HPF : Hid (∀ V, Below w6.heap.size w6 V → FA V b k ra (.slice pK mK cK) d' va (.slice pC mC cC) ∧ FA V g k2 r2 (.slice pK2 nK2 cK2) d2 v2 (.slice pC2 nC2 cC2) ∧ V.cell? ⟨b + 1, 0, none⟩ = some (.int .i64 x) ∧ V.cell? ⟨b + 1, 1, none⟩ = some (.int .i64 y)) := fun V hV => by
    have h := h6.later hV
    have c1 := h.cell (b := b) (cs := #[.int .i64 k, .int .i64 ra, .slice pK mK cK, .int .i64 d', .int .i64 va, .slice pC mC cC]) (t := 25) (by simp)
    have c2 := h.cell (b := b + 1) (cs := #[.int .i64 x, .int .i64 y]) (t := 26) (by simp)
    have c4 := h.cell (b := g) (cs := #[.int .i64 k2, .int .i64 r2, .slice pK2 nK2 cK2, .int .i64 d2, .int .i64 v2, .slice pC2 nC2 cC2]) (t := 25) (by simp)
    exact ⟨⟨c1 0, c1 1, c1 2, c1 3, c1 4, c1 5⟩, ⟨c4 0, c4 1, c4 2, c4 3, c4 4, c4 5⟩, c2 0, c2 1⟩
  have HS3 : Hid (∀ V, Below w6.heap.size w6 V → V.cell? ⟨b + 1, 1, none⟩ = some (.int .i64 y)) := fun V hV => (HPF.out V hV).2.2.2
  have HK6 : Hid (∀ V, Below w6.heap.size w6 V → Cm V (.slice pK2 nK2 cK2) ks2) := fun V hV => HK2.out.later hV
  have HC6 : Hid (∀ V, Below w6.heap.size w6 V → Cm V (.slice pC2 nC2 cC2) cs2) := fun V hV => HC2.out.later hV
  have HW6 := Lib.hid h6.below
  have HKa0 := Lib.hid (HKm.out.later h6.below); have HCa0 := Lib.hid (HCm.out.later h6.below)
  clear HK2 HC2 HKm HCm h6 HB
  obtain ⟨_, ⟨b0, b1, b2, b3, b4, b5⟩, q0, q1⟩ := HPF.out w6 (Below.refl _ _)
  go_upto_region 6 with fail
  have hS2 := (St.start w6).alloc (fo k2 r2 (.slice pK2 nK2 cK2) d2 v2 (.slice pC2 nC2 cC2))
  have HHH : Hid (w6.heap.size ≤ w6.heap.size + 1 ∧ (∀ z ∈ [(w6.heap.size, fo k2 r2 (.slice pK2 nK2 cK2) d2 v2 (.slice pC2 nC2 cC2))], z.1 < w6.heap.size + 1) ∧ w6.heap.size ≤ w6.heap.size) := ⟨Nat.le_succ _, by simp, Nat.le_refl _⟩
  clear b0 b1 b2 b3 b4 b5 q0 q1
  generalize w6.alloc (fo k2 r2 (.slice pK2 nK2 cK2) d2 v2 (.slice pC2 nC2 cC2)) = w7 at hS2 ⊢
  have HS2 : Hid (St w6 [(w6.heap.size, fo k2 r2 (.slice pK2 nK2 cK2) d2 v2 (.slice pC2 nC2 cC2))] w7) := hS2
  clear hS2
  obtain ⟨hh, hhe⟩ : ∃ h, h = w6.heap.size := ⟨_, rfl⟩
  have HS2 : Hid (St w6 [(hh, fo k2 r2 (.slice pK2 nK2 cK2) d2 v2 (.slice pC2 nC2 cC2))] w7) := hhe ▸ HS2
  have HHH : Hid (w6.heap.size ≤ hh + 1 ∧ (∀ z ∈ [(hh, fo k2 r2 (.slice pK2 nK2 cK2) d2 v2 (.slice pC2 nC2 cC2))], z.1 < hh + 1) ∧ w6.heap.size ≤ hh) := hhe ▸ HHH
  rw [← hhe]
  clear hhe
  have q0 := (HPF.out w7 HS2.out.below).2.2.1
  go_upto_block 0 with fail
  clear q0 hm
  go_cut [40] from 41 to 88 (fun _ wx => ∃ (k3 r3 d3 v3 : Int) (pK3 : Option Addr) (nK3 cK3 : Nat) (pC3 : Option Addr) (nC3 cC3 : Nat) (ks3 cs3 : List Int), Hid (St w6 [(hh, fo k3 r3 (.slice pK3 nK3 cK3) d3 v3 (.slice pC3 nC3 cC3))] wx) ∧ Hid (Cm wx (.slice pK3 nK3 cK3) ks3 ∧ Cm wx (.slice pC3 nC3 cC3) cs3) ∧ Hid (ks3.length ≤ 400 ∧ cs3.length ≤ 400))
  case first =>
    rcases (by omega : m = 0 ∨ m = 1 ∨ m = 2 ∨ m = 3 ∨ m = 4 ∨ m = 5 ∨ m = 6 ∨ m = 7) with rfl | rfl | rfl | rfl | rfl | rfl | rfl | rfl
    · as_aux_lemma =>
      have hc := HS2.out.cell (b := hh) (cs := #[.int .i64 k2, .int .i64 r2, .slice pK2 nK2 cK2, .int .i64 d2, .int .i64 v2, .slice pC2 nC2 cC2]) (t := 25) (by simp) 0
      have hf := HS2.out.frozen (b := hh) (cs := #[.int .i64 k2, .int .i64 r2, .slice pK2 nK2 cK2, .int .i64 d2, .int .i64 v2, .slice pC2 nC2 cC2]) (t := 25) (by simp) 0
      have hy := HS3.out _ HS2.out.below
      simp only [List.getElem?_toArray, List.getElem?_cons_succ, List.getElem?_cons_zero] at hc
      go_wp2_with fail
      go_meet
      exact ⟨_, r2, d2, v2, _, _, _, _, _, _, ks2, cs2, Lib.hid (put0 HS2.out HHH.out.2.2 (by simp) _), Lib.hid (And.intro (HK6.out _ (put0 HS2.out HHH.out.2.2 (by simp) _).below) (HC6.out _ (put0 HS2.out HHH.out.2.2 (by simp) _).below)), by have := HLen.out; unfold Hid; omega⟩
    · as_aux_lemma =>
      have hc := HS2.out.cell (b := hh) (cs := #[.int .i64 k2, .int .i64 r2, .slice pK2 nK2 cK2, .int .i64 d2, .int .i64 v2, .slice pC2 nC2 cC2]) (t := 25) (by simp) 1
      have hf := HS2.out.frozen (b := hh) (cs := #[.int .i64 k2, .int .i64 r2, .slice pK2 nK2 cK2, .int .i64 d2, .int .i64 v2, .slice pC2 nC2 cC2]) (t := 25) (by simp) 1
      have hy := HS3.out _ HS2.out.below
      simp only [List.getElem?_toArray, List.getElem?_cons_succ, List.getElem?_cons_zero] at hc
      go_wp2_with fail
      go_meet
      exact ⟨k2, _, d2, v2, _, _, _, _, _, _, ks2, cs2, Lib.hid (put1 HS2.out HHH.out.2.2 (by simp) _), Lib.hid (And.intro (HK6.out _ (put1 HS2.out HHH.out.2.2 (by simp) _).below) (HC6.out _ (put1 HS2.out HHH.out.2.2 (by simp) _).below)), by have := HLen.out; unfold Hid; omega⟩
    · as_aux_lemma =>
      have hc := HS2.out.cell (b := hh) (cs := #[.int .i64 k2, .int .i64 r2, .slice pK2 nK2 cK2, .int .i64 d2, .int .i64 v2, .slice pC2 nC2 cC2]) (t := 25) (by simp) 3
      have hf := HS2.out.frozen (b := hh) (cs := #[.int .i64 k2, .int .i64 r2, .slice pK2 nK2 cK2, .int .i64 d2, .int .i64 v2, .slice pC2 nC2 cC2]) (t := 25) (by simp) 3
      have hy := HS3.out _ HS2.out.below
      simp only [List.getElem?_toArray, List.getElem?_cons_succ, List.getElem?_cons_zero] at hc
      go_wp2_with fail
      go_meet
      exact ⟨k2, r2, _, v2, _, _, _, _, _, _, ks2, cs2, Lib.hid (put3 HS2.out HHH.out.2.2 (by simp) _), Lib.hid (And.intro (HK6.out _ (put3 HS2.out HHH.out.2.2 (by simp) _).below) (HC6.out _ (put3 HS2.out HHH.out.2.2 (by simp) _).below)), by have := HLen.out; unfold Hid; omega⟩
    · as_aux_lemma =>
      have hc := HS2.out.cell (b := hh) (cs := #[.int .i64 k2, .int .i64 r2, .slice pK2 nK2 cK2, .int .i64 d2, .int .i64 v2, .slice pC2 nC2 cC2]) (t := 25) (by simp) 4
      have hf := HS2.out.frozen (b := hh) (cs := #[.int .i64 k2, .int .i64 r2, .slice pK2 nK2 cK2, .int .i64 d2, .int .i64 v2, .slice pC2 nC2 cC2]) (t := 25) (by simp) 4
      have hy := HS3.out _ HS2.out.below
      simp only [List.getElem?_toArray, List.getElem?_cons_succ, List.getElem?_cons_zero] at hc
      go_wp2_with fail
      go_meet
      exact ⟨k2, r2, d2, _, _, _, _, _, _, _, ks2, cs2, Lib.hid (put4 HS2.out HHH.out.2.2 (by simp) _), Lib.hid (And.intro (HK6.out _ (put4 HS2.out HHH.out.2.2 (by simp) _).below) (HC6.out _ (put4 HS2.out HHH.out.2.2 (by simp) _).below)), by have := HLen.out; unfold Hid; omega⟩
    · as_aux_lemma =>
      go_upto_region 16 with fail
      have s0t := HS2.out.drew
      refine wp_region_held_drew (S := fun V9 => V9.cell? ⟨b + 1, 1, none⟩ = some (.int .i64 y)) (by kernel_rfl) ?_ (fun hHeld => ?_)
      · exact HS3.out _ s0t.below
      generalize w7.drew = u0 at s0t hHeld ⊢
      refine wpAnyH_take (i := 1) (oi := { dst := some 64, op := Op.fieldAddr 25 (Operand.tmp 9) 2, type := 0, pos := "law.go:55", after := #[], guard := none }) (v := ?_) rfl (by kernel_rfl) (by kernel_rfl) (by kernel_rfl) (fun _ _ _ h => h) (Or.inl ⟨by kernel_rfl, ?_⟩) (by assumption) ?_
      rotate_left 1
      focus (intro w hSw; (try dsimp only at hSw); go_simp; (try with_reducible rfl))
      try simp only [Act.put, List.setIfInBounds_toArray, List.set_cons_zero, List.set_cons_succ]
      refine wpAnyH_take (i := 4) (oi := { dst := some 67, op := Op.indexAddr 26 (Operand.tmp 5) (Operand.const (Value.int IntKind.i64 1)), type := 0, pos := "law.go:55", after := #[], guard := none }) (v := ?_) rfl (by kernel_rfl) (by kernel_rfl) (by kernel_rfl) (fun _ _ _ h => h) (Or.inl ⟨by kernel_rfl, ?_⟩) (by assumption) ?_
      rotate_left 1
      focus (intro w hSw; (try dsimp only at hSw); go_simp; (try with_reducible rfl))
      try simp only [Act.put, List.setIfInBounds_toArray, List.set_cons_zero, List.set_cons_succ]
      refine wpAnyH_take (i := 5) (oi := { dst := some 68, op := Op.load 3 (Operand.tmp 67), type := 3, pos := "law.go:55", after := #[{ on := 4, ground := Ground.data }], guard := none }) (v := ?_) rfl (by kernel_rfl) (by kernel_rfl) (by kernel_rfl) (fun _ _ _ h => h) (Or.inl ⟨by kernel_rfl, ?_⟩) (by assumption) ?_
      rotate_left 1
      focus (intro w hSw; (try dsimp only at hSw); go_simp; (try with_reducible rfl))
      try simp only [Act.put, List.setIfInBounds_toArray, List.set_cons_zero, List.set_cons_succ]
      refine wpAnyH_ready (rs := [0, 2, 6]) (by kernel_rfl) (by simp) (AllReadyH.cons (o := { dst := some 63, op := Op.buildSlice 22 0 #[], type := 22, pos := "law.go:55", after := #[], guard := none }) rfl (fun K hK => ?_) (AllReadyH.cons (o := { dst := some 65, op := Op.load 22 (Operand.tmp 64), type := 22, pos := "law.go:55", after := #[{ on := 1, ground := Ground.data }], guard := none }) rfl (fun K hK => ?_) (AllReadyH.cons (o := { dst := some 69, op := Op.buildSlice 22 1 #[(0, Operand.tmp 68)], type := 22, pos := "law.go:55", after := #[{ on := 5, ground := Ground.data }], guard := none }) rfl (fun K hK => ?_) AllReadyH.nil)))
      · have s1r16t := s0t.later (below1 (o := (.cells #[] 3)))
        have s1r16o := ownsI_lit u0 (hh + 1) (Nat.succ_le_of_lt (s0t.lt (b := hh) (o := (fq k2 r2 (.slice pK2 nK2 cK2) d2 v2 (.slice pC2 nC2 cC2))) (by simp))) [] 0 rfl (by decide) #[] rfl
        have s1r16z : u0.heap.size < (u0.alloc (.cells #[] 3)).heap.size := by rw [World.size_alloc]; exact Nat.lt_succ_self _
        refine wp_int0 22 Tryz.underlying22 rfl ?_
        generalize u0.alloc (.cells #[] 3) = U1r16 at s1r16t s1r16o s1r16z ⊢
        generalize u0.heap.size = g0 at s1r16o s1r16z ⊢
        refine hK.out _ _ ?_ (fun hHeld => ?_)
        · exact HS3.out _ s1r16t.below
        clear hK K
        try simp only [Act.put, List.setIfInBounds_toArray, List.set_cons_zero, List.set_cons_succ]
        refine wpAnyH_ready (rs := [2, 6]) (by kernel_rfl) (by simp) (AllReadyH.cons (o := { dst := some 65, op := Op.load 22 (Operand.tmp 64), type := 22, pos := "law.go:55", after := #[{ on := 1, ground := Ground.data }], guard := none }) rfl (fun K hK => ?_) (AllReadyH.cons (o := { dst := some 69, op := Op.buildSlice 22 1 #[(0, Operand.tmp 68)], type := 22, pos := "law.go:55", after := #[{ on := 5, ground := Ground.data }], guard := none }) rfl (fun K hK => ?_) AllReadyH.nil))
        · refine wp_load_of 22 (.tmp 64) _ rfl rfl (ld_fqK (s1r16t.row (b := hh) (o := (fq k2 r2 (.slice pK2 nK2 cK2) d2 v2 (.slice pC2 nC2 cC2))) (by simp))) ?_
          refine hK.out _ _ ?_ (fun hHeld => ?_)
          · exact HS3.out _ s1r16t.below
          clear hK K
          try simp only [Act.put, List.setIfInBounds_toArray, List.set_cons_zero, List.set_cons_succ]
          refine wpAnyH_ready (rs := [3, 6]) (by kernel_rfl) (by simp) (AllReadyH.cons (o := { dst := some 66, op := Op.call { callee := Callee.builtin Builtin.append, args := #[Operand.tmp 63, Operand.tmp 65], argTypes := #[22, 22] }, type := 22, pos := "law.go:55", after := #[{ on := 0, ground := Ground.data }, { on := 2, ground := Ground.data }], guard := none }) rfl (fun K hK => ?_) (AllReadyH.cons (o := { dst := some 69, op := Op.buildSlice 22 1 #[(0, Operand.tmp 68)], type := 22, pos := "law.go:55", after := #[{ on := 5, ground := Ground.data }], guard := none }) rfl (fun K hK => ?_) AllReadyH.nil))
          · refine wp_appL 22 Tryz.underlying22 (.tmp 63) (.tmp 65) rfl (hh + 1) g0 (.slice pK2 nK2 cK2) ks2 rfl s1r16o rfl (HK6.out _ s1r16t.below) HHK.out (Nat.lt_of_le_of_lt HLK.out (by decide)) (Nat.succ_le_of_lt (s1r16t.lt (b := hh) (o := (fq k2 r2 (.slice pK2 nK2 cK2) d2 v2 (.slice pC2 nC2 cC2))) (by simp))) ?_
            intro v3 w3 ho3 hb3 hk3
            have s2r16t := St_past s1r16t hb3 HHH.out.1 HHH.out.2.1
            have s2r16o := ho3
            refine hK.out _ _ ?_ (fun hHeld => ?_)
            · exact HS3.out _ s2r16t.below
            clear hK K
            try simp only [Act.put, List.setIfInBounds_toArray, List.set_cons_zero, List.set_cons_succ]
            refine wpAnyH_ready (rs := [6]) (by kernel_rfl) (by simp) (AllReadyH.cons (o := { dst := some 69, op := Op.buildSlice 22 1 #[(0, Operand.tmp 68)], type := 22, pos := "law.go:55", after := #[{ on := 5, ground := Ground.data }], guard := none }) rfl (fun K hK => ?_) AllReadyH.nil)
            have s3r16t := s2r16t.later (below1 (o := (.cells #[.int .i64 y] 3)))
            have s3r16o := s2r16o.later (below1 (o := (.cells #[.int .i64 y] 3)))
            have s3r16n := cell_alloc w3 (.int .i64 y) 3
            have s3r16m : w3.heap.size < (w3.alloc (.cells #[.int .i64 y] 3)).heap.size := by rw [World.size_alloc]; exact Nat.lt_succ_self _
            refine wp_intT 22 Tryz.underlying22 (.tmp 68) rfl rfl ?_
            generalize w3.alloc (.cells #[.int .i64 y] 3) = U3r16 at s3r16t s3r16o s3r16n s3r16m ⊢
            generalize w3.heap.size = g1 at s3r16n s3r16m ⊢
            refine hK.out _ _ ?_ (fun hHeld => ?_)
            · exact HS3.out _ s3r16t.below
            clear hK K
            try simp only [Act.put, List.setIfInBounds_toArray, List.set_cons_zero, List.set_cons_succ]
            refine wpAnyH_ready (rs := [7]) (by kernel_rfl) (by simp) (AllReadyH.cons (o := { dst := some 70, op := Op.call { callee := Callee.builtin Builtin.append, args := #[Operand.tmp 66, Operand.tmp 69], argTypes := #[22, 22] }, type := 22, pos := "law.go:55", after := #[{ on := 3, ground := Ground.data }, { on := 6, ground := Ground.data }, { on := 3, ground := Ground.chain }], guard := none }) rfl (fun K hK => ?_) AllReadyH.nil)
            refine wp_appT 22 Tryz.underlying22 (.tmp 66) (.tmp 69) rfl (hh + 1) g1 v3 ks2 y rfl s3r16o rfl s3r16n (Nat.lt_of_le_of_lt HLK.out (by decide)) (Nat.succ_le_of_lt (s3r16t.lt (b := hh) (o := (fq k2 r2 (.slice pK2 nK2 cK2) d2 v2 (.slice pC2 nC2 cC2))) (by simp))) ?_
            intro v7 w7 ho7 hb7
            obtain ⟨pv7, cv7, rfl⟩ := ho7.slice (n := ks2.length + 1) (by rw [List.length_append]; rfl)
            have s4r16t := St_past s3r16t hb7 HHH.out.1 HHH.out.2.1
            refine hK.out _ _ ?_ (fun hHeld => ?_)
            · exact HS3.out _ s4r16t.below
            clear hK K
            try simp only [Act.put, List.setIfInBounds_toArray, List.set_cons_zero, List.set_cons_succ]
            refine wpAnyH_take (i := 8) (oi := { dst := some 71, op := Op.fieldAddr 25 (Operand.tmp 9) 2, type := 0, pos := "law.go:55", after := #[{ on := 0, ground := Ground.phase }, { on := 1, ground := Ground.phase }, { on := 2, ground := Ground.phase }, { on := 3, ground := Ground.phase }, { on := 4, ground := Ground.phase }, { on := 5, ground := Ground.phase }, { on := 6, ground := Ground.phase }, { on := 7, ground := Ground.phase }], guard := none }) (v := ?_) rfl (by kernel_rfl) (by kernel_rfl) (by kernel_rfl) (fun _ _ _ h => h) (Or.inl ⟨by kernel_rfl, ?_⟩) (by assumption) ?_
            rotate_left 1
            focus (intro w hSw; (try dsimp only at hSw); go_simp; (try with_reducible rfl))
            try simp only [Act.put, List.setIfInBounds_toArray, List.set_cons_zero, List.set_cons_succ]
            refine wpAnyH_ready (rs := [9]) (by kernel_rfl) (by simp) (AllReadyH.cons (o := { dst := none, op := Op.store 22 (Operand.tmp 71) (Operand.tmp 70), type := 0, pos := "law.go:55", after := #[{ on := 8, ground := Ground.data }, { on := 7, ground := Ground.data }, { on := 7, ground := Ground.chain }, { on := 0, ground := Ground.phase }, { on := 1, ground := Ground.phase }, { on := 2, ground := Ground.phase }, { on := 3, ground := Ground.phase }, { on := 4, ground := Ground.phase }, { on := 5, ground := Ground.phase }, { on := 6, ground := Ground.phase }, { on := 7, ground := Ground.phase }], guard := none }) rfl (fun K hK => ?_) AllReadyH.nil)
            have s5r16t := put2 s4r16t HHH.out.2.2 (by simp) (.slice pv7 (ks2.length + 1) cv7)
            refine wp_store_of 22 (.tmp 71) (.tmp 70) rfl rfl rfl (st_fqK (s4r16t.row (b := hh) (o := (fq k2 r2 (.slice pK2 nK2 cK2) d2 v2 (.slice pC2 nC2 cC2))) (by simp))) ?_
            refine hK.out _ _ ?_ (fun hHeld => ?_)
            · exact HS3.out _ s5r16t.below
            clear hK K
            try simp only [Act.put, List.setIfInBounds_toArray, List.set_cons_zero, List.set_cons_succ]
            refine wpAnyH_done (by kernel_rfl) ?_ _
            have HT8 := Lib.hid s5r16t
            have HO8 := Lib.hid (And.intro ((own_low (j := 2) (x := .slice pv7 (ks2.length + 1) cv7) ho7 (Nat.lt_succ_self hh)).cm) (HC6.out _ s5r16t.below))
            go_wp2_with fail
            go_meet
            exact ⟨k2, r2, d2, v2, _, _, _, _, _, _, ks2 ++ [y], cs2, HT8, HO8, by have := HLen.out; unfold Hid; simp only [List.length_append, List.length_singleton]; omega⟩
          · have s6r16t := s1r16t.later (below1 (o := (.cells #[.int .i64 y] 3)))
            have s6r16o := s1r16o.later (below1 (o := (.cells #[.int .i64 y] 3)))
            have s6r16n := cell_alloc U1r16 (.int .i64 y) 3
            have s6r16m : U1r16.heap.size < (U1r16.alloc (.cells #[.int .i64 y] 3)).heap.size := by rw [World.size_alloc]; exact Nat.lt_succ_self _
            have s6r16z := Nat.lt_of_lt_of_le s1r16z (below1 (w := U1r16) (o := (.cells #[.int .i64 y] 3))).size
            have hne : U1r16.heap.size ≠ g0 := Nat.ne_of_gt s1r16z
            refine wp_intT 22 Tryz.underlying22 (.tmp 68) rfl rfl ?_
            generalize U1r16.alloc (.cells #[.int .i64 y] 3) = U6r16 at s6r16t s6r16o s6r16n s6r16m s6r16z ⊢
            generalize U1r16.heap.size = g1 at s6r16n s6r16m hne ⊢
            refine hK.out _ _ ?_ (fun hHeld => ?_)
            · exact HS3.out _ s6r16t.below
            clear hK K
            try simp only [Act.put, List.setIfInBounds_toArray, List.set_cons_zero, List.set_cons_succ]
            refine wpAnyH_ready (rs := [3]) (by kernel_rfl) (by simp) (AllReadyH.cons (o := { dst := some 66, op := Op.call { callee := Callee.builtin Builtin.append, args := #[Operand.tmp 63, Operand.tmp 65], argTypes := #[22, 22] }, type := 22, pos := "law.go:55", after := #[{ on := 0, ground := Ground.data }, { on := 2, ground := Ground.data }], guard := none }) rfl (fun K hK => ?_) AllReadyH.nil)
            refine wp_appL 22 Tryz.underlying22 (.tmp 63) (.tmp 65) rfl (hh + 1) g0 (.slice pK2 nK2 cK2) ks2 rfl s6r16o rfl (HK6.out _ s6r16t.below) HHK.out (Nat.lt_of_le_of_lt HLK.out (by decide)) (Nat.succ_le_of_lt (s6r16t.lt (b := hh) (o := (fq k2 r2 (.slice pK2 nK2 cK2) d2 v2 (.slice pC2 nC2 cC2))) (by simp))) ?_
            intro v3 w3 ho3 hb3 hk3
            have s7r16t := St_past s6r16t hb3 HHH.out.1 HHH.out.2.1
            have s7r16n := (cell_heap (hk3 _ s6r16m hne)).trans s6r16n
            have s7r16m := Nat.lt_of_lt_of_le s6r16m hb3.size
            have s7r16o := ho3
            refine hK.out _ _ ?_ (fun hHeld => ?_)
            · exact HS3.out _ s7r16t.below
            clear hK K
            try simp only [Act.put, List.setIfInBounds_toArray, List.set_cons_zero, List.set_cons_succ]
            refine wpAnyH_ready (rs := [7]) (by kernel_rfl) (by simp) (AllReadyH.cons (o := { dst := some 70, op := Op.call { callee := Callee.builtin Builtin.append, args := #[Operand.tmp 66, Operand.tmp 69], argTypes := #[22, 22] }, type := 22, pos := "law.go:55", after := #[{ on := 3, ground := Ground.data }, { on := 6, ground := Ground.data }, { on := 3, ground := Ground.chain }], guard := none }) rfl (fun K hK => ?_) AllReadyH.nil)
            refine wp_appT 22 Tryz.underlying22 (.tmp 66) (.tmp 69) rfl (hh + 1) g1 v3 ks2 y rfl s7r16o rfl s7r16n (Nat.lt_of_le_of_lt HLK.out (by decide)) (Nat.succ_le_of_lt (s7r16t.lt (b := hh) (o := (fq k2 r2 (.slice pK2 nK2 cK2) d2 v2 (.slice pC2 nC2 cC2))) (by simp))) ?_
            intro v7 w7 ho7 hb7
            obtain ⟨pv7, cv7, rfl⟩ := ho7.slice (n := ks2.length + 1) (by rw [List.length_append]; rfl)
            have s8r16t := St_past s7r16t hb7 HHH.out.1 HHH.out.2.1
            refine hK.out _ _ ?_ (fun hHeld => ?_)
            · exact HS3.out _ s8r16t.below
            clear hK K
            try simp only [Act.put, List.setIfInBounds_toArray, List.set_cons_zero, List.set_cons_succ]
            refine wpAnyH_take (i := 8) (oi := { dst := some 71, op := Op.fieldAddr 25 (Operand.tmp 9) 2, type := 0, pos := "law.go:55", after := #[{ on := 0, ground := Ground.phase }, { on := 1, ground := Ground.phase }, { on := 2, ground := Ground.phase }, { on := 3, ground := Ground.phase }, { on := 4, ground := Ground.phase }, { on := 5, ground := Ground.phase }, { on := 6, ground := Ground.phase }, { on := 7, ground := Ground.phase }], guard := none }) (v := ?_) rfl (by kernel_rfl) (by kernel_rfl) (by kernel_rfl) (fun _ _ _ h => h) (Or.inl ⟨by kernel_rfl, ?_⟩) (by assumption) ?_
            rotate_left 1
            focus (intro w hSw; (try dsimp only at hSw); go_simp; (try with_reducible rfl))
            try simp only [Act.put, List.setIfInBounds_toArray, List.set_cons_zero, List.set_cons_succ]
            refine wpAnyH_ready (rs := [9]) (by kernel_rfl) (by simp) (AllReadyH.cons (o := { dst := none, op := Op.store 22 (Operand.tmp 71) (Operand.tmp 70), type := 0, pos := "law.go:55", after := #[{ on := 8, ground := Ground.data }, { on := 7, ground := Ground.data }, { on := 7, ground := Ground.chain }, { on := 0, ground := Ground.phase }, { on := 1, ground := Ground.phase }, { on := 2, ground := Ground.phase }, { on := 3, ground := Ground.phase }, { on := 4, ground := Ground.phase }, { on := 5, ground := Ground.phase }, { on := 6, ground := Ground.phase }, { on := 7, ground := Ground.phase }], guard := none }) rfl (fun K hK => ?_) AllReadyH.nil)
            have s9r16t := put2 s8r16t HHH.out.2.2 (by simp) (.slice pv7 (ks2.length + 1) cv7)
            refine wp_store_of 22 (.tmp 71) (.tmp 70) rfl rfl rfl (st_fqK (s8r16t.row (b := hh) (o := (fq k2 r2 (.slice pK2 nK2 cK2) d2 v2 (.slice pC2 nC2 cC2))) (by simp))) ?_
            refine hK.out _ _ ?_ (fun hHeld => ?_)
            · exact HS3.out _ s9r16t.below
            clear hK K
            try simp only [Act.put, List.setIfInBounds_toArray, List.set_cons_zero, List.set_cons_succ]
            refine wpAnyH_done (by kernel_rfl) ?_ _
            have HT8 := Lib.hid s9r16t
            have HO8 := Lib.hid (And.intro ((own_low (j := 2) (x := .slice pv7 (ks2.length + 1) cv7) ho7 (Nat.lt_succ_self hh)).cm) (HC6.out _ s9r16t.below))
            go_wp2_with fail
            go_meet
            exact ⟨k2, r2, d2, v2, _, _, _, _, _, _, ks2 ++ [y], cs2, HT8, HO8, by have := HLen.out; unfold Hid; simp only [List.length_append, List.length_singleton]; omega⟩
        · have s10r16t := s1r16t.later (below1 (o := (.cells #[.int .i64 y] 3)))
          have s10r16o := s1r16o.later (below1 (o := (.cells #[.int .i64 y] 3)))
          have s10r16n := cell_alloc U1r16 (.int .i64 y) 3
          have s10r16m : U1r16.heap.size < (U1r16.alloc (.cells #[.int .i64 y] 3)).heap.size := by rw [World.size_alloc]; exact Nat.lt_succ_self _
          have s10r16z := Nat.lt_of_lt_of_le s1r16z (below1 (w := U1r16) (o := (.cells #[.int .i64 y] 3))).size
          have hne : U1r16.heap.size ≠ g0 := Nat.ne_of_gt s1r16z
          refine wp_intT 22 Tryz.underlying22 (.tmp 68) rfl rfl ?_
          generalize U1r16.alloc (.cells #[.int .i64 y] 3) = U10r16 at s10r16t s10r16o s10r16n s10r16m s10r16z ⊢
          generalize U1r16.heap.size = g1 at s10r16n s10r16m hne ⊢
          refine hK.out _ _ ?_ (fun hHeld => ?_)
          · exact HS3.out _ s10r16t.below
          clear hK K
          try simp only [Act.put, List.setIfInBounds_toArray, List.set_cons_zero, List.set_cons_succ]
          refine wpAnyH_ready (rs := [2]) (by kernel_rfl) (by simp) (AllReadyH.cons (o := { dst := some 65, op := Op.load 22 (Operand.tmp 64), type := 22, pos := "law.go:55", after := #[{ on := 1, ground := Ground.data }], guard := none }) rfl (fun K hK => ?_) AllReadyH.nil)
          refine wp_load_of 22 (.tmp 64) _ rfl rfl (ld_fqK (s10r16t.row (b := hh) (o := (fq k2 r2 (.slice pK2 nK2 cK2) d2 v2 (.slice pC2 nC2 cC2))) (by simp))) ?_
          refine hK.out _ _ ?_ (fun hHeld => ?_)
          · exact HS3.out _ s10r16t.below
          clear hK K
          try simp only [Act.put, List.setIfInBounds_toArray, List.set_cons_zero, List.set_cons_succ]
          refine wpAnyH_ready (rs := [3]) (by kernel_rfl) (by simp) (AllReadyH.cons (o := { dst := some 66, op := Op.call { callee := Callee.builtin Builtin.append, args := #[Operand.tmp 63, Operand.tmp 65], argTypes := #[22, 22] }, type := 22, pos := "law.go:55", after := #[{ on := 0, ground := Ground.data }, { on := 2, ground := Ground.data }], guard := none }) rfl (fun K hK => ?_) AllReadyH.nil)
          refine wp_appL 22 Tryz.underlying22 (.tmp 63) (.tmp 65) rfl (hh + 1) g0 (.slice pK2 nK2 cK2) ks2 rfl s10r16o rfl (HK6.out _ s10r16t.below) HHK.out (Nat.lt_of_le_of_lt HLK.out (by decide)) (Nat.succ_le_of_lt (s10r16t.lt (b := hh) (o := (fq k2 r2 (.slice pK2 nK2 cK2) d2 v2 (.slice pC2 nC2 cC2))) (by simp))) ?_
          intro v3 w3 ho3 hb3 hk3
          have s11r16t := St_past s10r16t hb3 HHH.out.1 HHH.out.2.1
          have s11r16n := (cell_heap (hk3 _ s10r16m hne)).trans s10r16n
          have s11r16m := Nat.lt_of_lt_of_le s10r16m hb3.size
          have s11r16o := ho3
          refine hK.out _ _ ?_ (fun hHeld => ?_)
          · exact HS3.out _ s11r16t.below
          clear hK K
          try simp only [Act.put, List.setIfInBounds_toArray, List.set_cons_zero, List.set_cons_succ]
          refine wpAnyH_ready (rs := [7]) (by kernel_rfl) (by simp) (AllReadyH.cons (o := { dst := some 70, op := Op.call { callee := Callee.builtin Builtin.append, args := #[Operand.tmp 66, Operand.tmp 69], argTypes := #[22, 22] }, type := 22, pos := "law.go:55", after := #[{ on := 3, ground := Ground.data }, { on := 6, ground := Ground.data }, { on := 3, ground := Ground.chain }], guard := none }) rfl (fun K hK => ?_) AllReadyH.nil)
          refine wp_appT 22 Tryz.underlying22 (.tmp 66) (.tmp 69) rfl (hh + 1) g1 v3 ks2 y rfl s11r16o rfl s11r16n (Nat.lt_of_le_of_lt HLK.out (by decide)) (Nat.succ_le_of_lt (s11r16t.lt (b := hh) (o := (fq k2 r2 (.slice pK2 nK2 cK2) d2 v2 (.slice pC2 nC2 cC2))) (by simp))) ?_
          intro v7 w7 ho7 hb7
          obtain ⟨pv7, cv7, rfl⟩ := ho7.slice (n := ks2.length + 1) (by rw [List.length_append]; rfl)
          have s12r16t := St_past s11r16t hb7 HHH.out.1 HHH.out.2.1
          refine hK.out _ _ ?_ (fun hHeld => ?_)
          · exact HS3.out _ s12r16t.below
          clear hK K
          try simp only [Act.put, List.setIfInBounds_toArray, List.set_cons_zero, List.set_cons_succ]
          refine wpAnyH_take (i := 8) (oi := { dst := some 71, op := Op.fieldAddr 25 (Operand.tmp 9) 2, type := 0, pos := "law.go:55", after := #[{ on := 0, ground := Ground.phase }, { on := 1, ground := Ground.phase }, { on := 2, ground := Ground.phase }, { on := 3, ground := Ground.phase }, { on := 4, ground := Ground.phase }, { on := 5, ground := Ground.phase }, { on := 6, ground := Ground.phase }, { on := 7, ground := Ground.phase }], guard := none }) (v := ?_) rfl (by kernel_rfl) (by kernel_rfl) (by kernel_rfl) (fun _ _ _ h => h) (Or.inl ⟨by kernel_rfl, ?_⟩) (by assumption) ?_
          rotate_left 1
          focus (intro w hSw; (try dsimp only at hSw); go_simp; (try with_reducible rfl))
          try simp only [Act.put, List.setIfInBounds_toArray, List.set_cons_zero, List.set_cons_succ]
          refine wpAnyH_ready (rs := [9]) (by kernel_rfl) (by simp) (AllReadyH.cons (o := { dst := none, op := Op.store 22 (Operand.tmp 71) (Operand.tmp 70), type := 0, pos := "law.go:55", after := #[{ on := 8, ground := Ground.data }, { on := 7, ground := Ground.data }, { on := 7, ground := Ground.chain }, { on := 0, ground := Ground.phase }, { on := 1, ground := Ground.phase }, { on := 2, ground := Ground.phase }, { on := 3, ground := Ground.phase }, { on := 4, ground := Ground.phase }, { on := 5, ground := Ground.phase }, { on := 6, ground := Ground.phase }, { on := 7, ground := Ground.phase }], guard := none }) rfl (fun K hK => ?_) AllReadyH.nil)
          have s13r16t := put2 s12r16t HHH.out.2.2 (by simp) (.slice pv7 (ks2.length + 1) cv7)
          refine wp_store_of 22 (.tmp 71) (.tmp 70) rfl rfl rfl (st_fqK (s12r16t.row (b := hh) (o := (fq k2 r2 (.slice pK2 nK2 cK2) d2 v2 (.slice pC2 nC2 cC2))) (by simp))) ?_
          refine hK.out _ _ ?_ (fun hHeld => ?_)
          · exact HS3.out _ s13r16t.below
          clear hK K
          try simp only [Act.put, List.setIfInBounds_toArray, List.set_cons_zero, List.set_cons_succ]
          refine wpAnyH_done (by kernel_rfl) ?_ _
          have HT8 := Lib.hid s13r16t
          have HO8 := Lib.hid (And.intro ((own_low (j := 2) (x := .slice pv7 (ks2.length + 1) cv7) ho7 (Nat.lt_succ_self hh)).cm) (HC6.out _ s13r16t.below))
          go_wp2_with fail
          go_meet
          exact ⟨k2, r2, d2, v2, _, _, _, _, _, _, ks2 ++ [y], cs2, HT8, HO8, by have := HLen.out; unfold Hid; simp only [List.length_append, List.length_singleton]; omega⟩
      · refine wp_load_of 22 (.tmp 64) _ rfl rfl (ld_fqK (s0t.row (b := hh) (o := (fq k2 r2 (.slice pK2 nK2 cK2) d2 v2 (.slice pC2 nC2 cC2))) (by simp))) ?_
        refine hK.out _ _ ?_ (fun hHeld => ?_)
        · exact HS3.out _ s0t.below
        clear hK K
        try simp only [Act.put, List.setIfInBounds_toArray, List.set_cons_zero, List.set_cons_succ]
        refine wpAnyH_ready (rs := [0, 6]) (by kernel_rfl) (by simp) (AllReadyH.cons (o := { dst := some 63, op := Op.buildSlice 22 0 #[], type := 22, pos := "law.go:55", after := #[], guard := none }) rfl (fun K hK => ?_) (AllReadyH.cons (o := { dst := some 69, op := Op.buildSlice 22 1 #[(0, Operand.tmp 68)], type := 22, pos := "law.go:55", after := #[{ on := 5, ground := Ground.data }], guard := none }) rfl (fun K hK => ?_) AllReadyH.nil))
        · have s14r16t := s0t.later (below1 (o := (.cells #[] 3)))
          have s14r16o := ownsI_lit u0 (hh + 1) (Nat.succ_le_of_lt (s0t.lt (b := hh) (o := (fq k2 r2 (.slice pK2 nK2 cK2) d2 v2 (.slice pC2 nC2 cC2))) (by simp))) [] 0 rfl (by decide) #[] rfl
          have s14r16z : u0.heap.size < (u0.alloc (.cells #[] 3)).heap.size := by rw [World.size_alloc]; exact Nat.lt_succ_self _
          refine wp_int0 22 Tryz.underlying22 rfl ?_
          generalize u0.alloc (.cells #[] 3) = U14r16 at s14r16t s14r16o s14r16z ⊢
          generalize u0.heap.size = g0 at s14r16o s14r16z ⊢
          refine hK.out _ _ ?_ (fun hHeld => ?_)
          · exact HS3.out _ s14r16t.below
          clear hK K
          try simp only [Act.put, List.setIfInBounds_toArray, List.set_cons_zero, List.set_cons_succ]
          refine wpAnyH_ready (rs := [3, 6]) (by kernel_rfl) (by simp) (AllReadyH.cons (o := { dst := some 66, op := Op.call { callee := Callee.builtin Builtin.append, args := #[Operand.tmp 63, Operand.tmp 65], argTypes := #[22, 22] }, type := 22, pos := "law.go:55", after := #[{ on := 0, ground := Ground.data }, { on := 2, ground := Ground.data }], guard := none }) rfl (fun K hK => ?_) (AllReadyH.cons (o := { dst := some 69, op := Op.buildSlice 22 1 #[(0, Operand.tmp 68)], type := 22, pos := "law.go:55", after := #[{ on := 5, ground := Ground.data }], guard := none }) rfl (fun K hK => ?_) AllReadyH.nil))
          · refine wp_appL 22 Tryz.underlying22 (.tmp 63) (.tmp 65) rfl (hh + 1) g0 (.slice pK2 nK2 cK2) ks2 rfl s14r16o rfl (HK6.out _ s14r16t.below) HHK.out (Nat.lt_of_le_of_lt HLK.out (by decide)) (Nat.succ_le_of_lt (s14r16t.lt (b := hh) (o := (fq k2 r2 (.slice pK2 nK2 cK2) d2 v2 (.slice pC2 nC2 cC2))) (by simp))) ?_
            intro v3 w3 ho3 hb3 hk3
            have s15r16t := St_past s14r16t hb3 HHH.out.1 HHH.out.2.1
            have s15r16o := ho3
            refine hK.out _ _ ?_ (fun hHeld => ?_)
            · exact HS3.out _ s15r16t.below
            clear hK K
            try simp only [Act.put, List.setIfInBounds_toArray, List.set_cons_zero, List.set_cons_succ]
            refine wpAnyH_ready (rs := [6]) (by kernel_rfl) (by simp) (AllReadyH.cons (o := { dst := some 69, op := Op.buildSlice 22 1 #[(0, Operand.tmp 68)], type := 22, pos := "law.go:55", after := #[{ on := 5, ground := Ground.data }], guard := none }) rfl (fun K hK => ?_) AllReadyH.nil)
            have s16r16t := s15r16t.later (below1 (o := (.cells #[.int .i64 y] 3)))
            have s16r16o := s15r16o.later (below1 (o := (.cells #[.int .i64 y] 3)))
            have s16r16n := cell_alloc w3 (.int .i64 y) 3
            have s16r16m : w3.heap.size < (w3.alloc (.cells #[.int .i64 y] 3)).heap.size := by rw [World.size_alloc]; exact Nat.lt_succ_self _
            refine wp_intT 22 Tryz.underlying22 (.tmp 68) rfl rfl ?_
            generalize w3.alloc (.cells #[.int .i64 y] 3) = U16r16 at s16r16t s16r16o s16r16n s16r16m ⊢
            generalize w3.heap.size = g1 at s16r16n s16r16m ⊢
            refine hK.out _ _ ?_ (fun hHeld => ?_)
            · exact HS3.out _ s16r16t.below
            clear hK K
            try simp only [Act.put, List.setIfInBounds_toArray, List.set_cons_zero, List.set_cons_succ]
            refine wpAnyH_ready (rs := [7]) (by kernel_rfl) (by simp) (AllReadyH.cons (o := { dst := some 70, op := Op.call { callee := Callee.builtin Builtin.append, args := #[Operand.tmp 66, Operand.tmp 69], argTypes := #[22, 22] }, type := 22, pos := "law.go:55", after := #[{ on := 3, ground := Ground.data }, { on := 6, ground := Ground.data }, { on := 3, ground := Ground.chain }], guard := none }) rfl (fun K hK => ?_) AllReadyH.nil)
            refine wp_appT 22 Tryz.underlying22 (.tmp 66) (.tmp 69) rfl (hh + 1) g1 v3 ks2 y rfl s16r16o rfl s16r16n (Nat.lt_of_le_of_lt HLK.out (by decide)) (Nat.succ_le_of_lt (s16r16t.lt (b := hh) (o := (fq k2 r2 (.slice pK2 nK2 cK2) d2 v2 (.slice pC2 nC2 cC2))) (by simp))) ?_
            intro v7 w7 ho7 hb7
            obtain ⟨pv7, cv7, rfl⟩ := ho7.slice (n := ks2.length + 1) (by rw [List.length_append]; rfl)
            have s17r16t := St_past s16r16t hb7 HHH.out.1 HHH.out.2.1
            refine hK.out _ _ ?_ (fun hHeld => ?_)
            · exact HS3.out _ s17r16t.below
            clear hK K
            try simp only [Act.put, List.setIfInBounds_toArray, List.set_cons_zero, List.set_cons_succ]
            refine wpAnyH_take (i := 8) (oi := { dst := some 71, op := Op.fieldAddr 25 (Operand.tmp 9) 2, type := 0, pos := "law.go:55", after := #[{ on := 0, ground := Ground.phase }, { on := 1, ground := Ground.phase }, { on := 2, ground := Ground.phase }, { on := 3, ground := Ground.phase }, { on := 4, ground := Ground.phase }, { on := 5, ground := Ground.phase }, { on := 6, ground := Ground.phase }, { on := 7, ground := Ground.phase }], guard := none }) (v := ?_) rfl (by kernel_rfl) (by kernel_rfl) (by kernel_rfl) (fun _ _ _ h => h) (Or.inl ⟨by kernel_rfl, ?_⟩) (by assumption) ?_
            rotate_left 1
            focus (intro w hSw; (try dsimp only at hSw); go_simp; (try with_reducible rfl))
            try simp only [Act.put, List.setIfInBounds_toArray, List.set_cons_zero, List.set_cons_succ]
            refine wpAnyH_ready (rs := [9]) (by kernel_rfl) (by simp) (AllReadyH.cons (o := { dst := none, op := Op.store 22 (Operand.tmp 71) (Operand.tmp 70), type := 0, pos := "law.go:55", after := #[{ on := 8, ground := Ground.data }, { on := 7, ground := Ground.data }, { on := 7, ground := Ground.chain }, { on := 0, ground := Ground.phase }, { on := 1, ground := Ground.phase }, { on := 2, ground := Ground.phase }, { on := 3, ground := Ground.phase }, { on := 4, ground := Ground.phase }, { on := 5, ground := Ground.phase }, { on := 6, ground := Ground.phase }, { on := 7, ground := Ground.phase }], guard := none }) rfl (fun K hK => ?_) AllReadyH.nil)
            have s18r16t := put2 s17r16t HHH.out.2.2 (by simp) (.slice pv7 (ks2.length + 1) cv7)
            refine wp_store_of 22 (.tmp 71) (.tmp 70) rfl rfl rfl (st_fqK (s17r16t.row (b := hh) (o := (fq k2 r2 (.slice pK2 nK2 cK2) d2 v2 (.slice pC2 nC2 cC2))) (by simp))) ?_
            refine hK.out _ _ ?_ (fun hHeld => ?_)
            · exact HS3.out _ s18r16t.below
            clear hK K
            try simp only [Act.put, List.setIfInBounds_toArray, List.set_cons_zero, List.set_cons_succ]
            refine wpAnyH_done (by kernel_rfl) ?_ _
            have HT8 := Lib.hid s18r16t
            have HO8 := Lib.hid (And.intro ((own_low (j := 2) (x := .slice pv7 (ks2.length + 1) cv7) ho7 (Nat.lt_succ_self hh)).cm) (HC6.out _ s18r16t.below))
            go_wp2_with fail
            go_meet
            exact ⟨k2, r2, d2, v2, _, _, _, _, _, _, ks2 ++ [y], cs2, HT8, HO8, by have := HLen.out; unfold Hid; simp only [List.length_append, List.length_singleton]; omega⟩
          · have s19r16t := s14r16t.later (below1 (o := (.cells #[.int .i64 y] 3)))
            have s19r16o := s14r16o.later (below1 (o := (.cells #[.int .i64 y] 3)))
            have s19r16n := cell_alloc U14r16 (.int .i64 y) 3
            have s19r16m : U14r16.heap.size < (U14r16.alloc (.cells #[.int .i64 y] 3)).heap.size := by rw [World.size_alloc]; exact Nat.lt_succ_self _
            have s19r16z := Nat.lt_of_lt_of_le s14r16z (below1 (w := U14r16) (o := (.cells #[.int .i64 y] 3))).size
            have hne : U14r16.heap.size ≠ g0 := Nat.ne_of_gt s14r16z
            refine wp_intT 22 Tryz.underlying22 (.tmp 68) rfl rfl ?_
            generalize U14r16.alloc (.cells #[.int .i64 y] 3) = U19r16 at s19r16t s19r16o s19r16n s19r16m s19r16z ⊢
            generalize U14r16.heap.size = g1 at s19r16n s19r16m hne ⊢
            refine hK.out _ _ ?_ (fun hHeld => ?_)
            · exact HS3.out _ s19r16t.below
            clear hK K
            try simp only [Act.put, List.setIfInBounds_toArray, List.set_cons_zero, List.set_cons_succ]
            refine wpAnyH_ready (rs := [3]) (by kernel_rfl) (by simp) (AllReadyH.cons (o := { dst := some 66, op := Op.call { callee := Callee.builtin Builtin.append, args := #[Operand.tmp 63, Operand.tmp 65], argTypes := #[22, 22] }, type := 22, pos := "law.go:55", after := #[{ on := 0, ground := Ground.data }, { on := 2, ground := Ground.data }], guard := none }) rfl (fun K hK => ?_) AllReadyH.nil)
            refine wp_appL 22 Tryz.underlying22 (.tmp 63) (.tmp 65) rfl (hh + 1) g0 (.slice pK2 nK2 cK2) ks2 rfl s19r16o rfl (HK6.out _ s19r16t.below) HHK.out (Nat.lt_of_le_of_lt HLK.out (by decide)) (Nat.succ_le_of_lt (s19r16t.lt (b := hh) (o := (fq k2 r2 (.slice pK2 nK2 cK2) d2 v2 (.slice pC2 nC2 cC2))) (by simp))) ?_
            intro v3 w3 ho3 hb3 hk3
            have s20r16t := St_past s19r16t hb3 HHH.out.1 HHH.out.2.1
            have s20r16n := (cell_heap (hk3 _ s19r16m hne)).trans s19r16n
            have s20r16m := Nat.lt_of_lt_of_le s19r16m hb3.size
            have s20r16o := ho3
            refine hK.out _ _ ?_ (fun hHeld => ?_)
            · exact HS3.out _ s20r16t.below
            clear hK K
            try simp only [Act.put, List.setIfInBounds_toArray, List.set_cons_zero, List.set_cons_succ]
            refine wpAnyH_ready (rs := [7]) (by kernel_rfl) (by simp) (AllReadyH.cons (o := { dst := some 70, op := Op.call { callee := Callee.builtin Builtin.append, args := #[Operand.tmp 66, Operand.tmp 69], argTypes := #[22, 22] }, type := 22, pos := "law.go:55", after := #[{ on := 3, ground := Ground.data }, { on := 6, ground := Ground.data }, { on := 3, ground := Ground.chain }], guard := none }) rfl (fun K hK => ?_) AllReadyH.nil)
            refine wp_appT 22 Tryz.underlying22 (.tmp 66) (.tmp 69) rfl (hh + 1) g1 v3 ks2 y rfl s20r16o rfl s20r16n (Nat.lt_of_le_of_lt HLK.out (by decide)) (Nat.succ_le_of_lt (s20r16t.lt (b := hh) (o := (fq k2 r2 (.slice pK2 nK2 cK2) d2 v2 (.slice pC2 nC2 cC2))) (by simp))) ?_
            intro v7 w7 ho7 hb7
            obtain ⟨pv7, cv7, rfl⟩ := ho7.slice (n := ks2.length + 1) (by rw [List.length_append]; rfl)
            have s21r16t := St_past s20r16t hb7 HHH.out.1 HHH.out.2.1
            refine hK.out _ _ ?_ (fun hHeld => ?_)
            · exact HS3.out _ s21r16t.below
            clear hK K
            try simp only [Act.put, List.setIfInBounds_toArray, List.set_cons_zero, List.set_cons_succ]
            refine wpAnyH_take (i := 8) (oi := { dst := some 71, op := Op.fieldAddr 25 (Operand.tmp 9) 2, type := 0, pos := "law.go:55", after := #[{ on := 0, ground := Ground.phase }, { on := 1, ground := Ground.phase }, { on := 2, ground := Ground.phase }, { on := 3, ground := Ground.phase }, { on := 4, ground := Ground.phase }, { on := 5, ground := Ground.phase }, { on := 6, ground := Ground.phase }, { on := 7, ground := Ground.phase }], guard := none }) (v := ?_) rfl (by kernel_rfl) (by kernel_rfl) (by kernel_rfl) (fun _ _ _ h => h) (Or.inl ⟨by kernel_rfl, ?_⟩) (by assumption) ?_
            rotate_left 1
            focus (intro w hSw; (try dsimp only at hSw); go_simp; (try with_reducible rfl))
            try simp only [Act.put, List.setIfInBounds_toArray, List.set_cons_zero, List.set_cons_succ]
            refine wpAnyH_ready (rs := [9]) (by kernel_rfl) (by simp) (AllReadyH.cons (o := { dst := none, op := Op.store 22 (Operand.tmp 71) (Operand.tmp 70), type := 0, pos := "law.go:55", after := #[{ on := 8, ground := Ground.data }, { on := 7, ground := Ground.data }, { on := 7, ground := Ground.chain }, { on := 0, ground := Ground.phase }, { on := 1, ground := Ground.phase }, { on := 2, ground := Ground.phase }, { on := 3, ground := Ground.phase }, { on := 4, ground := Ground.phase }, { on := 5, ground := Ground.phase }, { on := 6, ground := Ground.phase }, { on := 7, ground := Ground.phase }], guard := none }) rfl (fun K hK => ?_) AllReadyH.nil)
            have s22r16t := put2 s21r16t HHH.out.2.2 (by simp) (.slice pv7 (ks2.length + 1) cv7)
            refine wp_store_of 22 (.tmp 71) (.tmp 70) rfl rfl rfl (st_fqK (s21r16t.row (b := hh) (o := (fq k2 r2 (.slice pK2 nK2 cK2) d2 v2 (.slice pC2 nC2 cC2))) (by simp))) ?_
            refine hK.out _ _ ?_ (fun hHeld => ?_)
            · exact HS3.out _ s22r16t.below
            clear hK K
            try simp only [Act.put, List.setIfInBounds_toArray, List.set_cons_zero, List.set_cons_succ]
            refine wpAnyH_done (by kernel_rfl) ?_ _
            have HT8 := Lib.hid s22r16t
            have HO8 := Lib.hid (And.intro ((own_low (j := 2) (x := .slice pv7 (ks2.length + 1) cv7) ho7 (Nat.lt_succ_self hh)).cm) (HC6.out _ s22r16t.below))
            go_wp2_with fail
            go_meet
            exact ⟨k2, r2, d2, v2, _, _, _, _, _, _, ks2 ++ [y], cs2, HT8, HO8, by have := HLen.out; unfold Hid; simp only [List.length_append, List.length_singleton]; omega⟩
        · have s23r16t := s0t.later (below1 (o := (.cells #[.int .i64 y] 3)))
          have s23r16n := cell_alloc u0 (.int .i64 y) 3
          have s23r16m : u0.heap.size < (u0.alloc (.cells #[.int .i64 y] 3)).heap.size := by rw [World.size_alloc]; exact Nat.lt_succ_self _
          refine wp_intT 22 Tryz.underlying22 (.tmp 68) rfl rfl ?_
          generalize u0.alloc (.cells #[.int .i64 y] 3) = U23r16 at s23r16t s23r16n s23r16m ⊢
          generalize u0.heap.size = g1 at s23r16n s23r16m ⊢
          refine hK.out _ _ ?_ (fun hHeld => ?_)
          · exact HS3.out _ s23r16t.below
          clear hK K
          try simp only [Act.put, List.setIfInBounds_toArray, List.set_cons_zero, List.set_cons_succ]
          refine wpAnyH_ready (rs := [0]) (by kernel_rfl) (by simp) (AllReadyH.cons (o := { dst := some 63, op := Op.buildSlice 22 0 #[], type := 22, pos := "law.go:55", after := #[], guard := none }) rfl (fun K hK => ?_) AllReadyH.nil)
          have s24r16t := s23r16t.later (below1 (o := (.cells #[] 3)))
          have s24r16n := ((below1 (w := U23r16) (o := (.cells #[] 3))).cell (p := ⟨g1, 0, none⟩) s23r16m).trans s23r16n
          have s24r16m := Nat.lt_of_lt_of_le s23r16m (below1 (w := U23r16) (o := (.cells #[] 3))).size
          have s24r16o := ownsI_lit U23r16 (hh + 1) (Nat.succ_le_of_lt (s23r16t.lt (b := hh) (o := (fq k2 r2 (.slice pK2 nK2 cK2) d2 v2 (.slice pC2 nC2 cC2))) (by simp))) [] 0 rfl (by decide) #[] rfl
          have s24r16z : U23r16.heap.size < (U23r16.alloc (.cells #[] 3)).heap.size := by rw [World.size_alloc]; exact Nat.lt_succ_self _
          have hne : g1 ≠ U23r16.heap.size := Nat.ne_of_lt s23r16m
          refine wp_int0 22 Tryz.underlying22 rfl ?_
          generalize U23r16.alloc (.cells #[] 3) = U24r16 at s24r16t s24r16o s24r16n s24r16m s24r16z ⊢
          generalize U23r16.heap.size = g0 at s24r16o s24r16z hne ⊢
          refine hK.out _ _ ?_ (fun hHeld => ?_)
          · exact HS3.out _ s24r16t.below
          clear hK K
          try simp only [Act.put, List.setIfInBounds_toArray, List.set_cons_zero, List.set_cons_succ]
          refine wpAnyH_ready (rs := [3]) (by kernel_rfl) (by simp) (AllReadyH.cons (o := { dst := some 66, op := Op.call { callee := Callee.builtin Builtin.append, args := #[Operand.tmp 63, Operand.tmp 65], argTypes := #[22, 22] }, type := 22, pos := "law.go:55", after := #[{ on := 0, ground := Ground.data }, { on := 2, ground := Ground.data }], guard := none }) rfl (fun K hK => ?_) AllReadyH.nil)
          refine wp_appL 22 Tryz.underlying22 (.tmp 63) (.tmp 65) rfl (hh + 1) g0 (.slice pK2 nK2 cK2) ks2 rfl s24r16o rfl (HK6.out _ s24r16t.below) HHK.out (Nat.lt_of_le_of_lt HLK.out (by decide)) (Nat.succ_le_of_lt (s24r16t.lt (b := hh) (o := (fq k2 r2 (.slice pK2 nK2 cK2) d2 v2 (.slice pC2 nC2 cC2))) (by simp))) ?_
          intro v3 w3 ho3 hb3 hk3
          have s25r16t := St_past s24r16t hb3 HHH.out.1 HHH.out.2.1
          have s25r16n := (cell_heap (hk3 _ s24r16m hne)).trans s24r16n
          have s25r16m := Nat.lt_of_lt_of_le s24r16m hb3.size
          have s25r16o := ho3
          refine hK.out _ _ ?_ (fun hHeld => ?_)
          · exact HS3.out _ s25r16t.below
          clear hK K
          try simp only [Act.put, List.setIfInBounds_toArray, List.set_cons_zero, List.set_cons_succ]
          refine wpAnyH_ready (rs := [7]) (by kernel_rfl) (by simp) (AllReadyH.cons (o := { dst := some 70, op := Op.call { callee := Callee.builtin Builtin.append, args := #[Operand.tmp 66, Operand.tmp 69], argTypes := #[22, 22] }, type := 22, pos := "law.go:55", after := #[{ on := 3, ground := Ground.data }, { on := 6, ground := Ground.data }, { on := 3, ground := Ground.chain }], guard := none }) rfl (fun K hK => ?_) AllReadyH.nil)
          refine wp_appT 22 Tryz.underlying22 (.tmp 66) (.tmp 69) rfl (hh + 1) g1 v3 ks2 y rfl s25r16o rfl s25r16n (Nat.lt_of_le_of_lt HLK.out (by decide)) (Nat.succ_le_of_lt (s25r16t.lt (b := hh) (o := (fq k2 r2 (.slice pK2 nK2 cK2) d2 v2 (.slice pC2 nC2 cC2))) (by simp))) ?_
          intro v7 w7 ho7 hb7
          obtain ⟨pv7, cv7, rfl⟩ := ho7.slice (n := ks2.length + 1) (by rw [List.length_append]; rfl)
          have s26r16t := St_past s25r16t hb7 HHH.out.1 HHH.out.2.1
          refine hK.out _ _ ?_ (fun hHeld => ?_)
          · exact HS3.out _ s26r16t.below
          clear hK K
          try simp only [Act.put, List.setIfInBounds_toArray, List.set_cons_zero, List.set_cons_succ]
          refine wpAnyH_take (i := 8) (oi := { dst := some 71, op := Op.fieldAddr 25 (Operand.tmp 9) 2, type := 0, pos := "law.go:55", after := #[{ on := 0, ground := Ground.phase }, { on := 1, ground := Ground.phase }, { on := 2, ground := Ground.phase }, { on := 3, ground := Ground.phase }, { on := 4, ground := Ground.phase }, { on := 5, ground := Ground.phase }, { on := 6, ground := Ground.phase }, { on := 7, ground := Ground.phase }], guard := none }) (v := ?_) rfl (by kernel_rfl) (by kernel_rfl) (by kernel_rfl) (fun _ _ _ h => h) (Or.inl ⟨by kernel_rfl, ?_⟩) (by assumption) ?_
          rotate_left 1
          focus (intro w hSw; (try dsimp only at hSw); go_simp; (try with_reducible rfl))
          try simp only [Act.put, List.setIfInBounds_toArray, List.set_cons_zero, List.set_cons_succ]
          refine wpAnyH_ready (rs := [9]) (by kernel_rfl) (by simp) (AllReadyH.cons (o := { dst := none, op := Op.store 22 (Operand.tmp 71) (Operand.tmp 70), type := 0, pos := "law.go:55", after := #[{ on := 8, ground := Ground.data }, { on := 7, ground := Ground.data }, { on := 7, ground := Ground.chain }, { on := 0, ground := Ground.phase }, { on := 1, ground := Ground.phase }, { on := 2, ground := Ground.phase }, { on := 3, ground := Ground.phase }, { on := 4, ground := Ground.phase }, { on := 5, ground := Ground.phase }, { on := 6, ground := Ground.phase }, { on := 7, ground := Ground.phase }], guard := none }) rfl (fun K hK => ?_) AllReadyH.nil)
          have s27r16t := put2 s26r16t HHH.out.2.2 (by simp) (.slice pv7 (ks2.length + 1) cv7)
          refine wp_store_of 22 (.tmp 71) (.tmp 70) rfl rfl rfl (st_fqK (s26r16t.row (b := hh) (o := (fq k2 r2 (.slice pK2 nK2 cK2) d2 v2 (.slice pC2 nC2 cC2))) (by simp))) ?_
          refine hK.out _ _ ?_ (fun hHeld => ?_)
          · exact HS3.out _ s27r16t.below
          clear hK K
          try simp only [Act.put, List.setIfInBounds_toArray, List.set_cons_zero, List.set_cons_succ]
          refine wpAnyH_done (by kernel_rfl) ?_ _
          have HT8 := Lib.hid s27r16t
          have HO8 := Lib.hid (And.intro ((own_low (j := 2) (x := .slice pv7 (ks2.length + 1) cv7) ho7 (Nat.lt_succ_self hh)).cm) (HC6.out _ s27r16t.below))
          go_wp2_with fail
          go_meet
          exact ⟨k2, r2, d2, v2, _, _, _, _, _, _, ks2 ++ [y], cs2, HT8, HO8, by have := HLen.out; unfold Hid; simp only [List.length_append, List.length_singleton]; omega⟩
      · have s28r16t := s0t.later (below1 (o := (.cells #[.int .i64 y] 3)))
        have s28r16n := cell_alloc u0 (.int .i64 y) 3
        have s28r16m : u0.heap.size < (u0.alloc (.cells #[.int .i64 y] 3)).heap.size := by rw [World.size_alloc]; exact Nat.lt_succ_self _
        refine wp_intT 22 Tryz.underlying22 (.tmp 68) rfl rfl ?_
        generalize u0.alloc (.cells #[.int .i64 y] 3) = U28r16 at s28r16t s28r16n s28r16m ⊢
        generalize u0.heap.size = g1 at s28r16n s28r16m ⊢
        refine hK.out _ _ ?_ (fun hHeld => ?_)
        · exact HS3.out _ s28r16t.below
        clear hK K
        try simp only [Act.put, List.setIfInBounds_toArray, List.set_cons_zero, List.set_cons_succ]
        refine wpAnyH_ready (rs := [0, 2]) (by kernel_rfl) (by simp) (AllReadyH.cons (o := { dst := some 63, op := Op.buildSlice 22 0 #[], type := 22, pos := "law.go:55", after := #[], guard := none }) rfl (fun K hK => ?_) (AllReadyH.cons (o := { dst := some 65, op := Op.load 22 (Operand.tmp 64), type := 22, pos := "law.go:55", after := #[{ on := 1, ground := Ground.data }], guard := none }) rfl (fun K hK => ?_) AllReadyH.nil))
        · have s29r16t := s28r16t.later (below1 (o := (.cells #[] 3)))
          have s29r16n := ((below1 (w := U28r16) (o := (.cells #[] 3))).cell (p := ⟨g1, 0, none⟩) s28r16m).trans s28r16n
          have s29r16m := Nat.lt_of_lt_of_le s28r16m (below1 (w := U28r16) (o := (.cells #[] 3))).size
          have s29r16o := ownsI_lit U28r16 (hh + 1) (Nat.succ_le_of_lt (s28r16t.lt (b := hh) (o := (fq k2 r2 (.slice pK2 nK2 cK2) d2 v2 (.slice pC2 nC2 cC2))) (by simp))) [] 0 rfl (by decide) #[] rfl
          have s29r16z : U28r16.heap.size < (U28r16.alloc (.cells #[] 3)).heap.size := by rw [World.size_alloc]; exact Nat.lt_succ_self _
          have hne : g1 ≠ U28r16.heap.size := Nat.ne_of_lt s28r16m
          refine wp_int0 22 Tryz.underlying22 rfl ?_
          generalize U28r16.alloc (.cells #[] 3) = U29r16 at s29r16t s29r16o s29r16n s29r16m s29r16z ⊢
          generalize U28r16.heap.size = g0 at s29r16o s29r16z hne ⊢
          refine hK.out _ _ ?_ (fun hHeld => ?_)
          · exact HS3.out _ s29r16t.below
          clear hK K
          try simp only [Act.put, List.setIfInBounds_toArray, List.set_cons_zero, List.set_cons_succ]
          refine wpAnyH_ready (rs := [2]) (by kernel_rfl) (by simp) (AllReadyH.cons (o := { dst := some 65, op := Op.load 22 (Operand.tmp 64), type := 22, pos := "law.go:55", after := #[{ on := 1, ground := Ground.data }], guard := none }) rfl (fun K hK => ?_) AllReadyH.nil)
          refine wp_load_of 22 (.tmp 64) _ rfl rfl (ld_fqK (s29r16t.row (b := hh) (o := (fq k2 r2 (.slice pK2 nK2 cK2) d2 v2 (.slice pC2 nC2 cC2))) (by simp))) ?_
          refine hK.out _ _ ?_ (fun hHeld => ?_)
          · exact HS3.out _ s29r16t.below
          clear hK K
          try simp only [Act.put, List.setIfInBounds_toArray, List.set_cons_zero, List.set_cons_succ]
          refine wpAnyH_ready (rs := [3]) (by kernel_rfl) (by simp) (AllReadyH.cons (o := { dst := some 66, op := Op.call { callee := Callee.builtin Builtin.append, args := #[Operand.tmp 63, Operand.tmp 65], argTypes := #[22, 22] }, type := 22, pos := "law.go:55", after := #[{ on := 0, ground := Ground.data }, { on := 2, ground := Ground.data }], guard := none }) rfl (fun K hK => ?_) AllReadyH.nil)
          refine wp_appL 22 Tryz.underlying22 (.tmp 63) (.tmp 65) rfl (hh + 1) g0 (.slice pK2 nK2 cK2) ks2 rfl s29r16o rfl (HK6.out _ s29r16t.below) HHK.out (Nat.lt_of_le_of_lt HLK.out (by decide)) (Nat.succ_le_of_lt (s29r16t.lt (b := hh) (o := (fq k2 r2 (.slice pK2 nK2 cK2) d2 v2 (.slice pC2 nC2 cC2))) (by simp))) ?_
          intro v3 w3 ho3 hb3 hk3
          have s30r16t := St_past s29r16t hb3 HHH.out.1 HHH.out.2.1
          have s30r16n := (cell_heap (hk3 _ s29r16m hne)).trans s29r16n
          have s30r16m := Nat.lt_of_lt_of_le s29r16m hb3.size
          have s30r16o := ho3
          refine hK.out _ _ ?_ (fun hHeld => ?_)
          · exact HS3.out _ s30r16t.below
          clear hK K
          try simp only [Act.put, List.setIfInBounds_toArray, List.set_cons_zero, List.set_cons_succ]
          refine wpAnyH_ready (rs := [7]) (by kernel_rfl) (by simp) (AllReadyH.cons (o := { dst := some 70, op := Op.call { callee := Callee.builtin Builtin.append, args := #[Operand.tmp 66, Operand.tmp 69], argTypes := #[22, 22] }, type := 22, pos := "law.go:55", after := #[{ on := 3, ground := Ground.data }, { on := 6, ground := Ground.data }, { on := 3, ground := Ground.chain }], guard := none }) rfl (fun K hK => ?_) AllReadyH.nil)
          refine wp_appT 22 Tryz.underlying22 (.tmp 66) (.tmp 69) rfl (hh + 1) g1 v3 ks2 y rfl s30r16o rfl s30r16n (Nat.lt_of_le_of_lt HLK.out (by decide)) (Nat.succ_le_of_lt (s30r16t.lt (b := hh) (o := (fq k2 r2 (.slice pK2 nK2 cK2) d2 v2 (.slice pC2 nC2 cC2))) (by simp))) ?_
          intro v7 w7 ho7 hb7
          obtain ⟨pv7, cv7, rfl⟩ := ho7.slice (n := ks2.length + 1) (by rw [List.length_append]; rfl)
          have s31r16t := St_past s30r16t hb7 HHH.out.1 HHH.out.2.1
          refine hK.out _ _ ?_ (fun hHeld => ?_)
          · exact HS3.out _ s31r16t.below
          clear hK K
          try simp only [Act.put, List.setIfInBounds_toArray, List.set_cons_zero, List.set_cons_succ]
          refine wpAnyH_take (i := 8) (oi := { dst := some 71, op := Op.fieldAddr 25 (Operand.tmp 9) 2, type := 0, pos := "law.go:55", after := #[{ on := 0, ground := Ground.phase }, { on := 1, ground := Ground.phase }, { on := 2, ground := Ground.phase }, { on := 3, ground := Ground.phase }, { on := 4, ground := Ground.phase }, { on := 5, ground := Ground.phase }, { on := 6, ground := Ground.phase }, { on := 7, ground := Ground.phase }], guard := none }) (v := ?_) rfl (by kernel_rfl) (by kernel_rfl) (by kernel_rfl) (fun _ _ _ h => h) (Or.inl ⟨by kernel_rfl, ?_⟩) (by assumption) ?_
          rotate_left 1
          focus (intro w hSw; (try dsimp only at hSw); go_simp; (try with_reducible rfl))
          try simp only [Act.put, List.setIfInBounds_toArray, List.set_cons_zero, List.set_cons_succ]
          refine wpAnyH_ready (rs := [9]) (by kernel_rfl) (by simp) (AllReadyH.cons (o := { dst := none, op := Op.store 22 (Operand.tmp 71) (Operand.tmp 70), type := 0, pos := "law.go:55", after := #[{ on := 8, ground := Ground.data }, { on := 7, ground := Ground.data }, { on := 7, ground := Ground.chain }, { on := 0, ground := Ground.phase }, { on := 1, ground := Ground.phase }, { on := 2, ground := Ground.phase }, { on := 3, ground := Ground.phase }, { on := 4, ground := Ground.phase }, { on := 5, ground := Ground.phase }, { on := 6, ground := Ground.phase }, { on := 7, ground := Ground.phase }], guard := none }) rfl (fun K hK => ?_) AllReadyH.nil)
          have s32r16t := put2 s31r16t HHH.out.2.2 (by simp) (.slice pv7 (ks2.length + 1) cv7)
          refine wp_store_of 22 (.tmp 71) (.tmp 70) rfl rfl rfl (st_fqK (s31r16t.row (b := hh) (o := (fq k2 r2 (.slice pK2 nK2 cK2) d2 v2 (.slice pC2 nC2 cC2))) (by simp))) ?_
          refine hK.out _ _ ?_ (fun hHeld => ?_)
          · exact HS3.out _ s32r16t.below
          clear hK K
          try simp only [Act.put, List.setIfInBounds_toArray, List.set_cons_zero, List.set_cons_succ]
          refine wpAnyH_done (by kernel_rfl) ?_ _
          have HT8 := Lib.hid s32r16t
          have HO8 := Lib.hid (And.intro ((own_low (j := 2) (x := .slice pv7 (ks2.length + 1) cv7) ho7 (Nat.lt_succ_self hh)).cm) (HC6.out _ s32r16t.below))
          go_wp2_with fail
          go_meet
          exact ⟨k2, r2, d2, v2, _, _, _, _, _, _, ks2 ++ [y], cs2, HT8, HO8, by have := HLen.out; unfold Hid; simp only [List.length_append, List.length_singleton]; omega⟩
        · refine wp_load_of 22 (.tmp 64) _ rfl rfl (ld_fqK (s28r16t.row (b := hh) (o := (fq k2 r2 (.slice pK2 nK2 cK2) d2 v2 (.slice pC2 nC2 cC2))) (by simp))) ?_
          refine hK.out _ _ ?_ (fun hHeld => ?_)
          · exact HS3.out _ s28r16t.below
          clear hK K
          try simp only [Act.put, List.setIfInBounds_toArray, List.set_cons_zero, List.set_cons_succ]
          refine wpAnyH_ready (rs := [0]) (by kernel_rfl) (by simp) (AllReadyH.cons (o := { dst := some 63, op := Op.buildSlice 22 0 #[], type := 22, pos := "law.go:55", after := #[], guard := none }) rfl (fun K hK => ?_) AllReadyH.nil)
          have s33r16t := s28r16t.later (below1 (o := (.cells #[] 3)))
          have s33r16n := ((below1 (w := U28r16) (o := (.cells #[] 3))).cell (p := ⟨g1, 0, none⟩) s28r16m).trans s28r16n
          have s33r16m := Nat.lt_of_lt_of_le s28r16m (below1 (w := U28r16) (o := (.cells #[] 3))).size
          have s33r16o := ownsI_lit U28r16 (hh + 1) (Nat.succ_le_of_lt (s28r16t.lt (b := hh) (o := (fq k2 r2 (.slice pK2 nK2 cK2) d2 v2 (.slice pC2 nC2 cC2))) (by simp))) [] 0 rfl (by decide) #[] rfl
          have s33r16z : U28r16.heap.size < (U28r16.alloc (.cells #[] 3)).heap.size := by rw [World.size_alloc]; exact Nat.lt_succ_self _
          have hne : g1 ≠ U28r16.heap.size := Nat.ne_of_lt s28r16m
          refine wp_int0 22 Tryz.underlying22 rfl ?_
          generalize U28r16.alloc (.cells #[] 3) = U33r16 at s33r16t s33r16o s33r16n s33r16m s33r16z ⊢
          generalize U28r16.heap.size = g0 at s33r16o s33r16z hne ⊢
          refine hK.out _ _ ?_ (fun hHeld => ?_)
          · exact HS3.out _ s33r16t.below
          clear hK K
          try simp only [Act.put, List.setIfInBounds_toArray, List.set_cons_zero, List.set_cons_succ]
          refine wpAnyH_ready (rs := [3]) (by kernel_rfl) (by simp) (AllReadyH.cons (o := { dst := some 66, op := Op.call { callee := Callee.builtin Builtin.append, args := #[Operand.tmp 63, Operand.tmp 65], argTypes := #[22, 22] }, type := 22, pos := "law.go:55", after := #[{ on := 0, ground := Ground.data }, { on := 2, ground := Ground.data }], guard := none }) rfl (fun K hK => ?_) AllReadyH.nil)
          refine wp_appL 22 Tryz.underlying22 (.tmp 63) (.tmp 65) rfl (hh + 1) g0 (.slice pK2 nK2 cK2) ks2 rfl s33r16o rfl (HK6.out _ s33r16t.below) HHK.out (Nat.lt_of_le_of_lt HLK.out (by decide)) (Nat.succ_le_of_lt (s33r16t.lt (b := hh) (o := (fq k2 r2 (.slice pK2 nK2 cK2) d2 v2 (.slice pC2 nC2 cC2))) (by simp))) ?_
          intro v3 w3 ho3 hb3 hk3
          have s34r16t := St_past s33r16t hb3 HHH.out.1 HHH.out.2.1
          have s34r16n := (cell_heap (hk3 _ s33r16m hne)).trans s33r16n
          have s34r16m := Nat.lt_of_lt_of_le s33r16m hb3.size
          have s34r16o := ho3
          refine hK.out _ _ ?_ (fun hHeld => ?_)
          · exact HS3.out _ s34r16t.below
          clear hK K
          try simp only [Act.put, List.setIfInBounds_toArray, List.set_cons_zero, List.set_cons_succ]
          refine wpAnyH_ready (rs := [7]) (by kernel_rfl) (by simp) (AllReadyH.cons (o := { dst := some 70, op := Op.call { callee := Callee.builtin Builtin.append, args := #[Operand.tmp 66, Operand.tmp 69], argTypes := #[22, 22] }, type := 22, pos := "law.go:55", after := #[{ on := 3, ground := Ground.data }, { on := 6, ground := Ground.data }, { on := 3, ground := Ground.chain }], guard := none }) rfl (fun K hK => ?_) AllReadyH.nil)
          refine wp_appT 22 Tryz.underlying22 (.tmp 66) (.tmp 69) rfl (hh + 1) g1 v3 ks2 y rfl s34r16o rfl s34r16n (Nat.lt_of_le_of_lt HLK.out (by decide)) (Nat.succ_le_of_lt (s34r16t.lt (b := hh) (o := (fq k2 r2 (.slice pK2 nK2 cK2) d2 v2 (.slice pC2 nC2 cC2))) (by simp))) ?_
          intro v7 w7 ho7 hb7
          obtain ⟨pv7, cv7, rfl⟩ := ho7.slice (n := ks2.length + 1) (by rw [List.length_append]; rfl)
          have s35r16t := St_past s34r16t hb7 HHH.out.1 HHH.out.2.1
          refine hK.out _ _ ?_ (fun hHeld => ?_)
          · exact HS3.out _ s35r16t.below
          clear hK K
          try simp only [Act.put, List.setIfInBounds_toArray, List.set_cons_zero, List.set_cons_succ]
          refine wpAnyH_take (i := 8) (oi := { dst := some 71, op := Op.fieldAddr 25 (Operand.tmp 9) 2, type := 0, pos := "law.go:55", after := #[{ on := 0, ground := Ground.phase }, { on := 1, ground := Ground.phase }, { on := 2, ground := Ground.phase }, { on := 3, ground := Ground.phase }, { on := 4, ground := Ground.phase }, { on := 5, ground := Ground.phase }, { on := 6, ground := Ground.phase }, { on := 7, ground := Ground.phase }], guard := none }) (v := ?_) rfl (by kernel_rfl) (by kernel_rfl) (by kernel_rfl) (fun _ _ _ h => h) (Or.inl ⟨by kernel_rfl, ?_⟩) (by assumption) ?_
          rotate_left 1
          focus (intro w hSw; (try dsimp only at hSw); go_simp; (try with_reducible rfl))
          try simp only [Act.put, List.setIfInBounds_toArray, List.set_cons_zero, List.set_cons_succ]
          refine wpAnyH_ready (rs := [9]) (by kernel_rfl) (by simp) (AllReadyH.cons (o := { dst := none, op := Op.store 22 (Operand.tmp 71) (Operand.tmp 70), type := 0, pos := "law.go:55", after := #[{ on := 8, ground := Ground.data }, { on := 7, ground := Ground.data }, { on := 7, ground := Ground.chain }, { on := 0, ground := Ground.phase }, { on := 1, ground := Ground.phase }, { on := 2, ground := Ground.phase }, { on := 3, ground := Ground.phase }, { on := 4, ground := Ground.phase }, { on := 5, ground := Ground.phase }, { on := 6, ground := Ground.phase }, { on := 7, ground := Ground.phase }], guard := none }) rfl (fun K hK => ?_) AllReadyH.nil)
          have s36r16t := put2 s35r16t HHH.out.2.2 (by simp) (.slice pv7 (ks2.length + 1) cv7)
          refine wp_store_of 22 (.tmp 71) (.tmp 70) rfl rfl rfl (st_fqK (s35r16t.row (b := hh) (o := (fq k2 r2 (.slice pK2 nK2 cK2) d2 v2 (.slice pC2 nC2 cC2))) (by simp))) ?_
          refine hK.out _ _ ?_ (fun hHeld => ?_)
          · exact HS3.out _ s36r16t.below
          clear hK K
          try simp only [Act.put, List.setIfInBounds_toArray, List.set_cons_zero, List.set_cons_succ]
          refine wpAnyH_done (by kernel_rfl) ?_ _
          have HT8 := Lib.hid s36r16t
          have HO8 := Lib.hid (And.intro ((own_low (j := 2) (x := .slice pv7 (ks2.length + 1) cv7) ho7 (Nat.lt_succ_self hh)).cm) (HC6.out _ s36r16t.below))
          go_wp2_with fail
          go_meet
          exact ⟨k2, r2, d2, v2, _, _, _, _, _, _, ks2 ++ [y], cs2, HT8, HO8, by have := HLen.out; unfold Hid; simp only [List.length_append, List.length_singleton]; omega⟩
    · as_aux_lemma =>
      go_upto_region 18 with fail
      have s0t := HS2.out.drew
      refine wp_region_held_drew (S := fun V9 => V9.cell? ⟨b + 1, 1, none⟩ = some (.int .i64 y)) (by kernel_rfl) ?_ (fun hHeld => ?_)
      · exact HS3.out _ s0t.below
      generalize w7.drew = u0 at s0t hHeld ⊢
      refine wpAnyH_take (i := 1) (oi := { dst := some 75, op := Op.fieldAddr 25 (Operand.tmp 9) 5, type := 0, pos := "law.go:57", after := #[], guard := none }) (v := ?_) rfl (by kernel_rfl) (by kernel_rfl) (by kernel_rfl) (fun _ _ _ h => h) (Or.inl ⟨by kernel_rfl, ?_⟩) (by assumption) ?_
      rotate_left 1
      focus (intro w hSw; (try dsimp only at hSw); go_simp; (try with_reducible rfl))
      try simp only [Act.put, List.setIfInBounds_toArray, List.set_cons_zero, List.set_cons_succ]
      refine wpAnyH_take (i := 4) (oi := { dst := some 78, op := Op.indexAddr 26 (Operand.tmp 5) (Operand.const (Value.int IntKind.i64 1)), type := 0, pos := "law.go:57", after := #[], guard := none }) (v := ?_) rfl (by kernel_rfl) (by kernel_rfl) (by kernel_rfl) (fun _ _ _ h => h) (Or.inl ⟨by kernel_rfl, ?_⟩) (by assumption) ?_
      rotate_left 1
      focus (intro w hSw; (try dsimp only at hSw); go_simp; (try with_reducible rfl))
      try simp only [Act.put, List.setIfInBounds_toArray, List.set_cons_zero, List.set_cons_succ]
      refine wpAnyH_take (i := 5) (oi := { dst := some 79, op := Op.load 3 (Operand.tmp 78), type := 3, pos := "law.go:57", after := #[{ on := 4, ground := Ground.data }], guard := none }) (v := ?_) rfl (by kernel_rfl) (by kernel_rfl) (by kernel_rfl) (fun _ _ _ h => h) (Or.inl ⟨by kernel_rfl, ?_⟩) (by assumption) ?_
      rotate_left 1
      focus (intro w hSw; (try dsimp only at hSw); go_simp; (try with_reducible rfl))
      try simp only [Act.put, List.setIfInBounds_toArray, List.set_cons_zero, List.set_cons_succ]
      refine wpAnyH_ready (rs := [0, 2, 6]) (by kernel_rfl) (by simp) (AllReadyH.cons (o := { dst := some 74, op := Op.buildSlice 23 0 #[], type := 23, pos := "law.go:57", after := #[], guard := none }) rfl (fun K hK => ?_) (AllReadyH.cons (o := { dst := some 76, op := Op.load 23 (Operand.tmp 75), type := 23, pos := "law.go:57", after := #[{ on := 1, ground := Ground.data }], guard := none }) rfl (fun K hK => ?_) (AllReadyH.cons (o := { dst := some 80, op := Op.buildSlice 23 1 #[(0, Operand.tmp 79)], type := 23, pos := "law.go:57", after := #[{ on := 5, ground := Ground.data }], guard := none }) rfl (fun K hK => ?_) AllReadyH.nil)))
      · have s1r18t := s0t.later (below1 (o := (.cells #[] 3)))
        have s1r18o := ownsI_lit u0 (hh + 1) (Nat.succ_le_of_lt (s0t.lt (b := hh) (o := (fq k2 r2 (.slice pK2 nK2 cK2) d2 v2 (.slice pC2 nC2 cC2))) (by simp))) [] 0 rfl (by decide) #[] rfl
        have s1r18z : u0.heap.size < (u0.alloc (.cells #[] 3)).heap.size := by rw [World.size_alloc]; exact Nat.lt_succ_self _
        refine wp_int0 23 Tryz.underlying23 rfl ?_
        generalize u0.alloc (.cells #[] 3) = U1r18 at s1r18t s1r18o s1r18z ⊢
        generalize u0.heap.size = g0 at s1r18o s1r18z ⊢
        refine hK.out _ _ ?_ (fun hHeld => ?_)
        · exact HS3.out _ s1r18t.below
        clear hK K
        try simp only [Act.put, List.setIfInBounds_toArray, List.set_cons_zero, List.set_cons_succ]
        refine wpAnyH_ready (rs := [2, 6]) (by kernel_rfl) (by simp) (AllReadyH.cons (o := { dst := some 76, op := Op.load 23 (Operand.tmp 75), type := 23, pos := "law.go:57", after := #[{ on := 1, ground := Ground.data }], guard := none }) rfl (fun K hK => ?_) (AllReadyH.cons (o := { dst := some 80, op := Op.buildSlice 23 1 #[(0, Operand.tmp 79)], type := 23, pos := "law.go:57", after := #[{ on := 5, ground := Ground.data }], guard := none }) rfl (fun K hK => ?_) AllReadyH.nil))
        · refine wp_load_of 23 (.tmp 75) _ rfl rfl (ld_fqC (s1r18t.row (b := hh) (o := (fq k2 r2 (.slice pK2 nK2 cK2) d2 v2 (.slice pC2 nC2 cC2))) (by simp))) ?_
          refine hK.out _ _ ?_ (fun hHeld => ?_)
          · exact HS3.out _ s1r18t.below
          clear hK K
          try simp only [Act.put, List.setIfInBounds_toArray, List.set_cons_zero, List.set_cons_succ]
          refine wpAnyH_ready (rs := [3, 6]) (by kernel_rfl) (by simp) (AllReadyH.cons (o := { dst := some 77, op := Op.call { callee := Callee.builtin Builtin.append, args := #[Operand.tmp 74, Operand.tmp 76], argTypes := #[23, 23] }, type := 23, pos := "law.go:57", after := #[{ on := 0, ground := Ground.data }, { on := 2, ground := Ground.data }], guard := none }) rfl (fun K hK => ?_) (AllReadyH.cons (o := { dst := some 80, op := Op.buildSlice 23 1 #[(0, Operand.tmp 79)], type := 23, pos := "law.go:57", after := #[{ on := 5, ground := Ground.data }], guard := none }) rfl (fun K hK => ?_) AllReadyH.nil))
          · refine wp_appL 23 Tryz.underlying23 (.tmp 74) (.tmp 76) rfl (hh + 1) g0 (.slice pC2 nC2 cC2) cs2 rfl s1r18o rfl (HC6.out _ s1r18t.below) HHC.out (Nat.lt_of_le_of_lt HLC.out (by decide)) (Nat.succ_le_of_lt (s1r18t.lt (b := hh) (o := (fq k2 r2 (.slice pK2 nK2 cK2) d2 v2 (.slice pC2 nC2 cC2))) (by simp))) ?_
            intro v3 w3 ho3 hb3 hk3
            have s2r18t := St_past s1r18t hb3 HHH.out.1 HHH.out.2.1
            have s2r18o := ho3
            refine hK.out _ _ ?_ (fun hHeld => ?_)
            · exact HS3.out _ s2r18t.below
            clear hK K
            try simp only [Act.put, List.setIfInBounds_toArray, List.set_cons_zero, List.set_cons_succ]
            refine wpAnyH_ready (rs := [6]) (by kernel_rfl) (by simp) (AllReadyH.cons (o := { dst := some 80, op := Op.buildSlice 23 1 #[(0, Operand.tmp 79)], type := 23, pos := "law.go:57", after := #[{ on := 5, ground := Ground.data }], guard := none }) rfl (fun K hK => ?_) AllReadyH.nil)
            have s3r18t := s2r18t.later (below1 (o := (.cells #[.int .i64 y] 3)))
            have s3r18o := s2r18o.later (below1 (o := (.cells #[.int .i64 y] 3)))
            have s3r18n := cell_alloc w3 (.int .i64 y) 3
            have s3r18m : w3.heap.size < (w3.alloc (.cells #[.int .i64 y] 3)).heap.size := by rw [World.size_alloc]; exact Nat.lt_succ_self _
            refine wp_intT 23 Tryz.underlying23 (.tmp 79) rfl rfl ?_
            generalize w3.alloc (.cells #[.int .i64 y] 3) = U3r18 at s3r18t s3r18o s3r18n s3r18m ⊢
            generalize w3.heap.size = g1 at s3r18n s3r18m ⊢
            refine hK.out _ _ ?_ (fun hHeld => ?_)
            · exact HS3.out _ s3r18t.below
            clear hK K
            try simp only [Act.put, List.setIfInBounds_toArray, List.set_cons_zero, List.set_cons_succ]
            refine wpAnyH_ready (rs := [7]) (by kernel_rfl) (by simp) (AllReadyH.cons (o := { dst := some 81, op := Op.call { callee := Callee.builtin Builtin.append, args := #[Operand.tmp 77, Operand.tmp 80], argTypes := #[23, 23] }, type := 23, pos := "law.go:57", after := #[{ on := 3, ground := Ground.data }, { on := 6, ground := Ground.data }, { on := 3, ground := Ground.chain }], guard := none }) rfl (fun K hK => ?_) AllReadyH.nil)
            refine wp_appT 23 Tryz.underlying23 (.tmp 77) (.tmp 80) rfl (hh + 1) g1 v3 cs2 y rfl s3r18o rfl s3r18n (Nat.lt_of_le_of_lt HLC.out (by decide)) (Nat.succ_le_of_lt (s3r18t.lt (b := hh) (o := (fq k2 r2 (.slice pK2 nK2 cK2) d2 v2 (.slice pC2 nC2 cC2))) (by simp))) ?_
            intro v7 w7 ho7 hb7
            obtain ⟨pv7, cv7, rfl⟩ := ho7.slice (n := cs2.length + 1) (by rw [List.length_append]; rfl)
            have s4r18t := St_past s3r18t hb7 HHH.out.1 HHH.out.2.1
            refine hK.out _ _ ?_ (fun hHeld => ?_)
            · exact HS3.out _ s4r18t.below
            clear hK K
            try simp only [Act.put, List.setIfInBounds_toArray, List.set_cons_zero, List.set_cons_succ]
            refine wpAnyH_take (i := 8) (oi := { dst := some 82, op := Op.fieldAddr 25 (Operand.tmp 9) 5, type := 0, pos := "law.go:57", after := #[{ on := 0, ground := Ground.phase }, { on := 1, ground := Ground.phase }, { on := 2, ground := Ground.phase }, { on := 3, ground := Ground.phase }, { on := 4, ground := Ground.phase }, { on := 5, ground := Ground.phase }, { on := 6, ground := Ground.phase }, { on := 7, ground := Ground.phase }], guard := none }) (v := ?_) rfl (by kernel_rfl) (by kernel_rfl) (by kernel_rfl) (fun _ _ _ h => h) (Or.inl ⟨by kernel_rfl, ?_⟩) (by assumption) ?_
            rotate_left 1
            focus (intro w hSw; (try dsimp only at hSw); go_simp; (try with_reducible rfl))
            try simp only [Act.put, List.setIfInBounds_toArray, List.set_cons_zero, List.set_cons_succ]
            refine wpAnyH_ready (rs := [9]) (by kernel_rfl) (by simp) (AllReadyH.cons (o := { dst := none, op := Op.store 23 (Operand.tmp 82) (Operand.tmp 81), type := 0, pos := "law.go:57", after := #[{ on := 8, ground := Ground.data }, { on := 7, ground := Ground.data }, { on := 7, ground := Ground.chain }, { on := 0, ground := Ground.phase }, { on := 1, ground := Ground.phase }, { on := 2, ground := Ground.phase }, { on := 3, ground := Ground.phase }, { on := 4, ground := Ground.phase }, { on := 5, ground := Ground.phase }, { on := 6, ground := Ground.phase }, { on := 7, ground := Ground.phase }], guard := none }) rfl (fun K hK => ?_) AllReadyH.nil)
            have s5r18t := put5 s4r18t HHH.out.2.2 (by simp) (.slice pv7 (cs2.length + 1) cv7)
            refine wp_store_of 23 (.tmp 82) (.tmp 81) rfl rfl rfl (st_fqC (s4r18t.row (b := hh) (o := (fq k2 r2 (.slice pK2 nK2 cK2) d2 v2 (.slice pC2 nC2 cC2))) (by simp))) ?_
            refine hK.out _ _ ?_ (fun hHeld => ?_)
            · exact HS3.out _ s5r18t.below
            clear hK K
            try simp only [Act.put, List.setIfInBounds_toArray, List.set_cons_zero, List.set_cons_succ]
            refine wpAnyH_done (by kernel_rfl) ?_ _
            have HT8 := Lib.hid s5r18t
            have HO8 := Lib.hid (And.intro (HK6.out _ s5r18t.below) ((own_low (j := 5) (x := .slice pv7 (cs2.length + 1) cv7) ho7 (Nat.lt_succ_self hh)).cm))
            go_wp2_with fail
            go_meet
            exact ⟨k2, r2, d2, v2, _, _, _, _, _, _, ks2, cs2 ++ [y], HT8, HO8, by have := HLen.out; unfold Hid; simp only [List.length_append, List.length_singleton]; omega⟩
          · have s6r18t := s1r18t.later (below1 (o := (.cells #[.int .i64 y] 3)))
            have s6r18o := s1r18o.later (below1 (o := (.cells #[.int .i64 y] 3)))
            have s6r18n := cell_alloc U1r18 (.int .i64 y) 3
            have s6r18m : U1r18.heap.size < (U1r18.alloc (.cells #[.int .i64 y] 3)).heap.size := by rw [World.size_alloc]; exact Nat.lt_succ_self _
            have s6r18z := Nat.lt_of_lt_of_le s1r18z (below1 (w := U1r18) (o := (.cells #[.int .i64 y] 3))).size
            have hne : U1r18.heap.size ≠ g0 := Nat.ne_of_gt s1r18z
            refine wp_intT 23 Tryz.underlying23 (.tmp 79) rfl rfl ?_
            generalize U1r18.alloc (.cells #[.int .i64 y] 3) = U6r18 at s6r18t s6r18o s6r18n s6r18m s6r18z ⊢
            generalize U1r18.heap.size = g1 at s6r18n s6r18m hne ⊢
            refine hK.out _ _ ?_ (fun hHeld => ?_)
            · exact HS3.out _ s6r18t.below
            clear hK K
            try simp only [Act.put, List.setIfInBounds_toArray, List.set_cons_zero, List.set_cons_succ]
            refine wpAnyH_ready (rs := [3]) (by kernel_rfl) (by simp) (AllReadyH.cons (o := { dst := some 77, op := Op.call { callee := Callee.builtin Builtin.append, args := #[Operand.tmp 74, Operand.tmp 76], argTypes := #[23, 23] }, type := 23, pos := "law.go:57", after := #[{ on := 0, ground := Ground.data }, { on := 2, ground := Ground.data }], guard := none }) rfl (fun K hK => ?_) AllReadyH.nil)
            refine wp_appL 23 Tryz.underlying23 (.tmp 74) (.tmp 76) rfl (hh + 1) g0 (.slice pC2 nC2 cC2) cs2 rfl s6r18o rfl (HC6.out _ s6r18t.below) HHC.out (Nat.lt_of_le_of_lt HLC.out (by decide)) (Nat.succ_le_of_lt (s6r18t.lt (b := hh) (o := (fq k2 r2 (.slice pK2 nK2 cK2) d2 v2 (.slice pC2 nC2 cC2))) (by simp))) ?_
            intro v3 w3 ho3 hb3 hk3
            have s7r18t := St_past s6r18t hb3 HHH.out.1 HHH.out.2.1
            have s7r18n := (cell_heap (hk3 _ s6r18m hne)).trans s6r18n
            have s7r18m := Nat.lt_of_lt_of_le s6r18m hb3.size
            have s7r18o := ho3
            refine hK.out _ _ ?_ (fun hHeld => ?_)
            · exact HS3.out _ s7r18t.below
            clear hK K
            try simp only [Act.put, List.setIfInBounds_toArray, List.set_cons_zero, List.set_cons_succ]
            refine wpAnyH_ready (rs := [7]) (by kernel_rfl) (by simp) (AllReadyH.cons (o := { dst := some 81, op := Op.call { callee := Callee.builtin Builtin.append, args := #[Operand.tmp 77, Operand.tmp 80], argTypes := #[23, 23] }, type := 23, pos := "law.go:57", after := #[{ on := 3, ground := Ground.data }, { on := 6, ground := Ground.data }, { on := 3, ground := Ground.chain }], guard := none }) rfl (fun K hK => ?_) AllReadyH.nil)
            refine wp_appT 23 Tryz.underlying23 (.tmp 77) (.tmp 80) rfl (hh + 1) g1 v3 cs2 y rfl s7r18o rfl s7r18n (Nat.lt_of_le_of_lt HLC.out (by decide)) (Nat.succ_le_of_lt (s7r18t.lt (b := hh) (o := (fq k2 r2 (.slice pK2 nK2 cK2) d2 v2 (.slice pC2 nC2 cC2))) (by simp))) ?_
            intro v7 w7 ho7 hb7
            obtain ⟨pv7, cv7, rfl⟩ := ho7.slice (n := cs2.length + 1) (by rw [List.length_append]; rfl)
            have s8r18t := St_past s7r18t hb7 HHH.out.1 HHH.out.2.1
            refine hK.out _ _ ?_ (fun hHeld => ?_)
            · exact HS3.out _ s8r18t.below
            clear hK K
            try simp only [Act.put, List.setIfInBounds_toArray, List.set_cons_zero, List.set_cons_succ]
            refine wpAnyH_take (i := 8) (oi := { dst := some 82, op := Op.fieldAddr 25 (Operand.tmp 9) 5, type := 0, pos := "law.go:57", after := #[{ on := 0, ground := Ground.phase }, { on := 1, ground := Ground.phase }, { on := 2, ground := Ground.phase }, { on := 3, ground := Ground.phase }, { on := 4, ground := Ground.phase }, { on := 5, ground := Ground.phase }, { on := 6, ground := Ground.phase }, { on := 7, ground := Ground.phase }], guard := none }) (v := ?_) rfl (by kernel_rfl) (by kernel_rfl) (by kernel_rfl) (fun _ _ _ h => h) (Or.inl ⟨by kernel_rfl, ?_⟩) (by assumption) ?_
            rotate_left 1
            focus (intro w hSw; (try dsimp only at hSw); go_simp; (try with_reducible rfl))
            try simp only [Act.put, List.setIfInBounds_toArray, List.set_cons_zero, List.set_cons_succ]
            refine wpAnyH_ready (rs := [9]) (by kernel_rfl) (by simp) (AllReadyH.cons (o := { dst := none, op := Op.store 23 (Operand.tmp 82) (Operand.tmp 81), type := 0, pos := "law.go:57", after := #[{ on := 8, ground := Ground.data }, { on := 7, ground := Ground.data }, { on := 7, ground := Ground.chain }, { on := 0, ground := Ground.phase }, { on := 1, ground := Ground.phase }, { on := 2, ground := Ground.phase }, { on := 3, ground := Ground.phase }, { on := 4, ground := Ground.phase }, { on := 5, ground := Ground.phase }, { on := 6, ground := Ground.phase }, { on := 7, ground := Ground.phase }], guard := none }) rfl (fun K hK => ?_) AllReadyH.nil)
            have s9r18t := put5 s8r18t HHH.out.2.2 (by simp) (.slice pv7 (cs2.length + 1) cv7)
            refine wp_store_of 23 (.tmp 82) (.tmp 81) rfl rfl rfl (st_fqC (s8r18t.row (b := hh) (o := (fq k2 r2 (.slice pK2 nK2 cK2) d2 v2 (.slice pC2 nC2 cC2))) (by simp))) ?_
            refine hK.out _ _ ?_ (fun hHeld => ?_)
            · exact HS3.out _ s9r18t.below
            clear hK K
            try simp only [Act.put, List.setIfInBounds_toArray, List.set_cons_zero, List.set_cons_succ]
            refine wpAnyH_done (by kernel_rfl) ?_ _
            have HT8 := Lib.hid s9r18t
            have HO8 := Lib.hid (And.intro (HK6.out _ s9r18t.below) ((own_low (j := 5) (x := .slice pv7 (cs2.length + 1) cv7) ho7 (Nat.lt_succ_self hh)).cm))
            go_wp2_with fail
            go_meet
            exact ⟨k2, r2, d2, v2, _, _, _, _, _, _, ks2, cs2 ++ [y], HT8, HO8, by have := HLen.out; unfold Hid; simp only [List.length_append, List.length_singleton]; omega⟩
        · have s10r18t := s1r18t.later (below1 (o := (.cells #[.int .i64 y] 3)))
          have s10r18o := s1r18o.later (below1 (o := (.cells #[.int .i64 y] 3)))
          have s10r18n := cell_alloc U1r18 (.int .i64 y) 3
          have s10r18m : U1r18.heap.size < (U1r18.alloc (.cells #[.int .i64 y] 3)).heap.size := by rw [World.size_alloc]; exact Nat.lt_succ_self _
          have s10r18z := Nat.lt_of_lt_of_le s1r18z (below1 (w := U1r18) (o := (.cells #[.int .i64 y] 3))).size
          have hne : U1r18.heap.size ≠ g0 := Nat.ne_of_gt s1r18z
          refine wp_intT 23 Tryz.underlying23 (.tmp 79) rfl rfl ?_
          generalize U1r18.alloc (.cells #[.int .i64 y] 3) = U10r18 at s10r18t s10r18o s10r18n s10r18m s10r18z ⊢
          generalize U1r18.heap.size = g1 at s10r18n s10r18m hne ⊢
          refine hK.out _ _ ?_ (fun hHeld => ?_)
          · exact HS3.out _ s10r18t.below
          clear hK K
          try simp only [Act.put, List.setIfInBounds_toArray, List.set_cons_zero, List.set_cons_succ]
          refine wpAnyH_ready (rs := [2]) (by kernel_rfl) (by simp) (AllReadyH.cons (o := { dst := some 76, op := Op.load 23 (Operand.tmp 75), type := 23, pos := "law.go:57", after := #[{ on := 1, ground := Ground.data }], guard := none }) rfl (fun K hK => ?_) AllReadyH.nil)
          refine wp_load_of 23 (.tmp 75) _ rfl rfl (ld_fqC (s10r18t.row (b := hh) (o := (fq k2 r2 (.slice pK2 nK2 cK2) d2 v2 (.slice pC2 nC2 cC2))) (by simp))) ?_
          refine hK.out _ _ ?_ (fun hHeld => ?_)
          · exact HS3.out _ s10r18t.below
          clear hK K
          try simp only [Act.put, List.setIfInBounds_toArray, List.set_cons_zero, List.set_cons_succ]
          refine wpAnyH_ready (rs := [3]) (by kernel_rfl) (by simp) (AllReadyH.cons (o := { dst := some 77, op := Op.call { callee := Callee.builtin Builtin.append, args := #[Operand.tmp 74, Operand.tmp 76], argTypes := #[23, 23] }, type := 23, pos := "law.go:57", after := #[{ on := 0, ground := Ground.data }, { on := 2, ground := Ground.data }], guard := none }) rfl (fun K hK => ?_) AllReadyH.nil)
          refine wp_appL 23 Tryz.underlying23 (.tmp 74) (.tmp 76) rfl (hh + 1) g0 (.slice pC2 nC2 cC2) cs2 rfl s10r18o rfl (HC6.out _ s10r18t.below) HHC.out (Nat.lt_of_le_of_lt HLC.out (by decide)) (Nat.succ_le_of_lt (s10r18t.lt (b := hh) (o := (fq k2 r2 (.slice pK2 nK2 cK2) d2 v2 (.slice pC2 nC2 cC2))) (by simp))) ?_
          intro v3 w3 ho3 hb3 hk3
          have s11r18t := St_past s10r18t hb3 HHH.out.1 HHH.out.2.1
          have s11r18n := (cell_heap (hk3 _ s10r18m hne)).trans s10r18n
          have s11r18m := Nat.lt_of_lt_of_le s10r18m hb3.size
          have s11r18o := ho3
          refine hK.out _ _ ?_ (fun hHeld => ?_)
          · exact HS3.out _ s11r18t.below
          clear hK K
          try simp only [Act.put, List.setIfInBounds_toArray, List.set_cons_zero, List.set_cons_succ]
          refine wpAnyH_ready (rs := [7]) (by kernel_rfl) (by simp) (AllReadyH.cons (o := { dst := some 81, op := Op.call { callee := Callee.builtin Builtin.append, args := #[Operand.tmp 77, Operand.tmp 80], argTypes := #[23, 23] }, type := 23, pos := "law.go:57", after := #[{ on := 3, ground := Ground.data }, { on := 6, ground := Ground.data }, { on := 3, ground := Ground.chain }], guard := none }) rfl (fun K hK => ?_) AllReadyH.nil)
          refine wp_appT 23 Tryz.underlying23 (.tmp 77) (.tmp 80) rfl (hh + 1) g1 v3 cs2 y rfl s11r18o rfl s11r18n (Nat.lt_of_le_of_lt HLC.out (by decide)) (Nat.succ_le_of_lt (s11r18t.lt (b := hh) (o := (fq k2 r2 (.slice pK2 nK2 cK2) d2 v2 (.slice pC2 nC2 cC2))) (by simp))) ?_
          intro v7 w7 ho7 hb7
          obtain ⟨pv7, cv7, rfl⟩ := ho7.slice (n := cs2.length + 1) (by rw [List.length_append]; rfl)
          have s12r18t := St_past s11r18t hb7 HHH.out.1 HHH.out.2.1
          refine hK.out _ _ ?_ (fun hHeld => ?_)
          · exact HS3.out _ s12r18t.below
          clear hK K
          try simp only [Act.put, List.setIfInBounds_toArray, List.set_cons_zero, List.set_cons_succ]
          refine wpAnyH_take (i := 8) (oi := { dst := some 82, op := Op.fieldAddr 25 (Operand.tmp 9) 5, type := 0, pos := "law.go:57", after := #[{ on := 0, ground := Ground.phase }, { on := 1, ground := Ground.phase }, { on := 2, ground := Ground.phase }, { on := 3, ground := Ground.phase }, { on := 4, ground := Ground.phase }, { on := 5, ground := Ground.phase }, { on := 6, ground := Ground.phase }, { on := 7, ground := Ground.phase }], guard := none }) (v := ?_) rfl (by kernel_rfl) (by kernel_rfl) (by kernel_rfl) (fun _ _ _ h => h) (Or.inl ⟨by kernel_rfl, ?_⟩) (by assumption) ?_
          rotate_left 1
          focus (intro w hSw; (try dsimp only at hSw); go_simp; (try with_reducible rfl))
          try simp only [Act.put, List.setIfInBounds_toArray, List.set_cons_zero, List.set_cons_succ]
          refine wpAnyH_ready (rs := [9]) (by kernel_rfl) (by simp) (AllReadyH.cons (o := { dst := none, op := Op.store 23 (Operand.tmp 82) (Operand.tmp 81), type := 0, pos := "law.go:57", after := #[{ on := 8, ground := Ground.data }, { on := 7, ground := Ground.data }, { on := 7, ground := Ground.chain }, { on := 0, ground := Ground.phase }, { on := 1, ground := Ground.phase }, { on := 2, ground := Ground.phase }, { on := 3, ground := Ground.phase }, { on := 4, ground := Ground.phase }, { on := 5, ground := Ground.phase }, { on := 6, ground := Ground.phase }, { on := 7, ground := Ground.phase }], guard := none }) rfl (fun K hK => ?_) AllReadyH.nil)
          have s13r18t := put5 s12r18t HHH.out.2.2 (by simp) (.slice pv7 (cs2.length + 1) cv7)
          refine wp_store_of 23 (.tmp 82) (.tmp 81) rfl rfl rfl (st_fqC (s12r18t.row (b := hh) (o := (fq k2 r2 (.slice pK2 nK2 cK2) d2 v2 (.slice pC2 nC2 cC2))) (by simp))) ?_
          refine hK.out _ _ ?_ (fun hHeld => ?_)
          · exact HS3.out _ s13r18t.below
          clear hK K
          try simp only [Act.put, List.setIfInBounds_toArray, List.set_cons_zero, List.set_cons_succ]
          refine wpAnyH_done (by kernel_rfl) ?_ _
          have HT8 := Lib.hid s13r18t
          have HO8 := Lib.hid (And.intro (HK6.out _ s13r18t.below) ((own_low (j := 5) (x := .slice pv7 (cs2.length + 1) cv7) ho7 (Nat.lt_succ_self hh)).cm))
          go_wp2_with fail
          go_meet
          exact ⟨k2, r2, d2, v2, _, _, _, _, _, _, ks2, cs2 ++ [y], HT8, HO8, by have := HLen.out; unfold Hid; simp only [List.length_append, List.length_singleton]; omega⟩
      · refine wp_load_of 23 (.tmp 75) _ rfl rfl (ld_fqC (s0t.row (b := hh) (o := (fq k2 r2 (.slice pK2 nK2 cK2) d2 v2 (.slice pC2 nC2 cC2))) (by simp))) ?_
        refine hK.out _ _ ?_ (fun hHeld => ?_)
        · exact HS3.out _ s0t.below
        clear hK K
        try simp only [Act.put, List.setIfInBounds_toArray, List.set_cons_zero, List.set_cons_succ]
        refine wpAnyH_ready (rs := [0, 6]) (by kernel_rfl) (by simp) (AllReadyH.cons (o := { dst := some 74, op := Op.buildSlice 23 0 #[], type := 23, pos := "law.go:57", after := #[], guard := none }) rfl (fun K hK => ?_) (AllReadyH.cons (o := { dst := some 80, op := Op.buildSlice 23 1 #[(0, Operand.tmp 79)], type := 23, pos := "law.go:57", after := #[{ on := 5, ground := Ground.data }], guard := none }) rfl (fun K hK => ?_) AllReadyH.nil))
        · have s14r18t := s0t.later (below1 (o := (.cells #[] 3)))
          have s14r18o := ownsI_lit u0 (hh + 1) (Nat.succ_le_of_lt (s0t.lt (b := hh) (o := (fq k2 r2 (.slice pK2 nK2 cK2) d2 v2 (.slice pC2 nC2 cC2))) (by simp))) [] 0 rfl (by decide) #[] rfl
          have s14r18z : u0.heap.size < (u0.alloc (.cells #[] 3)).heap.size := by rw [World.size_alloc]; exact Nat.lt_succ_self _
          refine wp_int0 23 Tryz.underlying23 rfl ?_
          generalize u0.alloc (.cells #[] 3) = U14r18 at s14r18t s14r18o s14r18z ⊢
          generalize u0.heap.size = g0 at s14r18o s14r18z ⊢
          refine hK.out _ _ ?_ (fun hHeld => ?_)
          · exact HS3.out _ s14r18t.below
          clear hK K
          try simp only [Act.put, List.setIfInBounds_toArray, List.set_cons_zero, List.set_cons_succ]
          refine wpAnyH_ready (rs := [3, 6]) (by kernel_rfl) (by simp) (AllReadyH.cons (o := { dst := some 77, op := Op.call { callee := Callee.builtin Builtin.append, args := #[Operand.tmp 74, Operand.tmp 76], argTypes := #[23, 23] }, type := 23, pos := "law.go:57", after := #[{ on := 0, ground := Ground.data }, { on := 2, ground := Ground.data }], guard := none }) rfl (fun K hK => ?_) (AllReadyH.cons (o := { dst := some 80, op := Op.buildSlice 23 1 #[(0, Operand.tmp 79)], type := 23, pos := "law.go:57", after := #[{ on := 5, ground := Ground.data }], guard := none }) rfl (fun K hK => ?_) AllReadyH.nil))
          · refine wp_appL 23 Tryz.underlying23 (.tmp 74) (.tmp 76) rfl (hh + 1) g0 (.slice pC2 nC2 cC2) cs2 rfl s14r18o rfl (HC6.out _ s14r18t.below) HHC.out (Nat.lt_of_le_of_lt HLC.out (by decide)) (Nat.succ_le_of_lt (s14r18t.lt (b := hh) (o := (fq k2 r2 (.slice pK2 nK2 cK2) d2 v2 (.slice pC2 nC2 cC2))) (by simp))) ?_
            intro v3 w3 ho3 hb3 hk3
            have s15r18t := St_past s14r18t hb3 HHH.out.1 HHH.out.2.1
            have s15r18o := ho3
            refine hK.out _ _ ?_ (fun hHeld => ?_)
            · exact HS3.out _ s15r18t.below
            clear hK K
            try simp only [Act.put, List.setIfInBounds_toArray, List.set_cons_zero, List.set_cons_succ]
            refine wpAnyH_ready (rs := [6]) (by kernel_rfl) (by simp) (AllReadyH.cons (o := { dst := some 80, op := Op.buildSlice 23 1 #[(0, Operand.tmp 79)], type := 23, pos := "law.go:57", after := #[{ on := 5, ground := Ground.data }], guard := none }) rfl (fun K hK => ?_) AllReadyH.nil)
            have s16r18t := s15r18t.later (below1 (o := (.cells #[.int .i64 y] 3)))
            have s16r18o := s15r18o.later (below1 (o := (.cells #[.int .i64 y] 3)))
            have s16r18n := cell_alloc w3 (.int .i64 y) 3
            have s16r18m : w3.heap.size < (w3.alloc (.cells #[.int .i64 y] 3)).heap.size := by rw [World.size_alloc]; exact Nat.lt_succ_self _
            refine wp_intT 23 Tryz.underlying23 (.tmp 79) rfl rfl ?_
            generalize w3.alloc (.cells #[.int .i64 y] 3) = U16r18 at s16r18t s16r18o s16r18n s16r18m ⊢
            generalize w3.heap.size = g1 at s16r18n s16r18m ⊢
            refine hK.out _ _ ?_ (fun hHeld => ?_)
            · exact HS3.out _ s16r18t.below
            clear hK K
            try simp only [Act.put, List.setIfInBounds_toArray, List.set_cons_zero, List.set_cons_succ]
            refine wpAnyH_ready (rs := [7]) (by kernel_rfl) (by simp) (AllReadyH.cons (o := { dst := some 81, op := Op.call { callee := Callee.builtin Builtin.append, args := #[Operand.tmp 77, Operand.tmp 80], argTypes := #[23, 23] }, type := 23, pos := "law.go:57", after := #[{ on := 3, ground := Ground.data }, { on := 6, ground := Ground.data }, { on := 3, ground := Ground.chain }], guard := none }) rfl (fun K hK => ?_) AllReadyH.nil)
            refine wp_appT 23 Tryz.underlying23 (.tmp 77) (.tmp 80) rfl (hh + 1) g1 v3 cs2 y rfl s16r18o rfl s16r18n (Nat.lt_of_le_of_lt HLC.out (by decide)) (Nat.succ_le_of_lt (s16r18t.lt (b := hh) (o := (fq k2 r2 (.slice pK2 nK2 cK2) d2 v2 (.slice pC2 nC2 cC2))) (by simp))) ?_
            intro v7 w7 ho7 hb7
            obtain ⟨pv7, cv7, rfl⟩ := ho7.slice (n := cs2.length + 1) (by rw [List.length_append]; rfl)
            have s17r18t := St_past s16r18t hb7 HHH.out.1 HHH.out.2.1
            refine hK.out _ _ ?_ (fun hHeld => ?_)
            · exact HS3.out _ s17r18t.below
            clear hK K
            try simp only [Act.put, List.setIfInBounds_toArray, List.set_cons_zero, List.set_cons_succ]
            refine wpAnyH_take (i := 8) (oi := { dst := some 82, op := Op.fieldAddr 25 (Operand.tmp 9) 5, type := 0, pos := "law.go:57", after := #[{ on := 0, ground := Ground.phase }, { on := 1, ground := Ground.phase }, { on := 2, ground := Ground.phase }, { on := 3, ground := Ground.phase }, { on := 4, ground := Ground.phase }, { on := 5, ground := Ground.phase }, { on := 6, ground := Ground.phase }, { on := 7, ground := Ground.phase }], guard := none }) (v := ?_) rfl (by kernel_rfl) (by kernel_rfl) (by kernel_rfl) (fun _ _ _ h => h) (Or.inl ⟨by kernel_rfl, ?_⟩) (by assumption) ?_
            rotate_left 1
            focus (intro w hSw; (try dsimp only at hSw); go_simp; (try with_reducible rfl))
            try simp only [Act.put, List.setIfInBounds_toArray, List.set_cons_zero, List.set_cons_succ]
            refine wpAnyH_ready (rs := [9]) (by kernel_rfl) (by simp) (AllReadyH.cons (o := { dst := none, op := Op.store 23 (Operand.tmp 82) (Operand.tmp 81), type := 0, pos := "law.go:57", after := #[{ on := 8, ground := Ground.data }, { on := 7, ground := Ground.data }, { on := 7, ground := Ground.chain }, { on := 0, ground := Ground.phase }, { on := 1, ground := Ground.phase }, { on := 2, ground := Ground.phase }, { on := 3, ground := Ground.phase }, { on := 4, ground := Ground.phase }, { on := 5, ground := Ground.phase }, { on := 6, ground := Ground.phase }, { on := 7, ground := Ground.phase }], guard := none }) rfl (fun K hK => ?_) AllReadyH.nil)
            have s18r18t := put5 s17r18t HHH.out.2.2 (by simp) (.slice pv7 (cs2.length + 1) cv7)
            refine wp_store_of 23 (.tmp 82) (.tmp 81) rfl rfl rfl (st_fqC (s17r18t.row (b := hh) (o := (fq k2 r2 (.slice pK2 nK2 cK2) d2 v2 (.slice pC2 nC2 cC2))) (by simp))) ?_
            refine hK.out _ _ ?_ (fun hHeld => ?_)
            · exact HS3.out _ s18r18t.below
            clear hK K
            try simp only [Act.put, List.setIfInBounds_toArray, List.set_cons_zero, List.set_cons_succ]
            refine wpAnyH_done (by kernel_rfl) ?_ _
            have HT8 := Lib.hid s18r18t
            have HO8 := Lib.hid (And.intro (HK6.out _ s18r18t.below) ((own_low (j := 5) (x := .slice pv7 (cs2.length + 1) cv7) ho7 (Nat.lt_succ_self hh)).cm))
            go_wp2_with fail
            go_meet
            exact ⟨k2, r2, d2, v2, _, _, _, _, _, _, ks2, cs2 ++ [y], HT8, HO8, by have := HLen.out; unfold Hid; simp only [List.length_append, List.length_singleton]; omega⟩
          · have s19r18t := s14r18t.later (below1 (o := (.cells #[.int .i64 y] 3)))
            have s19r18o := s14r18o.later (below1 (o := (.cells #[.int .i64 y] 3)))
            have s19r18n := cell_alloc U14r18 (.int .i64 y) 3
            have s19r18m : U14r18.heap.size < (U14r18.alloc (.cells #[.int .i64 y] 3)).heap.size := by rw [World.size_alloc]; exact Nat.lt_succ_self _
            have s19r18z := Nat.lt_of_lt_of_le s14r18z (below1 (w := U14r18) (o := (.cells #[.int .i64 y] 3))).size
            have hne : U14r18.heap.size ≠ g0 := Nat.ne_of_gt s14r18z
            refine wp_intT 23 Tryz.underlying23 (.tmp 79) rfl rfl ?_
            generalize U14r18.alloc (.cells #[.int .i64 y] 3) = U19r18 at s19r18t s19r18o s19r18n s19r18m s19r18z ⊢
            generalize U14r18.heap.size = g1 at s19r18n s19r18m hne ⊢
            refine hK.out _ _ ?_ (fun hHeld => ?_)
            · exact HS3.out _ s19r18t.below
            clear hK K
            try simp only [Act.put, List.setIfInBounds_toArray, List.set_cons_zero, List.set_cons_succ]
            refine wpAnyH_ready (rs := [3]) (by kernel_rfl) (by simp) (AllReadyH.cons (o := { dst := some 77, op := Op.call { callee := Callee.builtin Builtin.append, args := #[Operand.tmp 74, Operand.tmp 76], argTypes := #[23, 23] }, type := 23, pos := "law.go:57", after := #[{ on := 0, ground := Ground.data }, { on := 2, ground := Ground.data }], guard := none }) rfl (fun K hK => ?_) AllReadyH.nil)
            refine wp_appL 23 Tryz.underlying23 (.tmp 74) (.tmp 76) rfl (hh + 1) g0 (.slice pC2 nC2 cC2) cs2 rfl s19r18o rfl (HC6.out _ s19r18t.below) HHC.out (Nat.lt_of_le_of_lt HLC.out (by decide)) (Nat.succ_le_of_lt (s19r18t.lt (b := hh) (o := (fq k2 r2 (.slice pK2 nK2 cK2) d2 v2 (.slice pC2 nC2 cC2))) (by simp))) ?_
            intro v3 w3 ho3 hb3 hk3
            have s20r18t := St_past s19r18t hb3 HHH.out.1 HHH.out.2.1
            have s20r18n := (cell_heap (hk3 _ s19r18m hne)).trans s19r18n
            have s20r18m := Nat.lt_of_lt_of_le s19r18m hb3.size
            have s20r18o := ho3
            refine hK.out _ _ ?_ (fun hHeld => ?_)
            · exact HS3.out _ s20r18t.below
            clear hK K
            try simp only [Act.put, List.setIfInBounds_toArray, List.set_cons_zero, List.set_cons_succ]
            refine wpAnyH_ready (rs := [7]) (by kernel_rfl) (by simp) (AllReadyH.cons (o := { dst := some 81, op := Op.call { callee := Callee.builtin Builtin.append, args := #[Operand.tmp 77, Operand.tmp 80], argTypes := #[23, 23] }, type := 23, pos := "law.go:57", after := #[{ on := 3, ground := Ground.data }, { on := 6, ground := Ground.data }, { on := 3, ground := Ground.chain }], guard := none }) rfl (fun K hK => ?_) AllReadyH.nil)
            refine wp_appT 23 Tryz.underlying23 (.tmp 77) (.tmp 80) rfl (hh + 1) g1 v3 cs2 y rfl s20r18o rfl s20r18n (Nat.lt_of_le_of_lt HLC.out (by decide)) (Nat.succ_le_of_lt (s20r18t.lt (b := hh) (o := (fq k2 r2 (.slice pK2 nK2 cK2) d2 v2 (.slice pC2 nC2 cC2))) (by simp))) ?_
            intro v7 w7 ho7 hb7
            obtain ⟨pv7, cv7, rfl⟩ := ho7.slice (n := cs2.length + 1) (by rw [List.length_append]; rfl)
            have s21r18t := St_past s20r18t hb7 HHH.out.1 HHH.out.2.1
            refine hK.out _ _ ?_ (fun hHeld => ?_)
            · exact HS3.out _ s21r18t.below
            clear hK K
            try simp only [Act.put, List.setIfInBounds_toArray, List.set_cons_zero, List.set_cons_succ]
            refine wpAnyH_take (i := 8) (oi := { dst := some 82, op := Op.fieldAddr 25 (Operand.tmp 9) 5, type := 0, pos := "law.go:57", after := #[{ on := 0, ground := Ground.phase }, { on := 1, ground := Ground.phase }, { on := 2, ground := Ground.phase }, { on := 3, ground := Ground.phase }, { on := 4, ground := Ground.phase }, { on := 5, ground := Ground.phase }, { on := 6, ground := Ground.phase }, { on := 7, ground := Ground.phase }], guard := none }) (v := ?_) rfl (by kernel_rfl) (by kernel_rfl) (by kernel_rfl) (fun _ _ _ h => h) (Or.inl ⟨by kernel_rfl, ?_⟩) (by assumption) ?_
            rotate_left 1
            focus (intro w hSw; (try dsimp only at hSw); go_simp; (try with_reducible rfl))
            try simp only [Act.put, List.setIfInBounds_toArray, List.set_cons_zero, List.set_cons_succ]
            refine wpAnyH_ready (rs := [9]) (by kernel_rfl) (by simp) (AllReadyH.cons (o := { dst := none, op := Op.store 23 (Operand.tmp 82) (Operand.tmp 81), type := 0, pos := "law.go:57", after := #[{ on := 8, ground := Ground.data }, { on := 7, ground := Ground.data }, { on := 7, ground := Ground.chain }, { on := 0, ground := Ground.phase }, { on := 1, ground := Ground.phase }, { on := 2, ground := Ground.phase }, { on := 3, ground := Ground.phase }, { on := 4, ground := Ground.phase }, { on := 5, ground := Ground.phase }, { on := 6, ground := Ground.phase }, { on := 7, ground := Ground.phase }], guard := none }) rfl (fun K hK => ?_) AllReadyH.nil)
            have s22r18t := put5 s21r18t HHH.out.2.2 (by simp) (.slice pv7 (cs2.length + 1) cv7)
            refine wp_store_of 23 (.tmp 82) (.tmp 81) rfl rfl rfl (st_fqC (s21r18t.row (b := hh) (o := (fq k2 r2 (.slice pK2 nK2 cK2) d2 v2 (.slice pC2 nC2 cC2))) (by simp))) ?_
            refine hK.out _ _ ?_ (fun hHeld => ?_)
            · exact HS3.out _ s22r18t.below
            clear hK K
            try simp only [Act.put, List.setIfInBounds_toArray, List.set_cons_zero, List.set_cons_succ]
            refine wpAnyH_done (by kernel_rfl) ?_ _
            have HT8 := Lib.hid s22r18t
            have HO8 := Lib.hid (And.intro (HK6.out _ s22r18t.below) ((own_low (j := 5) (x := .slice pv7 (cs2.length + 1) cv7) ho7 (Nat.lt_succ_self hh)).cm))
            go_wp2_with fail
            go_meet
            exact ⟨k2, r2, d2, v2, _, _, _, _, _, _, ks2, cs2 ++ [y], HT8, HO8, by have := HLen.out; unfold Hid; simp only [List.length_append, List.length_singleton]; omega⟩
        · have s23r18t := s0t.later (below1 (o := (.cells #[.int .i64 y] 3)))
          have s23r18n := cell_alloc u0 (.int .i64 y) 3
          have s23r18m : u0.heap.size < (u0.alloc (.cells #[.int .i64 y] 3)).heap.size := by rw [World.size_alloc]; exact Nat.lt_succ_self _
          refine wp_intT 23 Tryz.underlying23 (.tmp 79) rfl rfl ?_
          generalize u0.alloc (.cells #[.int .i64 y] 3) = U23r18 at s23r18t s23r18n s23r18m ⊢
          generalize u0.heap.size = g1 at s23r18n s23r18m ⊢
          refine hK.out _ _ ?_ (fun hHeld => ?_)
          · exact HS3.out _ s23r18t.below
          clear hK K
          try simp only [Act.put, List.setIfInBounds_toArray, List.set_cons_zero, List.set_cons_succ]
          refine wpAnyH_ready (rs := [0]) (by kernel_rfl) (by simp) (AllReadyH.cons (o := { dst := some 74, op := Op.buildSlice 23 0 #[], type := 23, pos := "law.go:57", after := #[], guard := none }) rfl (fun K hK => ?_) AllReadyH.nil)
          have s24r18t := s23r18t.later (below1 (o := (.cells #[] 3)))
          have s24r18n := ((below1 (w := U23r18) (o := (.cells #[] 3))).cell (p := ⟨g1, 0, none⟩) s23r18m).trans s23r18n
          have s24r18m := Nat.lt_of_lt_of_le s23r18m (below1 (w := U23r18) (o := (.cells #[] 3))).size
          have s24r18o := ownsI_lit U23r18 (hh + 1) (Nat.succ_le_of_lt (s23r18t.lt (b := hh) (o := (fq k2 r2 (.slice pK2 nK2 cK2) d2 v2 (.slice pC2 nC2 cC2))) (by simp))) [] 0 rfl (by decide) #[] rfl
          have s24r18z : U23r18.heap.size < (U23r18.alloc (.cells #[] 3)).heap.size := by rw [World.size_alloc]; exact Nat.lt_succ_self _
          have hne : g1 ≠ U23r18.heap.size := Nat.ne_of_lt s23r18m
          refine wp_int0 23 Tryz.underlying23 rfl ?_
          generalize U23r18.alloc (.cells #[] 3) = U24r18 at s24r18t s24r18o s24r18n s24r18m s24r18z ⊢
          generalize U23r18.heap.size = g0 at s24r18o s24r18z hne ⊢
          refine hK.out _ _ ?_ (fun hHeld => ?_)
          · exact HS3.out _ s24r18t.below
          clear hK K
          try simp only [Act.put, List.setIfInBounds_toArray, List.set_cons_zero, List.set_cons_succ]
          refine wpAnyH_ready (rs := [3]) (by kernel_rfl) (by simp) (AllReadyH.cons (o := { dst := some 77, op := Op.call { callee := Callee.builtin Builtin.append, args := #[Operand.tmp 74, Operand.tmp 76], argTypes := #[23, 23] }, type := 23, pos := "law.go:57", after := #[{ on := 0, ground := Ground.data }, { on := 2, ground := Ground.data }], guard := none }) rfl (fun K hK => ?_) AllReadyH.nil)
          refine wp_appL 23 Tryz.underlying23 (.tmp 74) (.tmp 76) rfl (hh + 1) g0 (.slice pC2 nC2 cC2) cs2 rfl s24r18o rfl (HC6.out _ s24r18t.below) HHC.out (Nat.lt_of_le_of_lt HLC.out (by decide)) (Nat.succ_le_of_lt (s24r18t.lt (b := hh) (o := (fq k2 r2 (.slice pK2 nK2 cK2) d2 v2 (.slice pC2 nC2 cC2))) (by simp))) ?_
          intro v3 w3 ho3 hb3 hk3
          have s25r18t := St_past s24r18t hb3 HHH.out.1 HHH.out.2.1
          have s25r18n := (cell_heap (hk3 _ s24r18m hne)).trans s24r18n
          have s25r18m := Nat.lt_of_lt_of_le s24r18m hb3.size
          have s25r18o := ho3
          refine hK.out _ _ ?_ (fun hHeld => ?_)
          · exact HS3.out _ s25r18t.below
          clear hK K
          try simp only [Act.put, List.setIfInBounds_toArray, List.set_cons_zero, List.set_cons_succ]
          refine wpAnyH_ready (rs := [7]) (by kernel_rfl) (by simp) (AllReadyH.cons (o := { dst := some 81, op := Op.call { callee := Callee.builtin Builtin.append, args := #[Operand.tmp 77, Operand.tmp 80], argTypes := #[23, 23] }, type := 23, pos := "law.go:57", after := #[{ on := 3, ground := Ground.data }, { on := 6, ground := Ground.data }, { on := 3, ground := Ground.chain }], guard := none }) rfl (fun K hK => ?_) AllReadyH.nil)
          refine wp_appT 23 Tryz.underlying23 (.tmp 77) (.tmp 80) rfl (hh + 1) g1 v3 cs2 y rfl s25r18o rfl s25r18n (Nat.lt_of_le_of_lt HLC.out (by decide)) (Nat.succ_le_of_lt (s25r18t.lt (b := hh) (o := (fq k2 r2 (.slice pK2 nK2 cK2) d2 v2 (.slice pC2 nC2 cC2))) (by simp))) ?_
          intro v7 w7 ho7 hb7
          obtain ⟨pv7, cv7, rfl⟩ := ho7.slice (n := cs2.length + 1) (by rw [List.length_append]; rfl)
          have s26r18t := St_past s25r18t hb7 HHH.out.1 HHH.out.2.1
          refine hK.out _ _ ?_ (fun hHeld => ?_)
          · exact HS3.out _ s26r18t.below
          clear hK K
          try simp only [Act.put, List.setIfInBounds_toArray, List.set_cons_zero, List.set_cons_succ]
          refine wpAnyH_take (i := 8) (oi := { dst := some 82, op := Op.fieldAddr 25 (Operand.tmp 9) 5, type := 0, pos := "law.go:57", after := #[{ on := 0, ground := Ground.phase }, { on := 1, ground := Ground.phase }, { on := 2, ground := Ground.phase }, { on := 3, ground := Ground.phase }, { on := 4, ground := Ground.phase }, { on := 5, ground := Ground.phase }, { on := 6, ground := Ground.phase }, { on := 7, ground := Ground.phase }], guard := none }) (v := ?_) rfl (by kernel_rfl) (by kernel_rfl) (by kernel_rfl) (fun _ _ _ h => h) (Or.inl ⟨by kernel_rfl, ?_⟩) (by assumption) ?_
          rotate_left 1
          focus (intro w hSw; (try dsimp only at hSw); go_simp; (try with_reducible rfl))
          try simp only [Act.put, List.setIfInBounds_toArray, List.set_cons_zero, List.set_cons_succ]
          refine wpAnyH_ready (rs := [9]) (by kernel_rfl) (by simp) (AllReadyH.cons (o := { dst := none, op := Op.store 23 (Operand.tmp 82) (Operand.tmp 81), type := 0, pos := "law.go:57", after := #[{ on := 8, ground := Ground.data }, { on := 7, ground := Ground.data }, { on := 7, ground := Ground.chain }, { on := 0, ground := Ground.phase }, { on := 1, ground := Ground.phase }, { on := 2, ground := Ground.phase }, { on := 3, ground := Ground.phase }, { on := 4, ground := Ground.phase }, { on := 5, ground := Ground.phase }, { on := 6, ground := Ground.phase }, { on := 7, ground := Ground.phase }], guard := none }) rfl (fun K hK => ?_) AllReadyH.nil)
          have s27r18t := put5 s26r18t HHH.out.2.2 (by simp) (.slice pv7 (cs2.length + 1) cv7)
          refine wp_store_of 23 (.tmp 82) (.tmp 81) rfl rfl rfl (st_fqC (s26r18t.row (b := hh) (o := (fq k2 r2 (.slice pK2 nK2 cK2) d2 v2 (.slice pC2 nC2 cC2))) (by simp))) ?_
          refine hK.out _ _ ?_ (fun hHeld => ?_)
          · exact HS3.out _ s27r18t.below
          clear hK K
          try simp only [Act.put, List.setIfInBounds_toArray, List.set_cons_zero, List.set_cons_succ]
          refine wpAnyH_done (by kernel_rfl) ?_ _
          have HT8 := Lib.hid s27r18t
          have HO8 := Lib.hid (And.intro (HK6.out _ s27r18t.below) ((own_low (j := 5) (x := .slice pv7 (cs2.length + 1) cv7) ho7 (Nat.lt_succ_self hh)).cm))
          go_wp2_with fail
          go_meet
          exact ⟨k2, r2, d2, v2, _, _, _, _, _, _, ks2, cs2 ++ [y], HT8, HO8, by have := HLen.out; unfold Hid; simp only [List.length_append, List.length_singleton]; omega⟩
      · have s28r18t := s0t.later (below1 (o := (.cells #[.int .i64 y] 3)))
        have s28r18n := cell_alloc u0 (.int .i64 y) 3
        have s28r18m : u0.heap.size < (u0.alloc (.cells #[.int .i64 y] 3)).heap.size := by rw [World.size_alloc]; exact Nat.lt_succ_self _
        refine wp_intT 23 Tryz.underlying23 (.tmp 79) rfl rfl ?_
        generalize u0.alloc (.cells #[.int .i64 y] 3) = U28r18 at s28r18t s28r18n s28r18m ⊢
        generalize u0.heap.size = g1 at s28r18n s28r18m ⊢
        refine hK.out _ _ ?_ (fun hHeld => ?_)
        · exact HS3.out _ s28r18t.below
        clear hK K
        try simp only [Act.put, List.setIfInBounds_toArray, List.set_cons_zero, List.set_cons_succ]
        refine wpAnyH_ready (rs := [0, 2]) (by kernel_rfl) (by simp) (AllReadyH.cons (o := { dst := some 74, op := Op.buildSlice 23 0 #[], type := 23, pos := "law.go:57", after := #[], guard := none }) rfl (fun K hK => ?_) (AllReadyH.cons (o := { dst := some 76, op := Op.load 23 (Operand.tmp 75), type := 23, pos := "law.go:57", after := #[{ on := 1, ground := Ground.data }], guard := none }) rfl (fun K hK => ?_) AllReadyH.nil))
        · have s29r18t := s28r18t.later (below1 (o := (.cells #[] 3)))
          have s29r18n := ((below1 (w := U28r18) (o := (.cells #[] 3))).cell (p := ⟨g1, 0, none⟩) s28r18m).trans s28r18n
          have s29r18m := Nat.lt_of_lt_of_le s28r18m (below1 (w := U28r18) (o := (.cells #[] 3))).size
          have s29r18o := ownsI_lit U28r18 (hh + 1) (Nat.succ_le_of_lt (s28r18t.lt (b := hh) (o := (fq k2 r2 (.slice pK2 nK2 cK2) d2 v2 (.slice pC2 nC2 cC2))) (by simp))) [] 0 rfl (by decide) #[] rfl
          have s29r18z : U28r18.heap.size < (U28r18.alloc (.cells #[] 3)).heap.size := by rw [World.size_alloc]; exact Nat.lt_succ_self _
          have hne : g1 ≠ U28r18.heap.size := Nat.ne_of_lt s28r18m
          refine wp_int0 23 Tryz.underlying23 rfl ?_
          generalize U28r18.alloc (.cells #[] 3) = U29r18 at s29r18t s29r18o s29r18n s29r18m s29r18z ⊢
          generalize U28r18.heap.size = g0 at s29r18o s29r18z hne ⊢
          refine hK.out _ _ ?_ (fun hHeld => ?_)
          · exact HS3.out _ s29r18t.below
          clear hK K
          try simp only [Act.put, List.setIfInBounds_toArray, List.set_cons_zero, List.set_cons_succ]
          refine wpAnyH_ready (rs := [2]) (by kernel_rfl) (by simp) (AllReadyH.cons (o := { dst := some 76, op := Op.load 23 (Operand.tmp 75), type := 23, pos := "law.go:57", after := #[{ on := 1, ground := Ground.data }], guard := none }) rfl (fun K hK => ?_) AllReadyH.nil)
          refine wp_load_of 23 (.tmp 75) _ rfl rfl (ld_fqC (s29r18t.row (b := hh) (o := (fq k2 r2 (.slice pK2 nK2 cK2) d2 v2 (.slice pC2 nC2 cC2))) (by simp))) ?_
          refine hK.out _ _ ?_ (fun hHeld => ?_)
          · exact HS3.out _ s29r18t.below
          clear hK K
          try simp only [Act.put, List.setIfInBounds_toArray, List.set_cons_zero, List.set_cons_succ]
          refine wpAnyH_ready (rs := [3]) (by kernel_rfl) (by simp) (AllReadyH.cons (o := { dst := some 77, op := Op.call { callee := Callee.builtin Builtin.append, args := #[Operand.tmp 74, Operand.tmp 76], argTypes := #[23, 23] }, type := 23, pos := "law.go:57", after := #[{ on := 0, ground := Ground.data }, { on := 2, ground := Ground.data }], guard := none }) rfl (fun K hK => ?_) AllReadyH.nil)
          refine wp_appL 23 Tryz.underlying23 (.tmp 74) (.tmp 76) rfl (hh + 1) g0 (.slice pC2 nC2 cC2) cs2 rfl s29r18o rfl (HC6.out _ s29r18t.below) HHC.out (Nat.lt_of_le_of_lt HLC.out (by decide)) (Nat.succ_le_of_lt (s29r18t.lt (b := hh) (o := (fq k2 r2 (.slice pK2 nK2 cK2) d2 v2 (.slice pC2 nC2 cC2))) (by simp))) ?_
          intro v3 w3 ho3 hb3 hk3
          have s30r18t := St_past s29r18t hb3 HHH.out.1 HHH.out.2.1
          have s30r18n := (cell_heap (hk3 _ s29r18m hne)).trans s29r18n
          have s30r18m := Nat.lt_of_lt_of_le s29r18m hb3.size
          have s30r18o := ho3
          refine hK.out _ _ ?_ (fun hHeld => ?_)
          · exact HS3.out _ s30r18t.below
          clear hK K
          try simp only [Act.put, List.setIfInBounds_toArray, List.set_cons_zero, List.set_cons_succ]
          refine wpAnyH_ready (rs := [7]) (by kernel_rfl) (by simp) (AllReadyH.cons (o := { dst := some 81, op := Op.call { callee := Callee.builtin Builtin.append, args := #[Operand.tmp 77, Operand.tmp 80], argTypes := #[23, 23] }, type := 23, pos := "law.go:57", after := #[{ on := 3, ground := Ground.data }, { on := 6, ground := Ground.data }, { on := 3, ground := Ground.chain }], guard := none }) rfl (fun K hK => ?_) AllReadyH.nil)
          refine wp_appT 23 Tryz.underlying23 (.tmp 77) (.tmp 80) rfl (hh + 1) g1 v3 cs2 y rfl s30r18o rfl s30r18n (Nat.lt_of_le_of_lt HLC.out (by decide)) (Nat.succ_le_of_lt (s30r18t.lt (b := hh) (o := (fq k2 r2 (.slice pK2 nK2 cK2) d2 v2 (.slice pC2 nC2 cC2))) (by simp))) ?_
          intro v7 w7 ho7 hb7
          obtain ⟨pv7, cv7, rfl⟩ := ho7.slice (n := cs2.length + 1) (by rw [List.length_append]; rfl)
          have s31r18t := St_past s30r18t hb7 HHH.out.1 HHH.out.2.1
          refine hK.out _ _ ?_ (fun hHeld => ?_)
          · exact HS3.out _ s31r18t.below
          clear hK K
          try simp only [Act.put, List.setIfInBounds_toArray, List.set_cons_zero, List.set_cons_succ]
          refine wpAnyH_take (i := 8) (oi := { dst := some 82, op := Op.fieldAddr 25 (Operand.tmp 9) 5, type := 0, pos := "law.go:57", after := #[{ on := 0, ground := Ground.phase }, { on := 1, ground := Ground.phase }, { on := 2, ground := Ground.phase }, { on := 3, ground := Ground.phase }, { on := 4, ground := Ground.phase }, { on := 5, ground := Ground.phase }, { on := 6, ground := Ground.phase }, { on := 7, ground := Ground.phase }], guard := none }) (v := ?_) rfl (by kernel_rfl) (by kernel_rfl) (by kernel_rfl) (fun _ _ _ h => h) (Or.inl ⟨by kernel_rfl, ?_⟩) (by assumption) ?_
          rotate_left 1
          focus (intro w hSw; (try dsimp only at hSw); go_simp; (try with_reducible rfl))
          try simp only [Act.put, List.setIfInBounds_toArray, List.set_cons_zero, List.set_cons_succ]
          refine wpAnyH_ready (rs := [9]) (by kernel_rfl) (by simp) (AllReadyH.cons (o := { dst := none, op := Op.store 23 (Operand.tmp 82) (Operand.tmp 81), type := 0, pos := "law.go:57", after := #[{ on := 8, ground := Ground.data }, { on := 7, ground := Ground.data }, { on := 7, ground := Ground.chain }, { on := 0, ground := Ground.phase }, { on := 1, ground := Ground.phase }, { on := 2, ground := Ground.phase }, { on := 3, ground := Ground.phase }, { on := 4, ground := Ground.phase }, { on := 5, ground := Ground.phase }, { on := 6, ground := Ground.phase }, { on := 7, ground := Ground.phase }], guard := none }) rfl (fun K hK => ?_) AllReadyH.nil)
          have s32r18t := put5 s31r18t HHH.out.2.2 (by simp) (.slice pv7 (cs2.length + 1) cv7)
          refine wp_store_of 23 (.tmp 82) (.tmp 81) rfl rfl rfl (st_fqC (s31r18t.row (b := hh) (o := (fq k2 r2 (.slice pK2 nK2 cK2) d2 v2 (.slice pC2 nC2 cC2))) (by simp))) ?_
          refine hK.out _ _ ?_ (fun hHeld => ?_)
          · exact HS3.out _ s32r18t.below
          clear hK K
          try simp only [Act.put, List.setIfInBounds_toArray, List.set_cons_zero, List.set_cons_succ]
          refine wpAnyH_done (by kernel_rfl) ?_ _
          have HT8 := Lib.hid s32r18t
          have HO8 := Lib.hid (And.intro (HK6.out _ s32r18t.below) ((own_low (j := 5) (x := .slice pv7 (cs2.length + 1) cv7) ho7 (Nat.lt_succ_self hh)).cm))
          go_wp2_with fail
          go_meet
          exact ⟨k2, r2, d2, v2, _, _, _, _, _, _, ks2, cs2 ++ [y], HT8, HO8, by have := HLen.out; unfold Hid; simp only [List.length_append, List.length_singleton]; omega⟩
        · refine wp_load_of 23 (.tmp 75) _ rfl rfl (ld_fqC (s28r18t.row (b := hh) (o := (fq k2 r2 (.slice pK2 nK2 cK2) d2 v2 (.slice pC2 nC2 cC2))) (by simp))) ?_
          refine hK.out _ _ ?_ (fun hHeld => ?_)
          · exact HS3.out _ s28r18t.below
          clear hK K
          try simp only [Act.put, List.setIfInBounds_toArray, List.set_cons_zero, List.set_cons_succ]
          refine wpAnyH_ready (rs := [0]) (by kernel_rfl) (by simp) (AllReadyH.cons (o := { dst := some 74, op := Op.buildSlice 23 0 #[], type := 23, pos := "law.go:57", after := #[], guard := none }) rfl (fun K hK => ?_) AllReadyH.nil)
          have s33r18t := s28r18t.later (below1 (o := (.cells #[] 3)))
          have s33r18n := ((below1 (w := U28r18) (o := (.cells #[] 3))).cell (p := ⟨g1, 0, none⟩) s28r18m).trans s28r18n
          have s33r18m := Nat.lt_of_lt_of_le s28r18m (below1 (w := U28r18) (o := (.cells #[] 3))).size
          have s33r18o := ownsI_lit U28r18 (hh + 1) (Nat.succ_le_of_lt (s28r18t.lt (b := hh) (o := (fq k2 r2 (.slice pK2 nK2 cK2) d2 v2 (.slice pC2 nC2 cC2))) (by simp))) [] 0 rfl (by decide) #[] rfl
          have s33r18z : U28r18.heap.size < (U28r18.alloc (.cells #[] 3)).heap.size := by rw [World.size_alloc]; exact Nat.lt_succ_self _
          have hne : g1 ≠ U28r18.heap.size := Nat.ne_of_lt s28r18m
          refine wp_int0 23 Tryz.underlying23 rfl ?_
          generalize U28r18.alloc (.cells #[] 3) = U33r18 at s33r18t s33r18o s33r18n s33r18m s33r18z ⊢
          generalize U28r18.heap.size = g0 at s33r18o s33r18z hne ⊢
          refine hK.out _ _ ?_ (fun hHeld => ?_)
          · exact HS3.out _ s33r18t.below
          clear hK K
          try simp only [Act.put, List.setIfInBounds_toArray, List.set_cons_zero, List.set_cons_succ]
          refine wpAnyH_ready (rs := [3]) (by kernel_rfl) (by simp) (AllReadyH.cons (o := { dst := some 77, op := Op.call { callee := Callee.builtin Builtin.append, args := #[Operand.tmp 74, Operand.tmp 76], argTypes := #[23, 23] }, type := 23, pos := "law.go:57", after := #[{ on := 0, ground := Ground.data }, { on := 2, ground := Ground.data }], guard := none }) rfl (fun K hK => ?_) AllReadyH.nil)
          refine wp_appL 23 Tryz.underlying23 (.tmp 74) (.tmp 76) rfl (hh + 1) g0 (.slice pC2 nC2 cC2) cs2 rfl s33r18o rfl (HC6.out _ s33r18t.below) HHC.out (Nat.lt_of_le_of_lt HLC.out (by decide)) (Nat.succ_le_of_lt (s33r18t.lt (b := hh) (o := (fq k2 r2 (.slice pK2 nK2 cK2) d2 v2 (.slice pC2 nC2 cC2))) (by simp))) ?_
          intro v3 w3 ho3 hb3 hk3
          have s34r18t := St_past s33r18t hb3 HHH.out.1 HHH.out.2.1
          have s34r18n := (cell_heap (hk3 _ s33r18m hne)).trans s33r18n
          have s34r18m := Nat.lt_of_lt_of_le s33r18m hb3.size
          have s34r18o := ho3
          refine hK.out _ _ ?_ (fun hHeld => ?_)
          · exact HS3.out _ s34r18t.below
          clear hK K
          try simp only [Act.put, List.setIfInBounds_toArray, List.set_cons_zero, List.set_cons_succ]
          refine wpAnyH_ready (rs := [7]) (by kernel_rfl) (by simp) (AllReadyH.cons (o := { dst := some 81, op := Op.call { callee := Callee.builtin Builtin.append, args := #[Operand.tmp 77, Operand.tmp 80], argTypes := #[23, 23] }, type := 23, pos := "law.go:57", after := #[{ on := 3, ground := Ground.data }, { on := 6, ground := Ground.data }, { on := 3, ground := Ground.chain }], guard := none }) rfl (fun K hK => ?_) AllReadyH.nil)
          refine wp_appT 23 Tryz.underlying23 (.tmp 77) (.tmp 80) rfl (hh + 1) g1 v3 cs2 y rfl s34r18o rfl s34r18n (Nat.lt_of_le_of_lt HLC.out (by decide)) (Nat.succ_le_of_lt (s34r18t.lt (b := hh) (o := (fq k2 r2 (.slice pK2 nK2 cK2) d2 v2 (.slice pC2 nC2 cC2))) (by simp))) ?_
          intro v7 w7 ho7 hb7
          obtain ⟨pv7, cv7, rfl⟩ := ho7.slice (n := cs2.length + 1) (by rw [List.length_append]; rfl)
          have s35r18t := St_past s34r18t hb7 HHH.out.1 HHH.out.2.1
          refine hK.out _ _ ?_ (fun hHeld => ?_)
          · exact HS3.out _ s35r18t.below
          clear hK K
          try simp only [Act.put, List.setIfInBounds_toArray, List.set_cons_zero, List.set_cons_succ]
          refine wpAnyH_take (i := 8) (oi := { dst := some 82, op := Op.fieldAddr 25 (Operand.tmp 9) 5, type := 0, pos := "law.go:57", after := #[{ on := 0, ground := Ground.phase }, { on := 1, ground := Ground.phase }, { on := 2, ground := Ground.phase }, { on := 3, ground := Ground.phase }, { on := 4, ground := Ground.phase }, { on := 5, ground := Ground.phase }, { on := 6, ground := Ground.phase }, { on := 7, ground := Ground.phase }], guard := none }) (v := ?_) rfl (by kernel_rfl) (by kernel_rfl) (by kernel_rfl) (fun _ _ _ h => h) (Or.inl ⟨by kernel_rfl, ?_⟩) (by assumption) ?_
          rotate_left 1
          focus (intro w hSw; (try dsimp only at hSw); go_simp; (try with_reducible rfl))
          try simp only [Act.put, List.setIfInBounds_toArray, List.set_cons_zero, List.set_cons_succ]
          refine wpAnyH_ready (rs := [9]) (by kernel_rfl) (by simp) (AllReadyH.cons (o := { dst := none, op := Op.store 23 (Operand.tmp 82) (Operand.tmp 81), type := 0, pos := "law.go:57", after := #[{ on := 8, ground := Ground.data }, { on := 7, ground := Ground.data }, { on := 7, ground := Ground.chain }, { on := 0, ground := Ground.phase }, { on := 1, ground := Ground.phase }, { on := 2, ground := Ground.phase }, { on := 3, ground := Ground.phase }, { on := 4, ground := Ground.phase }, { on := 5, ground := Ground.phase }, { on := 6, ground := Ground.phase }, { on := 7, ground := Ground.phase }], guard := none }) rfl (fun K hK => ?_) AllReadyH.nil)
          have s36r18t := put5 s35r18t HHH.out.2.2 (by simp) (.slice pv7 (cs2.length + 1) cv7)
          refine wp_store_of 23 (.tmp 82) (.tmp 81) rfl rfl rfl (st_fqC (s35r18t.row (b := hh) (o := (fq k2 r2 (.slice pK2 nK2 cK2) d2 v2 (.slice pC2 nC2 cC2))) (by simp))) ?_
          refine hK.out _ _ ?_ (fun hHeld => ?_)
          · exact HS3.out _ s36r18t.below
          clear hK K
          try simp only [Act.put, List.setIfInBounds_toArray, List.set_cons_zero, List.set_cons_succ]
          refine wpAnyH_done (by kernel_rfl) ?_ _
          have HT8 := Lib.hid s36r18t
          have HO8 := Lib.hid (And.intro (HK6.out _ s36r18t.below) ((own_low (j := 5) (x := .slice pv7 (cs2.length + 1) cv7) ho7 (Nat.lt_succ_self hh)).cm))
          go_wp2_with fail
          go_meet
          exact ⟨k2, r2, d2, v2, _, _, _, _, _, _, ks2, cs2 ++ [y], HT8, HO8, by have := HLen.out; unfold Hid; simp only [List.length_append, List.length_singleton]; omega⟩
    · as_aux_lemma =>
      have hc := HS2.out.cell (b := hh) (cs := #[.int .i64 k2, .int .i64 r2, .slice pK2 nK2 cK2, .int .i64 d2, .int .i64 v2, .slice pC2 nC2 cC2]) (t := 25) (by simp) 1
      have hf := HS2.out.frozen (b := hh) (cs := #[.int .i64 k2, .int .i64 r2, .slice pK2 nK2 cK2, .int .i64 d2, .int .i64 v2, .slice pC2 nC2 cC2]) (t := 25) (by simp) 1
      have hy := HS3.out _ HS2.out.below
      simp only [List.getElem?_toArray, List.getElem?_cons_succ, List.getElem?_cons_zero] at hc
      go_wp2_with fail
      go_meet
      exact ⟨k2, _, d2, v2, _, _, _, _, _, _, ks2, cs2, Lib.hid (put1 HS2.out HHH.out.2.2 (by simp) _), Lib.hid (And.intro (HK6.out _ (put1 HS2.out HHH.out.2.2 (by simp) _).below) (HC6.out _ (put1 HS2.out HHH.out.2.2 (by simp) _).below)), by have := HLen.out; unfold Hid; omega⟩
    · as_aux_lemma =>
      go_wp2_with fail
      go_meet
      exact ⟨k2, r2, d2, v2, _, _, _, _, _, _, ks2, cs2, HS2, Lib.hid (And.intro (HK6.out _ HS2.out.below) (HC6.out _ HS2.out.below)), by have := HLen.out; unfold Hid; omega⟩
  case rest =>
  as_aux_lemma =>
  obtain ⟨k3, r3, d3, v3, pK3, nK3, cK3, pC3, nC3, cC3, ks3, cs3, HT3, HO3, HN3⟩ := hcut
  clear hm7 HS2 HHH HS3 HHK HHC HLK HLC
  obtain ⟨hFA, hFG, _, _⟩ := HPF.out wc HT3.out.below
  have hFH := fa_st HT3.out
  obtain ⟨a0, a1, a2, a3, a4, a5⟩ := hFA
  obtain ⟨b0, b1, b2, b3, b4, b5⟩ := hFG
  obtain ⟨c0, c1, c2, c3, c4, c5⟩ := hFH
  go_upto_region 21 with fail
  have HLA := Lib.hid (ld_fa (w := wc) ⟨a0, a1, a2, a3, a4, a5⟩)
  have HLB := Lib.hid (ld_fa (w := wc) ⟨b0, b1, b2, b3, b4, b5⟩)
  have HLC := Lib.hid (ld_fa (w := wc) ⟨c0, c1, c2, c3, c4, c5⟩)
  clear a0 a1 a2 a3 a4 a5 b0 b1 b2 b3 b4 b5 c0 c1 c2 c3 c4 c5
  go_upto_region 22 with (first
    | (refine wl_load rfl 25 (.tmp 3) rfl HLA.out ?_; (try simp only [Act.put, List.setIfInBounds_toArray, List.set_cons_zero, List.set_cons_succ]))
    | (refine wl_load rfl 25 (.tmp 8) rfl HLB.out ?_; (try simp only [Act.put, List.setIfInBounds_toArray, List.set_cons_zero, List.set_cons_succ]))
    | (refine wl_load rfl 25 (.tmp 9) rfl HLC.out ?_; (try simp only [Act.put, List.setIfInBounds_toArray, List.set_cons_zero, List.set_cons_succ]))
    | (refine wl_build3 rfl 29 (.tmp 89) (.tmp 90) (.tmp 91) rfl (fv k ra (.slice pK mK cK) d' va (.slice pC mC cC)) (fv k2 r2 (.slice pK2 nK2 cK2) d2 v2 (.slice pC2 nC2 cC2)) (fv k3 r3 (.slice pK3 nK3 cK3) d3 v3 (.slice pC3 nC3 cC3)) (.agg (f18 k ra (.slice pK mK cK) d' va (.slice pC mC cC) k2 r2 (.slice pK2 nK2 cK2) d2 v2 (.slice pC2 nC2 cC2) k3 r3 (.slice pK3 nK3 cK3) d3 v3 (.slice pC3 nC3 cC3))) rfl rfl rfl (build18 _ _ _ _ _ _ _ _ _ _ _ _ _ _ _ _ _ _ _) ?_; (try simp only [Act.put, List.setIfInBounds_toArray, List.set_cons_zero, List.set_cons_succ]))
    | (refine wl_alloc rfl 29 rfl _ (zero18 _) ?_; (try simp only [Act.put, List.setIfInBounds_toArray, List.set_cons_zero, List.set_cons_succ]))
    | (refine wl_store rfl 29 _ _ rfl (store18 _ _ (heap_alloc_new _ _) _ _ _ _ _ _ _ _ _ _ _ _ _ _ _ _ _ _ _ _ _ _ _ _ _ _ _ _ _ _) ?_; (try simp only [Act.put, List.setIfInBounds_toArray, List.set_cons_zero, List.set_cons_succ])))
  have hlt := HT3.out.lt (b := hh) (o := fo k3 r3 (.slice pK3 nK3 cK3) d3 v3 (.slice pC3 nC3 cC3)) (by simp)
  have h9 := rowset (ds := f18 k ra (.slice pK mK cK) d' va (.slice pC mC cC) k2 r2 (.slice pK2 nK2 cK2) d2 v2 (.slice pC2 nC2 cC2) k3 r3 (.slice pK3 nK3 cK3) d3 v3 (.slice pC3 nC3 cC3)) (HT3.out.alloc o18) HT3.out.below.size (by simp; omega)
  have HO9 : Hid (Cm ((wc.alloc o18).setRow wc.heap.size (f18 k ra (.slice pK mK cK) d' va (.slice pC mC cC) k2 r2 (.slice pK2 nK2 cK2) d2 v2 (.slice pC2 nC2 cC2) k3 r3 (.slice pK3 nK3 cK3) d3 v3 (.slice pC3 nC3 cC3))) (.slice pK3 nK3 cK3) ks3 ∧ Cm ((wc.alloc o18).setRow wc.heap.size (f18 k ra (.slice pK mK cK) d' va (.slice pC mC cC) k2 r2 (.slice pK2 nK2 cK2) d2 v2 (.slice pC2 nC2 cC2) k3 r3 (.slice pK3 nK3 cK3) d3 v3 (.slice pC3 nC3 cC3))) (.slice pC3 nC3 cC3) cs3) := ⟨HO3.out.1.later (below_row _ _ _), HO3.out.2.later (below_row _ _ _)⟩
  clear HO3 HLA HLB HLC hlt
  generalize (wc.alloc o18).setRow wc.heap.size (f18 k ra (.slice pK mK cK) d' va (.slice pC mC cC) k2 r2 (.slice pK2 nK2 cK2) d2 v2 (.slice pC2 nC2 cC2) k3 r3 (.slice pK3 nK3 cK3) d3 v3 (.slice pC3 nC3 cC3)) = w9 at h9 HO9 ⊢
  generalize wc.heap.size = l at h9 ⊢
  have HP : Hid (∀ V, Below w9.heap.size w9 V → Below w9.heap.size w9 V ∧ F0 V l k ra (.slice pK mK cK) d' va (.slice pC mC cC) ∧ F1 V l k2 r2 (.slice pK2 nK2 cK2) d2 v2 (.slice pC2 nC2 cC2) ∧ F2 V l k3 r3 (.slice pK3 nK3 cK3) d3 v3 (.slice pC3 nC3 cC3) ∧ FA V g k2 r2 (.slice pK2 nK2 cK2) d2 v2 (.slice pC2 nC2 cC2)) := fun V hV => by
    have h := h9.later hV
    have c := h.cell (b := l) (cs := #[.int .i64 k, .int .i64 ra, .slice pK mK cK, .int .i64 d', .int .i64 va, .slice pC mC cC, .int .i64 k2, .int .i64 r2, .slice pK2 nK2 cK2, .int .i64 d2, .int .i64 v2, .slice pC2 nC2 cC2, .int .i64 k3, .int .i64 r3, .slice pK3 nK3 cK3, .int .i64 d3, .int .i64 v3, .slice pC3 nC3 cC3]) (t := 29) (by simp)
    exact ⟨hV, ⟨c 0, c 1, c 2, c 3, c 4, c 5⟩, ⟨c 6, c 7, c 8, c 9, c 10, c 11⟩, ⟨c 12, c 13, c 14, c 15, c 16, c 17⟩, (HPF.out V h.below).2.1⟩
  have HKa : Hid (∀ V, Below w9.heap.size w9 V → Cm V (.slice pK mK cK) (ks.take mK)) := fun V hV => HKa0.out.later (h9.later hV).below
  have HCa : Hid (∀ V, Below w9.heap.size w9 V → Cm V (.slice pC mC cC) (cs.take mC)) := fun V hV => HCa0.out.later (h9.later hV).below
  have HK9 : Hid (∀ V, Below w9.heap.size w9 V → Cm V (.slice pK2 nK2 cK2) ks2) := fun V hV => HK6.out V (h9.later hV).below
  have HC9 : Hid (∀ V, Below w9.heap.size w9 V → Cm V (.slice pC2 nC2 cC2) cs2) := fun V hV => HC6.out V (h9.later hV).below
  have HK8 : Hid (∀ V, Below w9.heap.size w9 V → Cm V (.slice pK3 nK3 cK3) ks3) := fun V hV => HO9.out.1.later hV
  have HC8 : Hid (∀ V, Below w9.heap.size w9 V → Cm V (.slice pC3 nC3 cC3) cs3) := fun V hV => HO9.out.2.later hV
  have HBw := Lib.hid (Below.refl w9.heap.size w9)
  have HWb := Lib.hid (HW6.out.trans (h9.below.mono HW6.out.size))
  clear h9 HPF HK6 HC6 HW6 HKa0 HCa0 HT3 HO9
  go_upto_region 23 with fail
  go_loopw [11] (fun v11 wr => (v11 = .int .i64 0 ∨ v11 = .int .i64 1 ∨ v11 = .int .i64 2 ∨ v11 = .int .i64 3) ∧ Hid (Below w9.heap.size w9 wr)) (fun i _ => 3 - (intOf i).toNat)
  case atStart => exact ⟨.inl rfl, HBw⟩
  case round =>
    obtain ⟨rfl | rfl | rfl | rfl, HBr⟩ := hrel
    · as_aux_lemma =>
      obtain ⟨B1, hB1⟩ : ∃ B, vf k ra (ks.take mK) d' va (cs.take mC) = B := ⟨_, rfl⟩
      obtain ⟨T1, hT1⟩ : ∃ T, lcl B1 k ra va = T := ⟨_, rfl⟩
      obtain ⟨S1, hS1⟩ : ∃ S, O.str (byt k ra (ks.take mK) d' va (cs.take mC)) = S := ⟨_, rfl⟩
      have HV1 : Hid (∀ V, Below w9.heap.size w9 V → Calls Tryz.prog 7 #[fv k ra (.slice pK mK cK) d' va (.slice pC mC cC)] V fun e w' => e = .returned (.bool B1) ∧ Below w9.heap.size w9 w') := fun V hV => Below.call hV (hB1 ▸ fvalid_any k ra d' va (ks.take mK) (cs.take mC) (.slice pK mK cK) (.slice pC mC cC) V (HKa.out V hV) (HCa.out V hV))
      have HW1 : Hid (∀ V, Below w9.heap.size w9 V → Calls Tryz.prog 6 #[fv k ra (.slice pK mK cK) d' va (.slice pC mC cC)] V fun e w' => e = .returned (.bool B1) ∧ Below w9.heap.size w9 w') := fun V hV => Below.call hV (hB1 ▸ rfvalid_any k ra d' va (ks.take mK) (cs.take mC) (.slice pK mK cK) (.slice pC mC cC) V (HKa.out V hV) (HCa.out V hV))
      have HL1 : Hid (∀ V, Below w9.heap.size w9 V → Calls Tryz.prog 8 #[fv k ra (.slice pK mK cK) d' va (.slice pC mC cC)] V fun e w' => e = .returned (.bool T1) ∧ Below w9.heap.size w9 w') := fun V hV => Below.call hV (by have h := local_any k ra d' va (ks.take mK) (cs.take mC) (.slice pK mK cK) (.slice pC mC cC) V (HKa.out V hV) (HCa.out V hV); rw [lcl_eq, hB1, hT1] at h; exact h)
      have HM1 : Hid (∀ V, Below w9.heap.size w9 V → Calls Tryz.prog 9 #[fv k ra (.slice pK mK cK) d' va (.slice pC mC cC)] V fun e w' => e = .returned (.bool T1) ∧ Below w9.heap.size w9 w') := fun V hV => Below.call hV (by have h := rlocal_any k ra d' va (ks.take mK) (cs.take mC) (.slice pK mK cK) (.slice pC mC cC) V (HKa.out V hV) (HCa.out V hV); rw [hB1, hT1] at h; exact h)
      have HX1 : Hid (∀ V, Below w9.heap.size w9 V → Calls Tryz.prog 10 #[fv k ra (.slice pK mK cK) d' va (.slice pC mC cC)] V fun e w' => e = .returned (.bool B1) ∧ Below w9.heap.size w9 w') := fun V hV => Below.call hV (hB1 ▸ clear_any k ra d' va (ks.take mK) (cs.take mC) (.slice pK mK cK) (.slice pC mC cC) V (HKa.out V hV) (HCa.out V hV))
      have HY1 : Hid (∀ V, Below w9.heap.size w9 V → Calls Tryz.prog 11 #[fv k ra (.slice pK mK cK) d' va (.slice pC mC cC)] V fun e w' => e = .returned (.string S1) ∧ Below w9.heap.size w9 w') := fun V hV => Below.call hV (by have h := bytes_any k ra d' va (ks.take mK) (cs.take mC) (.slice pK mK cK) (.slice pC mC cC) V (HKa.out V hV) (HCa.out V hV) (by have := HLa.out; omega) (by have := HLa.out; omega); rw [hS1] at h; exact h)
      have HZ1 : Hid (∀ V, Below w9.heap.size w9 V → Calls Tryz.prog 12 #[fv k ra (.slice pK mK cK) d' va (.slice pC mC cC)] V fun e w' => e = .returned (.string S1) ∧ Below w9.heap.size w9 w') := fun V hV => Below.call hV (by have h := rbytes_any k ra d' va (ks.take mK) (cs.take mC) (.slice pK mK cK) (.slice pC mC cC) V (HKa.out V hV) (HCa.out V hV) (by have := HLa.out; omega) (by have := HLa.out; omega); rw [hS1] at h; exact h)
      clear hB1 hT1 hS1
      obtain ⟨_, hF0, hF1, hF2, hG⟩ := HP.out _ HBr.out
      clear hF1 hF2 hG
      go_upto_region 26 with (go_at_call 6; (with_reducible refine (HW1.out _ HBr.out).mono ?_); rintro e w5 ⟨rfl, h5⟩; have H5 := Lib.hid h5; clear h5)
      clear hF0
      have hd := H5.out.drew
      obtain ⟨_, hF0, hF1, hF2, hG⟩ := HP.out _ hd
      clear hF1 hF2 hG
      go_region_held3 (fun V => Below w9.heap.size w9 V ∧ F0 V l k ra (.slice pK mK cK) d' va (.slice pC mC cC)) ((refine (fun h => ⟨h, (HP.out _ h).2.1⟩ : Below w9.heap.size w9 _ → _) ?_; assumption)) (first
        | (go_at_call 7; (with_reducible refine (HV1.out _ (by assumption)).mono ?_); rintro e w4 ⟨rfl, h4⟩)
        | (go_at_call 8; (with_reducible refine (HL1.out _ (by assumption)).mono ?_); rintro e w4 ⟨rfl, h4⟩)
        | (go_at_call 9; (with_reducible refine (HM1.out _ (by assumption)).mono ?_); rintro e w4 ⟨rfl, h4⟩)
        | (go_at_call 10; (with_reducible refine (HX1.out _ (by assumption)).mono ?_); rintro e w4 ⟨rfl, h4⟩)
        | (go_at_call 11; (with_reducible refine (HY1.out _ (by assumption)).mono ?_); rintro e w4 ⟨rfl, h4⟩)
        | (go_at_call 12; (with_reducible refine (HZ1.out _ (by assumption)).mono ?_); rintro e w4 ⟨rfl, h4⟩))
      rename_i hHeld
      obtain ⟨hX, _⟩ := hHeld
      go_wp2_with fail
      go_roundw
      case rel => exact ⟨.inr (.inl rfl), Lib.hid hX⟩
      case measure => simp [intOf]
    · as_aux_lemma =>
      obtain ⟨B2, hB2⟩ : ∃ B, vf k2 r2 (ks2) d2 v2 (cs2) = B := ⟨_, rfl⟩
      obtain ⟨T2, hT2⟩ : ∃ T, lcl B2 k2 r2 v2 = T := ⟨_, rfl⟩
      obtain ⟨S2, hS2⟩ : ∃ S, O.str (byt k2 r2 (ks2) d2 v2 (cs2)) = S := ⟨_, rfl⟩
      have HV2 : Hid (∀ V, Below w9.heap.size w9 V → Calls Tryz.prog 7 #[fv k2 r2 (.slice pK2 nK2 cK2) d2 v2 (.slice pC2 nC2 cC2)] V fun e w' => e = .returned (.bool B2) ∧ Below w9.heap.size w9 w') := fun V hV => Below.call hV (hB2 ▸ fvalid_any k2 r2 d2 v2 (ks2) (cs2) (.slice pK2 nK2 cK2) (.slice pC2 nC2 cC2) V (HK9.out V hV) (HC9.out V hV))
      have HW2 : Hid (∀ V, Below w9.heap.size w9 V → Calls Tryz.prog 6 #[fv k2 r2 (.slice pK2 nK2 cK2) d2 v2 (.slice pC2 nC2 cC2)] V fun e w' => e = .returned (.bool B2) ∧ Below w9.heap.size w9 w') := fun V hV => Below.call hV (hB2 ▸ rfvalid_any k2 r2 d2 v2 (ks2) (cs2) (.slice pK2 nK2 cK2) (.slice pC2 nC2 cC2) V (HK9.out V hV) (HC9.out V hV))
      have HL2 : Hid (∀ V, Below w9.heap.size w9 V → Calls Tryz.prog 8 #[fv k2 r2 (.slice pK2 nK2 cK2) d2 v2 (.slice pC2 nC2 cC2)] V fun e w' => e = .returned (.bool T2) ∧ Below w9.heap.size w9 w') := fun V hV => Below.call hV (by have h := local_any k2 r2 d2 v2 (ks2) (cs2) (.slice pK2 nK2 cK2) (.slice pC2 nC2 cC2) V (HK9.out V hV) (HC9.out V hV); rw [lcl_eq, hB2, hT2] at h; exact h)
      have HM2 : Hid (∀ V, Below w9.heap.size w9 V → Calls Tryz.prog 9 #[fv k2 r2 (.slice pK2 nK2 cK2) d2 v2 (.slice pC2 nC2 cC2)] V fun e w' => e = .returned (.bool T2) ∧ Below w9.heap.size w9 w') := fun V hV => Below.call hV (by have h := rlocal_any k2 r2 d2 v2 (ks2) (cs2) (.slice pK2 nK2 cK2) (.slice pC2 nC2 cC2) V (HK9.out V hV) (HC9.out V hV); rw [hB2, hT2] at h; exact h)
      have HX2 : Hid (∀ V, Below w9.heap.size w9 V → Calls Tryz.prog 10 #[fv k2 r2 (.slice pK2 nK2 cK2) d2 v2 (.slice pC2 nC2 cC2)] V fun e w' => e = .returned (.bool B2) ∧ Below w9.heap.size w9 w') := fun V hV => Below.call hV (hB2 ▸ clear_any k2 r2 d2 v2 (ks2) (cs2) (.slice pK2 nK2 cK2) (.slice pC2 nC2 cC2) V (HK9.out V hV) (HC9.out V hV))
      have HY2 : Hid (∀ V, Below w9.heap.size w9 V → Calls Tryz.prog 11 #[fv k2 r2 (.slice pK2 nK2 cK2) d2 v2 (.slice pC2 nC2 cC2)] V fun e w' => e = .returned (.string S2) ∧ Below w9.heap.size w9 w') := fun V hV => Below.call hV (by have h := bytes_any k2 r2 d2 v2 (ks2) (cs2) (.slice pK2 nK2 cK2) (.slice pC2 nC2 cC2) V (HK9.out V hV) (HC9.out V hV) (by have := HLen.out; omega) (by have := HLen.out; omega); rw [hS2] at h; exact h)
      have HZ2 : Hid (∀ V, Below w9.heap.size w9 V → Calls Tryz.prog 12 #[fv k2 r2 (.slice pK2 nK2 cK2) d2 v2 (.slice pC2 nC2 cC2)] V fun e w' => e = .returned (.string S2) ∧ Below w9.heap.size w9 w') := fun V hV => Below.call hV (by have h := rbytes_any k2 r2 d2 v2 (ks2) (cs2) (.slice pK2 nK2 cK2) (.slice pC2 nC2 cC2) V (HK9.out V hV) (HC9.out V hV) (by have := HLen.out; omega) (by have := HLen.out; omega); rw [hS2] at h; exact h)
      clear hB2 hT2 hS2
      obtain ⟨_, hF0, hF1, hF2, hG⟩ := HP.out _ HBr.out
      clear hF0 hF2 hG
      go_upto_region 26 with (go_at_call 6; (with_reducible refine (HW2.out _ HBr.out).mono ?_); rintro e w5 ⟨rfl, h5⟩; have H5 := Lib.hid h5; clear h5)
      clear hF1
      have hd := H5.out.drew
      obtain ⟨_, hF0, hF1, hF2, hG⟩ := HP.out _ hd
      clear hF0 hF2 hG
      go_region_held3 (fun V => Below w9.heap.size w9 V ∧ F1 V l k2 r2 (.slice pK2 nK2 cK2) d2 v2 (.slice pC2 nC2 cC2)) ((refine (fun h => ⟨h, (HP.out _ h).2.2.1⟩ : Below w9.heap.size w9 _ → _) ?_; assumption)) (first
        | (go_at_call 7; (with_reducible refine (HV2.out _ (by assumption)).mono ?_); rintro e w4 ⟨rfl, h4⟩)
        | (go_at_call 8; (with_reducible refine (HL2.out _ (by assumption)).mono ?_); rintro e w4 ⟨rfl, h4⟩)
        | (go_at_call 9; (with_reducible refine (HM2.out _ (by assumption)).mono ?_); rintro e w4 ⟨rfl, h4⟩)
        | (go_at_call 10; (with_reducible refine (HX2.out _ (by assumption)).mono ?_); rintro e w4 ⟨rfl, h4⟩)
        | (go_at_call 11; (with_reducible refine (HY2.out _ (by assumption)).mono ?_); rintro e w4 ⟨rfl, h4⟩)
        | (go_at_call 12; (with_reducible refine (HZ2.out _ (by assumption)).mono ?_); rintro e w4 ⟨rfl, h4⟩))
      rename_i hHeld
      obtain ⟨hX, _⟩ := hHeld
      go_wp2_with fail
      go_roundw
      case rel => exact ⟨.inr (.inr (.inl rfl)), Lib.hid hX⟩
      case measure => simp [intOf]
    · as_aux_lemma =>
      obtain ⟨B3, hB3⟩ : ∃ B, vf k3 r3 (ks3) d3 v3 (cs3) = B := ⟨_, rfl⟩
      obtain ⟨T3, hT3⟩ : ∃ T, lcl B3 k3 r3 v3 = T := ⟨_, rfl⟩
      obtain ⟨S3, hS3⟩ : ∃ S, O.str (byt k3 r3 (ks3) d3 v3 (cs3)) = S := ⟨_, rfl⟩
      have HV3 : Hid (∀ V, Below w9.heap.size w9 V → Calls Tryz.prog 7 #[fv k3 r3 (.slice pK3 nK3 cK3) d3 v3 (.slice pC3 nC3 cC3)] V fun e w' => e = .returned (.bool B3) ∧ Below w9.heap.size w9 w') := fun V hV => Below.call hV (hB3 ▸ fvalid_any k3 r3 d3 v3 (ks3) (cs3) (.slice pK3 nK3 cK3) (.slice pC3 nC3 cC3) V (HK8.out V hV) (HC8.out V hV))
      have HW3 : Hid (∀ V, Below w9.heap.size w9 V → Calls Tryz.prog 6 #[fv k3 r3 (.slice pK3 nK3 cK3) d3 v3 (.slice pC3 nC3 cC3)] V fun e w' => e = .returned (.bool B3) ∧ Below w9.heap.size w9 w') := fun V hV => Below.call hV (hB3 ▸ rfvalid_any k3 r3 d3 v3 (ks3) (cs3) (.slice pK3 nK3 cK3) (.slice pC3 nC3 cC3) V (HK8.out V hV) (HC8.out V hV))
      have HL3 : Hid (∀ V, Below w9.heap.size w9 V → Calls Tryz.prog 8 #[fv k3 r3 (.slice pK3 nK3 cK3) d3 v3 (.slice pC3 nC3 cC3)] V fun e w' => e = .returned (.bool T3) ∧ Below w9.heap.size w9 w') := fun V hV => Below.call hV (by have h := local_any k3 r3 d3 v3 (ks3) (cs3) (.slice pK3 nK3 cK3) (.slice pC3 nC3 cC3) V (HK8.out V hV) (HC8.out V hV); rw [lcl_eq, hB3, hT3] at h; exact h)
      have HM3 : Hid (∀ V, Below w9.heap.size w9 V → Calls Tryz.prog 9 #[fv k3 r3 (.slice pK3 nK3 cK3) d3 v3 (.slice pC3 nC3 cC3)] V fun e w' => e = .returned (.bool T3) ∧ Below w9.heap.size w9 w') := fun V hV => Below.call hV (by have h := rlocal_any k3 r3 d3 v3 (ks3) (cs3) (.slice pK3 nK3 cK3) (.slice pC3 nC3 cC3) V (HK8.out V hV) (HC8.out V hV); rw [hB3, hT3] at h; exact h)
      have HX3 : Hid (∀ V, Below w9.heap.size w9 V → Calls Tryz.prog 10 #[fv k3 r3 (.slice pK3 nK3 cK3) d3 v3 (.slice pC3 nC3 cC3)] V fun e w' => e = .returned (.bool B3) ∧ Below w9.heap.size w9 w') := fun V hV => Below.call hV (hB3 ▸ clear_any k3 r3 d3 v3 (ks3) (cs3) (.slice pK3 nK3 cK3) (.slice pC3 nC3 cC3) V (HK8.out V hV) (HC8.out V hV))
      have HY3 : Hid (∀ V, Below w9.heap.size w9 V → Calls Tryz.prog 11 #[fv k3 r3 (.slice pK3 nK3 cK3) d3 v3 (.slice pC3 nC3 cC3)] V fun e w' => e = .returned (.string S3) ∧ Below w9.heap.size w9 w') := fun V hV => Below.call hV (by have h := bytes_any k3 r3 d3 v3 (ks3) (cs3) (.slice pK3 nK3 cK3) (.slice pC3 nC3 cC3) V (HK8.out V hV) (HC8.out V hV) (by have := HN3.out; omega) (by have := HN3.out; omega); rw [hS3] at h; exact h)
      have HZ3 : Hid (∀ V, Below w9.heap.size w9 V → Calls Tryz.prog 12 #[fv k3 r3 (.slice pK3 nK3 cK3) d3 v3 (.slice pC3 nC3 cC3)] V fun e w' => e = .returned (.string S3) ∧ Below w9.heap.size w9 w') := fun V hV => Below.call hV (by have h := rbytes_any k3 r3 d3 v3 (ks3) (cs3) (.slice pK3 nK3 cK3) (.slice pC3 nC3 cC3) V (HK8.out V hV) (HC8.out V hV) (by have := HN3.out; omega) (by have := HN3.out; omega); rw [hS3] at h; exact h)
      clear hB3 hT3 hS3
      obtain ⟨_, hF0, hF1, hF2, hG⟩ := HP.out _ HBr.out
      clear hF0 hF1 hG
      go_upto_region 26 with (go_at_call 6; (with_reducible refine (HW3.out _ HBr.out).mono ?_); rintro e w5 ⟨rfl, h5⟩; have H5 := Lib.hid h5; clear h5)
      clear hF2
      have hd := H5.out.drew
      obtain ⟨_, hF0, hF1, hF2, hG⟩ := HP.out _ hd
      clear hF0 hF1 hG
      go_region_held3 (fun V => Below w9.heap.size w9 V ∧ F2 V l k3 r3 (.slice pK3 nK3 cK3) d3 v3 (.slice pC3 nC3 cC3)) ((refine (fun h => ⟨h, (HP.out _ h).2.2.2.1⟩ : Below w9.heap.size w9 _ → _) ?_; assumption)) (first
        | (go_at_call 7; (with_reducible refine (HV3.out _ (by assumption)).mono ?_); rintro e w4 ⟨rfl, h4⟩)
        | (go_at_call 8; (with_reducible refine (HL3.out _ (by assumption)).mono ?_); rintro e w4 ⟨rfl, h4⟩)
        | (go_at_call 9; (with_reducible refine (HM3.out _ (by assumption)).mono ?_); rintro e w4 ⟨rfl, h4⟩)
        | (go_at_call 10; (with_reducible refine (HX3.out _ (by assumption)).mono ?_); rintro e w4 ⟨rfl, h4⟩)
        | (go_at_call 11; (with_reducible refine (HY3.out _ (by assumption)).mono ?_); rintro e w4 ⟨rfl, h4⟩)
        | (go_at_call 12; (with_reducible refine (HZ3.out _ (by assumption)).mono ?_); rintro e w4 ⟨rfl, h4⟩))
      rename_i hHeld
      obtain ⟨hX, _⟩ := hHeld
      go_wp2_with fail
      go_roundw
      case rel => exact ⟨.inr (.inr (.inr rfl)), Lib.hid hX⟩
      case measure => simp [intOf]
    · as_aux_lemma =>
      have HV2 : Hid (∀ V, Below w9.heap.size w9 V → Calls Tryz.prog 7 #[fv k2 r2 (.slice pK2 nK2 cK2) d2 v2 (.slice pC2 nC2 cC2)] V fun e w' => e = .returned (.bool true) ∧ Below w9.heap.size w9 w') := fun V hV => Below.call hV (HVV.out ▸ fvalid_any k2 r2 d2 v2 ks2 cs2 _ _ V (HK9.out V hV) (HC9.out V hV))
      obtain ⟨_, _, _, _, hG⟩ := HP.out _ HBr.out
      go_upto_region 28 with fail
      go_wp2_with (go_at_call 7; (with_reducible refine (HV2.out _ HBr.out).mono ?_); rintro e w5 ⟨rfl, h5⟩; have H5 := Lib.hid h5; clear h5)
      go_ret
      exact ⟨rfl, HWb.out.trans (H5.out.mono HWb.out.size)⟩
theorem lifted (os : Os) (started : os.Started) (H : Type) (enc : TypeId × Value → H) :
    ReturnsInHanded {} Tryz.checked os 3 .any (Rows.filterValidSpec.pre6 enc Tryz.prog Tryz.f3 Rows.filterValidRow.domain false) (Rows.filterValidSpec.post enc Tryz.prog Tryz.f3 false true false false) := by
  refine returnsInHanded_of_change_sized (C := Tryz.checked) own started (by kernel_rfl) Tryz.func3
    (ChangeSpec.witness6 (enc := enc) (C := Tryz.checked) false ⟨#[], #[.agg #[.int .i64 0, .int .i64 0, .slice none 0 0, .int .i64 0, .int .i64 0, .slice none 0 0], .slice none 0 0, .agg #[.int .i64 0, .int .i64 0]], []⟩ 8 (by kernel_rfl) (by kernel_rfl) (by kernel_rfl) (by kernel_rfl)) ?_
  intro W base args ds gs before hval0 hW _ _ _
  have hval : ∀ (j : Nat) t v, Tryz.f3.params[j]? = some t → args[j]? = some v → Value.okWide Tryz.prog W .any base t v := hval0
  have hW' := hW
  obtain ⟨p, q, hA0, hV, rfl, hfz, hnd⟩ := hW
  have hA : DataW.TrodAll enc Tryz.prog W 0 (fun _ => true) true Tryz.f3.params.toList args.toList ds p := hA0
  rw [Tryz.params3] at hA hval
  obtain ⟨v0, v1, v2, d0, d1, d2, p0, p1, p2, rfl, rfl, rfl, h0, h1, h2⟩ := trodAll_three hA
  obtain ⟨rfl, rfl⟩ := trodVars_none hV
  obtain ⟨k, ra, d', va, K, C, ks, cs, rfl, hK, hC⟩ := open_filter (hval 0 25 v0 rfl rfl) h0
  obtain ⟨ss, hS⟩ := open_ca 22 Tryz.underlying22 (hval 1 22 v1 rfl rfl) h1
  obtain ⟨x, y, rfl⟩ := agg_n2 (hval 2 26 v2 rfl rfl)
  refine (walk k ra d' va K C ks cs v1 ss x y W hK hC hS).mono fun e W' ⟨he, hb⟩ => ?_
  subst he
  exact ⟨_, rfl, law_post hW' rfl (by kernel_rfl) rfl (by intro t ht; rw [Tryz.params3] at ht; simp at ht; rcases ht with rfl | rfl | rfl <;> exact ⟨by kernel_rfl, of_decide_eq_true (by kernel_rfl)⟩) hb⟩

theorem holds : Rows.FilterValidSaid :=
  OpenClaim.holds_of_wide 3 Tryz.f3 rfl rfl rfl rfl rfl rfl rfl ⟨rfl, rfl, rfl, rfl, rfl⟩ rfl rfl rfl rfl rfl (by kernel_rfl) Tryz.func3 (by kernel_rfl)
    (of_decide_eq_true (by kernel_rfl)) (by unfold Func.isWrapper; first | (rw [if_pos (by decide +kernel)]; kernel_rfl) | (rw [if_neg (by decide +kernel)]; exact ⟨rfl, rfl⟩))
    (fun os started H enc _ => lifted os started H enc)
end Go.Proofs.YtbodmeiecdomfaaGreat.W.WLValid
