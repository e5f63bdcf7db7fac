/-
  CurveGamma: for all powers and counts, Gamma answers as the reference does. No conditions.
-/
import Derived.Test.YtdpcciidnkchfaaLaw
import Derived.Test.YtdpcciidnkchfaaSane
namespace Go.Proofs.Ytdpcciidnkchfaa.LGamma
open Go.ChangeShapes Go.WideShapes Go.ChangeAt Go.RowKit

theorem gamma_x (num den n : Int) (w : World) (e : Int) (p : List Int) (he : (if gok num den n then 0 else 1) = e) (hp : (if gok num den n then gamL num.toNat den.toNat n.toNat else []) = p) : Calls Try.prog 34 #[.int .i64 num, .int .i64 den, .int .i64 n] w (GotE p e w) := he ▸ hp ▸ gamma_any num den n w
theorem refGamma_x (num den n : Int) (w : World) (e : Int) (p : List Int) (he : (if gok num den n then 0 else 1) = e) (hp : (if gok num den n then gamL num.toNat den.toNat n.toNat else []) = p) : Calls Try.prog 35 #[.int .i64 num, .int .i64 den, .int .i64 n] w (GotR p e w) := he ▸ hp ▸ refGamma_any num den n w
theorem gok_nat {a b k : Nat} (a1 : 1 ≤ a) (a2 : a ≤ 8) (b1 : 1 ≤ b) (b2 : b ≤ 8) (k1 : 2 ≤ k) (k2 : k ≤ 257) : gok a b k = true := by unfold gok; rw [(vp_iff _).2 (by omega), (vp_iff _).2 (by omega), (vc_iff _).2 (by omega)]; rfl
theorem gamma_is (a b k : Nat) (w : World) (a1 : 1 ≤ a) (a2 : a ≤ 8) (b1 : 1 ≤ b) (b2 : b ≤ 8) (k1 : 2 ≤ k) (k2 : k ≤ 257) : Calls Try.prog 34 #[.int .i64 a, .int .i64 b, .int .i64 k] w (GotE (gamL a b k) 0 w) :=
  gamma_x a b k w 0 _ (by rw [if_pos (gok_nat a1 a2 b1 b2 k1 k2)]) (by rw [if_pos (gok_nat a1 a2 b1 b2 k1 k2)]; rfl)
theorem refGamma_is (a b k : Nat) (w : World) (a1 : 1 ≤ a) (a2 : a ≤ 8) (b1 : 1 ≤ b) (b2 : b ≤ 8) (k1 : 2 ≤ k) (k2 : k ≤ 257) : Calls Try.prog 35 #[.int .i64 a, .int .i64 b, .int .i64 k] w (GotR (gamL a b k) 0 w) :=
  refGamma_x a b k w 0 _ (by rw [if_pos (gok_nat a1 a2 b1 b2 k1 k2)]) (by rw [if_pos (gok_nat a1 a2 b1 b2 k1 k2)]; rfl)
theorem gok_len (num den n : Int) : (if gok num den n = true then gamL num.toNat den.toNat n.toNat else []).length = 0 ∨ 2 ≤ (if gok num den n = true then gamL num.toNat den.toNat n.toNat else []).length := by
  by_cases h : gok num den n = true
  · right
    rw [if_pos h]
    have h3 : vc n = true := by unfold gok at h; simp at h; exact h.2
    rw [vc_iff] at h3
    unfold gamL
    simp
    omega
  · rw [if_neg h]; exact .inl rfl
theorem gok_cases {num den n : Int} (h : ¬ gok num den n = true) (h60 : ¬ n ≤ 60) : decide (1 ≤ num) = false ∨ (1 ≤ num ∧ decide (num ≤ 8) = false) ∨ (1 ≤ num ∧ num ≤ 8 ∧ decide (1 ≤ den) = false) ∨ (1 ≤ num ∧ num ≤ 8 ∧ 1 ≤ den ∧ decide (den ≤ 8) = false) ∨ (1 ≤ num ∧ num ≤ 8 ∧ 1 ≤ den ∧ den ≤ 8 ∧ decide (n ≤ 257) = false) := by
  have h1 : ¬ ((1 ≤ num ∧ num ≤ 8) ∧ (1 ≤ den ∧ den ≤ 8) ∧ (2 ≤ n ∧ n ≤ 257)) := fun ⟨a, b, c⟩ => h (by unfold gok; rw [(vp_iff num).2 a, (vp_iff den).2 b, (vc_iff n).2 c]; rfl)
  simp only [decide_eq_false_iff_not]
  omega
theorem gok_all {num den n : Int} (h : gok num den n = true) : 1 ≤ num ∧ num ≤ 8 ∧ 1 ≤ den ∧ den ≤ 8 ∧ n ≤ 257 := by
  unfold gok at h
  simp only [Bool.and_eq_true, vp_iff, vc_iff] at h
  omega

set_option maxHeartbeats 8000000 in
set_option maxRecDepth 100000 in
theorem walk (num : Int) (den : Int) (n : Int) (w : World)  : Calls Try.prog 13 #[.int .i64 num, .int .i64 den, .int .i64 n] w fun e w' => e = .returned (.bool true) ∧ Below w.heap.size w w' := by
  obtain ⟨a', qa, qa1⟩ := and3 num
  obtain ⟨a, hca, la1, la2⟩ : ∃ a : Nat, 1 + (a' : Int) = a ∧ 1 ≤ a ∧ a ≤ 8 := ⟨1 + a', by omega, by omega, by omega⟩
  obtain ⟨b', qb, qb1⟩ := and3 den
  obtain ⟨b, hcb, lb1, lb2⟩ : ∃ b : Nat, 1 + (b' : Int) = b ∧ 1 ≤ b ∧ b ≤ 8 := ⟨1 + b', by omega, by omega, by omega⟩
  obtain ⟨m, hm, hm1⟩ := and16 n
  obtain ⟨k, hk, hk2, hk3⟩ := rem40 m
  obtain ⟨e, he⟩ : ∃ e : Int, (if gok num den n then 0 else 1) = e := ⟨_, rfl⟩
  obtain ⟨p, hp⟩ : ∃ p, (if gok num den n then gamL num.toNat den.toNat n.toNat else []) = p := ⟨_, rfl⟩
  have hl := gok_len num den n
  rw [hp] at hl
  have HE := Lib.hid he; clear he
  have HP := Lib.hid hp; clear hp
  have HL := Lib.hid hl; clear hl
  go_enter Try.func13, Try.ntmps13
  go_upto_region 2 with (go_at_call 15; (with_reducible refine (sane_any _).mono ?_); rintro e w1 ⟨rfl, hb⟩; have BW : Hid (St w [] w1) := (St.start w).later hb; clear hb)
  go_upto_region 5 with fail
  try rw [hca]
  try rw [hcb]
  try rw [hk]
  have HW : Hid (St w1 [] _) := St.start _
  go_upto_region 6 with (go_at_call 34; (with_reducible refine (gamma_x num den n _ e p HE.out HP.out).mono ?_); rintro e wz ⟨p1, n1, c1, rfl, hm, hb⟩; have K1 := Lib.hid hm; replace HW := Lib.hid (HW.out.later hb); clear hb hm)
  go_upto_region 7 with fail
  have hB1 := HW.out.below.size
  have hs := HW.out.alloc (.cells #[.slice none 0 0, .int .i64 1] 43)
  clear HW
  replace K1 := Lib.hid (K1.out.later (below1 (o := .cells #[.slice none 0 0, .int .i64 1] 43)))
  generalize wz.alloc (.cells #[.slice none 0 0, .int .i64 1] 43) = wv at *
  generalize wz.heap.size = b1 at *
  have HW := Lib.hid hs; clear hs
  by_cases h60 : n ≤ 60
  · go_upto_region 11 with (go_at_call 35; (with_reducible refine (refGamma_x num den n _ e p HE.out HP.out).mono ?_); rintro e wz ⟨p2, n2, c2, rfl, hm, hb⟩; have K2 := Lib.hid hm; replace K1 := Lib.hid (K1.out.later hb); replace HW := Lib.hid (HW.out.later hb); clear hb hm; have f0 := HW.out.frozen (b := b1) (cs := #[.slice none 0 0, .int .i64 1]) (t := 43) (by simp) 0; have f1 := HW.out.frozen (b := b1) (cs := #[.slice none 0 0, .int .i64 1]) (t := 43) (by simp) 1; have hl1 := HW.out.lt (b := b1) (o := .cells #[.slice none 0 0, .int .i64 1] 43) (by simp); have d10 := HW.out.cell (b := b1) (cs := #[.slice none 0 0, .int .i64 1]) (t := 43) (by simp) 0; have d11 := HW.out.cell (b := b1) (cs := #[.slice none 0 0, .int .i64 1]) (t := 43) (by simp) 1)
    have hs : St w1 [(b1, .cells #[.slice p2 n2 c2, .int .i64 e] 43)] _ := (HW.out.put (v := .slice p2 n2 c2) (j := 0) hB1 (by intro x hx; cases hx)).put (v := .int .i64 e) (j := 1) hB1 (by intro x hx; cases hx)
    have k1 := cm_put K1.out HL.out HW.out (List.mem_singleton.2 rfl) (.slice p2 n2 c2) (.int .i64 e)
    have k2 := cm_put K2.out HL.out HW.out (List.mem_singleton.2 rfl) (.slice p2 n2 c2) (.int .i64 e)
    clear HW d10 d11 f0 f1 hl1 K1 K2
    generalize (wz.setCell ⟨b1, 0, none⟩ (.slice p2 n2 c2)).setCell ⟨b1, 1, none⟩ (.int .i64 e) = wy at *
    have HW := Lib.hid hs; have K1 := Lib.hid k1; have K2 := Lib.hid k2; clear hs k1 k2
    go_upto_region 12 with (go_at_call 34; (with_reducible refine (gamma_is a b k _ la1 la2 lb1 lb2 hk2 (by omega)).mono ?_); rintro e wz ⟨p3, n3, c3, rfl, hm, hb⟩; have K3 := Lib.hid hm; replace K1 := Lib.hid (K1.out.later hb); replace K2 := Lib.hid (K2.out.later hb); replace HW := Lib.hid (HW.out.later hb); clear hb hm)
    go_upto_region 13 with (go_at_call 35; (with_reducible refine (refGamma_is a b k _ la1 la2 lb1 lb2 hk2 (by omega)).mono ?_); rintro e wz ⟨p4, n4, c4, rfl, hm, hb⟩; have K4 := Lib.hid hm; replace K1 := Lib.hid (K1.out.later hb); replace K2 := Lib.hid (K2.out.later hb); replace K3 := Lib.hid (K3.out.later hb); replace HW := Lib.hid (HW.out.later hb); clear hb hm)
    have hB2 := HW.out.below.size
    have hs := HW.out.alloc (.cells #[.slice p4 n4 c4, .int .i64 0] 43)
    clear HW
    replace K1 := Lib.hid (K1.out.later (below1 (o := .cells #[.slice p4 n4 c4, .int .i64 0] 43)))
    replace K2 := Lib.hid (K2.out.later (below1 (o := .cells #[.slice p4 n4 c4, .int .i64 0] 43)))
    replace K3 := Lib.hid (K3.out.later (below1 (o := .cells #[.slice p4 n4 c4, .int .i64 0] 43)))
    replace K4 := Lib.hid (K4.out.later (below1 (o := .cells #[.slice p4 n4 c4, .int .i64 0] 43)))
    generalize wz.alloc (.cells #[.slice p4 n4 c4, .int .i64 0] 43) = wv at *
    generalize wz.heap.size = b2 at *
    have HW := Lib.hid hs; clear hs
    have d10 := HW.out.cell (b := b1) (cs := #[.slice p2 n2 c2, .int .i64 e]) (t := 43) (by simp) 0; have d11 := HW.out.cell (b := b1) (cs := #[.slice p2 n2 c2, .int .i64 e]) (t := 43) (by simp) 1; have d20 := HW.out.cell (b := b2) (cs := #[.slice p4 n4 c4, .int .i64 0]) (t := 43) (by simp) 0; have d21 := HW.out.cell (b := b2) (cs := #[.slice p4 n4 c4, .int .i64 0]) (t := 43) (by simp) 1
    go_wp2_with (first
    | (go_at_call 23; (with_reducible refine (same_lit p _ _ _ K1.out K2.out).mono ?_); rintro e wz ⟨rfl, hb⟩; replace K3 := Lib.hid (K3.out.later hb); replace K4 := Lib.hid (K4.out.later hb); replace HW := Lib.hid (HW.out.later hb); clear hb; have d10 := HW.out.cell (b := b1) (cs := #[.slice p2 n2 c2, .int .i64 e]) (t := 43) (by simp) 0; have d11 := HW.out.cell (b := b1) (cs := #[.slice p2 n2 c2, .int .i64 e]) (t := 43) (by simp) 1; have d20 := HW.out.cell (b := b2) (cs := #[.slice p4 n4 c4, .int .i64 0]) (t := 43) (by simp) 0; have d21 := HW.out.cell (b := b2) (cs := #[.slice p4 n4 c4, .int .i64 0]) (t := 43) (by simp) 1)
    | (go_at_call 23; (with_reducible refine (same_lit _ _ _ _ K3.out K4.out).mono ?_); rintro e wz ⟨rfl, hb⟩; replace K3 := Lib.hid (K3.out.later hb); replace HW := Lib.hid (HW.out.later hb); clear hb))
    go_ret
    exact ⟨rfl, BW.out.below.trans (HW.out.below.mono BW.out.below.size)⟩
  · have h60b : decide (n ≤ 60) = false := by simp; omega
    by_cases hg : gok num den n = true
    · obtain ⟨g1, g2, g3, g4, g5⟩ := gok_all hg
      obtain rfl : 0 = e := by have := HE.out; rw [if_pos hg] at this; exact this
      clear hg h60
      have f0 := HW.out.frozen (b := b1) (cs := #[.slice none 0 0, .int .i64 1]) (t := 43) (by simp) 0; have f1 := HW.out.frozen (b := b1) (cs := #[.slice none 0 0, .int .i64 1]) (t := 43) (by simp) 1; have hl1 := HW.out.lt (b := b1) (o := .cells #[.slice none 0 0, .int .i64 1] 43) (by simp); have d10 := HW.out.cell (b := b1) (cs := #[.slice none 0 0, .int .i64 1]) (t := 43) (by simp) 0; have d11 := HW.out.cell (b := b1) (cs := #[.slice none 0 0, .int .i64 1]) (t := 43) (by simp) 1
      go_upto_region 11 with fail
      have hs : St w1 [(b1, .cells #[.slice p1 n1 c1, .int .i64 0] 43)] _ := (HW.out.put (v := .slice p1 n1 c1) (j := 0) hB1 (by intro x hx; cases hx)).put (v := .int .i64 0) (j := 1) hB1 (by intro x hx; cases hx)
      have k1 := cm_put K1.out HL.out HW.out (List.mem_singleton.2 rfl) (.slice p1 n1 c1) (.int .i64 0)
      clear HW d10 d11 f0 f1 hl1 K1
      generalize (World.setCell _ ⟨b1, 0, none⟩ (.slice p1 n1 c1)).setCell ⟨b1, 1, none⟩ (.int .i64 0) = wy at *
      have HW := Lib.hid hs; have K1 := Lib.hid k1; clear hs k1
      go_upto_region 12 with (go_at_call 34; (with_reducible refine (gamma_is a b k _ la1 la2 lb1 lb2 hk2 (by omega)).mono ?_); rintro e wz ⟨p3, n3, c3, rfl, hm, hb⟩; have K3 := Lib.hid hm; replace K1 := Lib.hid (K1.out.later hb); replace HW := Lib.hid (HW.out.later hb); clear hb hm)
      go_upto_region 13 with (go_at_call 35; (with_reducible refine (refGamma_is a b k _ la1 la2 lb1 lb2 hk2 (by omega)).mono ?_); rintro e wz ⟨p4, n4, c4, rfl, hm, hb⟩; have K4 := Lib.hid hm; replace K1 := Lib.hid (K1.out.later hb); replace K3 := Lib.hid (K3.out.later hb); replace HW := Lib.hid (HW.out.later hb); clear hb hm)
      have hB2 := HW.out.below.size
      have hs := HW.out.alloc (.cells #[.slice p4 n4 c4, .int .i64 0] 43)
      clear HW
      replace K1 := Lib.hid (K1.out.later (below1 (o := .cells #[.slice p4 n4 c4, .int .i64 0] 43)))
      replace K3 := Lib.hid (K3.out.later (below1 (o := .cells #[.slice p4 n4 c4, .int .i64 0] 43)))
      replace K4 := Lib.hid (K4.out.later (below1 (o := .cells #[.slice p4 n4 c4, .int .i64 0] 43)))
      generalize wz.alloc (.cells #[.slice p4 n4 c4, .int .i64 0] 43) = wv at *
      generalize wz.heap.size = b2 at *
      have HW := Lib.hid hs; clear hs
      have d10 := HW.out.cell (b := b1) (cs := #[.slice p1 n1 c1, .int .i64 0]) (t := 43) (by simp) 0; have d11 := HW.out.cell (b := b1) (cs := #[.slice p1 n1 c1, .int .i64 0]) (t := 43) (by simp) 1; have d20 := HW.out.cell (b := b2) (cs := #[.slice p4 n4 c4, .int .i64 0]) (t := 43) (by simp) 0; have d21 := HW.out.cell (b := b2) (cs := #[.slice p4 n4 c4, .int .i64 0]) (t := 43) (by simp) 1
      go_wp2_with (first
    | (go_at_call 23; (with_reducible refine (same_lit p _ _ _ K1.out K1.out).mono ?_); rintro e wz ⟨rfl, hb⟩; replace K3 := Lib.hid (K3.out.later hb); replace K4 := Lib.hid (K4.out.later hb); replace HW := Lib.hid (HW.out.later hb); clear hb; have d10 := HW.out.cell (b := b1) (cs := #[.slice p1 n1 c1, .int .i64 0]) (t := 43) (by simp) 0; have d11 := HW.out.cell (b := b1) (cs := #[.slice p1 n1 c1, .int .i64 0]) (t := 43) (by simp) 1; have d20 := HW.out.cell (b := b2) (cs := #[.slice p4 n4 c4, .int .i64 0]) (t := 43) (by simp) 0; have d21 := HW.out.cell (b := b2) (cs := #[.slice p4 n4 c4, .int .i64 0]) (t := 43) (by simp) 1)
    | (go_at_call 23; (with_reducible refine (same_lit _ _ _ _ K3.out K4.out).mono ?_); rintro e wz ⟨rfl, hb⟩; replace K3 := Lib.hid (K3.out.later hb); replace HW := Lib.hid (HW.out.later hb); clear hb))
      go_ret
      exact ⟨rfl, BW.out.below.trans (HW.out.below.mono BW.out.below.size)⟩
    · obtain rfl : 1 = e := by have := HE.out; rw [if_neg hg] at this; exact this
      obtain rfl : [] = p := by have := HP.out; rw [if_neg hg] at this; exact this
      have KN : Hid (Cm wv (.slice none 0 0) []) := cm_nil wv
      rcases gok_cases hg h60 with g | ⟨g1, g⟩ | ⟨g1, g2, g⟩ | ⟨g1, g2, g3, g⟩ | ⟨g1, g2, g3, g4, g⟩
      all_goals
        clear hg h60
        go_upto_region 11 with fail
        go_upto_region 12 with (go_at_call 34; (with_reducible refine (gamma_is a b k _ la1 la2 lb1 lb2 hk2 (by omega)).mono ?_); rintro e wz ⟨p3, n3, c3, rfl, hm, hb⟩; have K3 := Lib.hid hm; replace K1 := Lib.hid (K1.out.later hb); replace KN := Lib.hid (KN.out.later hb); replace HW := Lib.hid (HW.out.later hb); clear hb hm)
        go_upto_region 13 with (go_at_call 35; (with_reducible refine (refGamma_is a b k _ la1 la2 lb1 lb2 hk2 (by omega)).mono ?_); rintro e wz ⟨p4, n4, c4, rfl, hm, hb⟩; have K4 := Lib.hid hm; replace K1 := Lib.hid (K1.out.later hb); replace KN := Lib.hid (KN.out.later hb); replace K3 := Lib.hid (K3.out.later hb); replace HW := Lib.hid (HW.out.later hb); clear hb hm)
        have hB2 := HW.out.below.size
        have hs := HW.out.alloc (.cells #[.slice p4 n4 c4, .int .i64 0] 43)
        clear HW
        replace K1 := Lib.hid (K1.out.later (below1 (o := .cells #[.slice p4 n4 c4, .int .i64 0] 43)))
        replace KN := Lib.hid (KN.out.later (below1 (o := .cells #[.slice p4 n4 c4, .int .i64 0] 43)))
        replace K3 := Lib.hid (K3.out.later (below1 (o := .cells #[.slice p4 n4 c4, .int .i64 0] 43)))
        replace K4 := Lib.hid (K4.out.later (below1 (o := .cells #[.slice p4 n4 c4, .int .i64 0] 43)))
        generalize wz.alloc (.cells #[.slice p4 n4 c4, .int .i64 0] 43) = wv at *
        generalize wz.heap.size = b2 at *
        have HW := Lib.hid hs; clear hs
        have d10 := HW.out.cell (b := b1) (cs := #[.slice none 0 0, .int .i64 1]) (t := 43) (by simp) 0; have d11 := HW.out.cell (b := b1) (cs := #[.slice none 0 0, .int .i64 1]) (t := 43) (by simp) 1; have d20 := HW.out.cell (b := b2) (cs := #[.slice p4 n4 c4, .int .i64 0]) (t := 43) (by simp) 0; have d21 := HW.out.cell (b := b2) (cs := #[.slice p4 n4 c4, .int .i64 0]) (t := 43) (by simp) 1
        go_wp2_with (first
    | (go_at_call 23; (with_reducible refine (same_lit [] _ _ _ K1.out KN.out).mono ?_); rintro e wz ⟨rfl, hb⟩; replace K3 := Lib.hid (K3.out.later hb); replace K4 := Lib.hid (K4.out.later hb); replace HW := Lib.hid (HW.out.later hb); clear hb; have d10 := HW.out.cell (b := b1) (cs := #[.slice none 0 0, .int .i64 1]) (t := 43) (by simp) 0; have d11 := HW.out.cell (b := b1) (cs := #[.slice none 0 0, .int .i64 1]) (t := 43) (by simp) 1; have d20 := HW.out.cell (b := b2) (cs := #[.slice p4 n4 c4, .int .i64 0]) (t := 43) (by simp) 0; have d21 := HW.out.cell (b := b2) (cs := #[.slice p4 n4 c4, .int .i64 0]) (t := 43) (by simp) 1)
    | (go_at_call 23; (with_reducible refine (same_lit _ _ _ _ K3.out K4.out).mono ?_); rintro e wz ⟨rfl, hb⟩; replace K3 := Lib.hid (K3.out.later hb); replace HW := Lib.hid (HW.out.later hb); clear hb))
        go_ret
        exact ⟨rfl, BW.out.below.trans (HW.out.below.mono BW.out.below.size)⟩

set_option maxRecDepth 100000 in
theorem lifted (os : Os) (started : os.Started) (H : Type) (enc : TypeId × Value → H) :
    ReturnsInHanded {} Try.checked os 13 .any (Rows.curveGammaSpec.pre6 enc Try.prog Try.f13 Rows.curveGammaRow.domain false) (Rows.curveGammaSpec.post enc Try.prog Try.f13 false true false false) := by
  refine returnsInHanded_of_change_sized (C := Try.checked) own started (by kernel_rfl) Try.func13
    (ChangeSpec.witness6 (enc := enc) (C := Try.checked) false ⟨#[], #[.int .i64 0, .int .i64 0, .int .i64 0], []⟩ 8 (by kernel_rfl) (by kernel_rfl) (by kernel_rfl) (by kernel_rfl)) ?_
  intro W base args ds gs before hval0 hW _ _ _
  have hval : ∀ (j : Nat) t v, Try.f13.params[j]? = some t → args[j]? = some v → Value.okWide Try.prog W .any base t v := hval0
  have hW' := hW
  obtain ⟨p, q, hA0, hV, rfl, hfz, hnd⟩ := hW
  have hA : DataW.TrodAll enc Try.prog W 0 (fun _ => true) true Try.f13.params.toList args.toList ds p := hA0
  rw [Try.params13] at hA hval
  obtain ⟨v0, v1, v2, d0, d1, d2, p0, p1, p2, rfl, rfl, rfl, h0, h1, h2⟩ := trodAll_three hA
  obtain ⟨rfl, rfl⟩ := trodVars_none hV
  obtain ⟨num, rfl, rfl, rfl, _⟩ := open_int Try.underlying3 (hval 0 3 v0 rfl rfl) h0
  obtain ⟨den, rfl, rfl, rfl, _⟩ := open_int Try.underlying3 (hval 1 3 v1 rfl rfl) h1
  obtain ⟨n, rfl, rfl, rfl, _⟩ := open_int Try.underlying3 (hval 2 3 v2 rfl rfl) h2
  refine (walk num den n W).mono fun e W' ⟨he, hb⟩ => ?_
  subst he
  exact ⟨_, rfl, law_post hW' rfl (by kernel_rfl) rfl (by intro t ht; rw [Try.params13] at ht; simp at ht; subst ht; exact ⟨by kernel_rfl, of_decide_eq_true (by kernel_rfl)⟩) hb⟩

theorem holds : Rows.CurveGammaSaid :=
  OpenClaim.holds_of_wide 13 Try.f13 rfl rfl rfl rfl rfl rfl rfl ⟨rfl, rfl, rfl, rfl, rfl⟩ rfl rfl rfl rfl rfl (by kernel_rfl) Try.func13 (by kernel_rfl)
    (of_decide_eq_true (by kernel_rfl)) (by unfold Func.isWrapper; first | (rw [if_pos (by decide +kernel)]; kernel_rfl) | (rw [if_neg (by decide +kernel)]; exact ⟨rfl, rfl⟩))
    (fun os started H enc _ => lifted os started H enc)
end Go.Proofs.Ytdpcciidnkchfaa.LGamma
