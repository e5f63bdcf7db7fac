/-
  The document's examples, as the statements ask them.
-/
import Derived.Test.YtgdcjpnmalnmbaaRefGamma
import Derived.Test.YtgdcjpnmalnmbaaMade
namespace Go.Proofs.Ytgdcjpnmalnmbaa
open Go.RowKit
variable {w : World}

instance (c : List Int) : Decidable (Asc c) := decidable_of_iff (∀ i, i < c.length - 1 → cg c i ≤ cg c (i + 1)) ⟨fun h i hi => h i (by omega), fun h i hi => h i (by omega)⟩
theorem cv_of {c : List Int} (h : decide ((2 ≤ c.length ∧ c.length ≤ 257) ∧ Asc c ∧ 0 ≤ cg c 0 ∧ cg c (c.length - 1) ≤ 65535) = true) : Cv c := by
  obtain ⟨h1, h2⟩ := of_decide_eq_true h
  exact (cv_iff c).2 ⟨(vc_iff _).2 (by omega), h2⟩
theorem cv1 : Cv [0, 65535] := cv_of (by decide)
theorem cv2 : Cv [0, 0, 65535] := cv_of (by decide)
theorem cv3 : Cv [10, 20] := cv_of (by decide)
theorem cv4 : Cv [0, 16383, 65535] := cv_of (by decide)
theorem ex1 : val [0, 65535] 1000 = 1000 := by decide
theorem ex2 : val [0, 0, 65535] 49151 = 32767 := by decide
theorem ex3 : lineL 3 = [0, 32768, 65535] := by decide
theorem ex4 : sol [10, 20] 15 = 29491 := by
  have h1 := (sol_gal cv3 15 (x := 29491) (by omega)).1 (by decide)
  have h2 : ¬ sol [10, 20] 15 ≤ 29490 := fun h => absurd ((sol_gal cv3 15 (x := 29490) (by omega)).2 h) (by decide)
  omega
theorem ex5 : gamL 2 1 3 = [0, 16383, 65535] := by
  have g0 : gam 2 1 3 0 = 0 := gam_eq (by omega) (by omega) (by decide) (fun _ => by decide)
  have g1 : gam 2 1 3 1 = 16383 := gam_eq (by omega) (by omega) (by decide) (fun _ => by decide)
  have g2 : gam 2 1 3 2 = 65535 := gam_eq (by omega) (by omega) (by decide) (fun h => by omega)
  show [((gam 2 1 3 0 : Nat) : Int), ((gam 2 1 3 1 : Nat) : Int), ((gam 2 1 3 2 : Nat) : Int)] = _
  rw [g0, g1, g2]; rfl
theorem at_lit (c : List Int) (v : Value) (x : Nat) (z : Int) (w : World) (hc : Cm w v c) (hv : Cv c) (hx : x ≤ 65535) (hz : val c x = z) :
    Calls Try.prog 13 #[v, .int .i64 x] w fun e w' => e = .returned (.int .i64 z) ∧ Below w.heap.size w w' := by
  have h := at_any c v true x w hc (by simp [hv])
  have e : atv true c x = z := by unfold atv; rw [if_pos rfl, clp_nat hx, hz]
  rw [e] at h; exact h
theorem same_lit (a : List Int) (u v : Value) (w : World) (ha : Cm w u a) (hb : Cm w v a) : Calls Try.prog 29 #[u, v] w fun e w' => e = .returned (.bool true) ∧ Below w.heap.size w w' :=
  same_any a a u v true w ha hb (by simp)

theorem sane_solve (V : World) (v : Value) (hv : Cm V v [10, 20]) : Calls Try.prog 27 #[v, .int .i64 15] V fun e w' => e = .returned (.tuple #[.int .i64 29491, .bool true]) ∧ Below V.heap.size V w' := by
  have h := solve_any [10, 20] v true 15 V hv (by simp [cv3])
  have e1 : slv true [10, 20] 15 = 29491 := by unfold slv; rw [ex4]; decide
  have e2 : slk true [10, 20] 15 = true := by unfold slk; rw [ex4]; decide
  rw [e1, e2] at h; exact h
theorem sane_gamma (V : World) : Calls Try.prog 28 #[.int .i64 2, .int .i64 1, .int .i64 3] V (GotE [0, 16383, 65535] 0 V) := by
  have h := gamma_any 2 1 3 V
  have hg : gok 2 1 3 = true := by decide
  rw [if_pos hg, if_pos hg] at h
  have e : gamL (2 : Int).toNat (1 : Int).toNat (3 : Int).toNat = [0, 16383, 65535] := ex5
  rw [e] at h; exact h
theorem sane_gamma9 (V : World) : Calls Try.prog 28 #[.int .i64 9, .int .i64 1, .int .i64 3] V (GotE [] 1 V) := by
  have h := gamma_any 9 1 3 V
  have hg : ¬ gok 9 1 3 = true := by decide
  rw [if_neg hg, if_neg hg] at h; exact h
theorem sane_at1 (V : World) (v : Value) (hv : Cm V v [0, 65535]) : Calls Try.prog 13 #[v, .int .i64 1000] V fun e w' => e = .returned (.int .i64 1000) ∧ Below V.heap.size V w' := at_lit _ v 1000 1000 V hv cv1 (by omega) ex1
theorem sane_at2 (V : World) (v : Value) (hv : Cm V v [0, 0, 65535]) : Calls Try.prog 13 #[v, .int .i64 49151] V fun e w' => e = .returned (.int .i64 32767) ∧ Below V.heap.size V w' := at_lit _ v 49151 32767 V hv cv2 (by omega) ex2
theorem sane_line (V : World) : Calls Try.prog 12 #[.int .i64 3] V (GotC [0, 32768, 65535] V) := by
  have h := line_any 3 V
  rw [ex3] at h; exact h
theorem sane_valid (V : World) (v : Value) (hv : Cm V v [0, 16383, 65535]) : Calls Try.prog 30 #[v] V fun e w' => e = .returned (.bool true) ∧ Below V.heap.size V w' := valid_any _ v true V hv (by simp [cv4])
theorem sane_nil (V : World) : Calls Try.prog 30 #[.slice none 0 0] V fun e w' => e = .returned (.bool false) ∧ Below V.heap.size V w' := valid_any [] _ false V (cm_nil V) (by
  constructor
  · intro h; cases h
  · intro h; have := h.two; simp at this)
theorem cm_two (w : World) (a b : Int) : Cm (w.alloc (.cells #[.int .i64 a, .int .i64 b] 3)) (.slice (some ⟨w.heap.size, 0, none⟩) 2 2) [a, b] := cm_lit w [a, b] 2 rfl (by omega) _ rfl
theorem cm_three (w : World) (a b c : Int) : Cm (w.alloc (.cells #[.int .i64 a, .int .i64 b, .int .i64 c] 3)) (.slice (some ⟨w.heap.size, 0, none⟩) 3 3) [a, b, c] := cm_lit w [a, b, c] 3 rfl (by omega) _ rfl
theorem below_lit {w w1 w2 : World} {o : Obj} {n : Nat} (h : Below n w w1) (hn : n ≤ w1.heap.size) (hb : Below (w1.alloc o).heap.size (w1.alloc o) w2) : Below n w w2 := (h.alloc hn o).trans (hb.mono (by simp; omega))
set_option maxRecDepth 100000 in
set_option maxHeartbeats 4000000 in
theorem sane_any (w : World) : Calls Try.prog 9 #[] w fun e w' => e = .returned (.bool true) ∧ Below w.heap.size w w' := by
  go_enter Try.func9, Try.ntmps9
  go_upto_region 2 with (go_at_call 27; (with_reducible refine (sane_solve _ _ (cm_two _ _ _)).mono ?_); rintro e w1 ⟨rfl, hb⟩; have B1 : Hid (Below w.heap.size w w1) := below_lit (Below.refl _ _) (Nat.le_refl _) hb; clear hb)
  go_upto_region 3 with (go_at_call 28; (with_reducible refine (sane_gamma _).mono ?_); rintro e w2 ⟨p2, n2, c2, rfl, hc, hb⟩; have C2 := Lib.hid hc; have B2 : Hid (Below w.heap.size w w2) := B1.out.trans (hb.mono B1.out.size); clear hb hc)
  clear B1
  go_upto_region 4 with (go_at_call 28; (with_reducible refine (sane_gamma9 _).mono ?_); rintro e w3 ⟨p3, n3, c3, rfl, hc, hb⟩; have C3 : Hid (Cm w3 (.slice p2 n2 c2) [0, 16383, 65535]) := C2.out.later hb; have B3 : Hid (Below w.heap.size w w3) := B2.out.trans (hb.mono B2.out.size); clear hb hc)
  clear C2 B2
  have B0 : Hid (Below w3.heap.size w3 w3) := Below.refl _ _
  go_wp2_with (first
    | (go_at_call 13; (with_reducible refine (sane_at1 _ _ (cm_two _ _ _)).mono ?_); rintro e w4 ⟨rfl, hb⟩; have B4 : Hid (Below w3.heap.size w3 w4) := below_lit B0.out B0.out.size hb; clear hb)
    | (go_at_call 13; (with_reducible refine (sane_at2 _ _ (cm_three _ _ _ _)).mono ?_); rintro e w5 ⟨rfl, hb⟩; have B5 : Hid (Below w3.heap.size w3 w5) := below_lit B4.out B4.out.size hb; clear hb)
    | (go_at_call 12; (with_reducible refine (sane_line _).mono ?_); rintro e w6 ⟨p6, n6, c6, rfl, hc, hb⟩; have C6 := Lib.hid hc; have B6 : Hid (Below w3.heap.size w3 w6) := B5.out.trans (hb.mono B5.out.size); clear hb hc)
    | (go_at_call 29; (with_reducible refine (same_lit _ _ _ _ (C6.out.later below1) (cm_three _ _ _ _)).mono ?_); rintro e w7 ⟨rfl, hb⟩; have B7 : Hid (Below w3.heap.size w3 w7) := below_lit B6.out B6.out.size hb; have C7 := Lib.hid (C3.out.later B7.out); clear hb C6)
    | (go_at_call 29; (with_reducible refine (same_lit _ _ _ _ (C7.out.later below1) (cm_three _ _ _ _)).mono ?_); rintro e w8 ⟨rfl, hb⟩; have B8 : Hid (Below w3.heap.size w3 w8) := below_lit B7.out B7.out.size hb; have C8 := Lib.hid (C3.out.later B8.out); clear hb C7)
    | (go_at_call 30; (with_reducible refine (sane_valid _ _ C8.out).mono ?_); rintro e w9 ⟨rfl, hb⟩; have B9 : Hid (Below w3.heap.size w3 w9) := B8.out.trans (hb.mono B8.out.size); clear hb C8)
    | (go_at_call 30; (with_reducible refine (sane_nil _).mono ?_); rintro e w10 ⟨rfl, hb⟩; have B10 : Hid (Below w3.heap.size w3 w10) := B9.out.trans (hb.mono B9.out.size); clear hb))
  go_ret
  exact ⟨rfl, B3.out.trans (B10.out.mono B3.out.size)⟩
end Go.Proofs.Ytgdcjpnmalnmbaa
