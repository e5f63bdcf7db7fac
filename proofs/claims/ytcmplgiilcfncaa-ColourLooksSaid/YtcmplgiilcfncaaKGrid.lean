/-
  Whether a grid is valid.
-/
import Derived.Test.YtcmplgiilcfncaaKSample
namespace Go.Proofs.Ytcmplgiilcfncaa.K
open Go.RowKit
variable {W w w' : World} {L : List (Nat × Obj)}

def sideb (n : Int) : Bool := decide (2 ≤ n) && decide (n ≤ 17)
theorem side_any (n : Int) (w : World) : Calls Try.prog 17 #[.int .i64 n] w fun e w' => e = .returned (.bool (sideb n)) ∧ w = w' := by
  go_enter Try.func17, Try.ntmps17
  go_wp2
  all_goals go_ret
  all_goals exact ⟨ret_bool (by first | (simp [sideb, *]; done) | (simp [sideb, *]; omega)), rfl⟩
theorem side_iff (n : Int) : sideb n = true ↔ 2 ≤ n ∧ n ≤ 17 := by simp [sideb]
theorem grid1_any (c0 c1 c2 : Int) (w : World) : Calls Try.prog 29 (#[ag c0 c1 c2] ++ #[]) w fun e w' => e = .returned (.bool (!ing ⟨c0, c1, c2⟩)) ∧ Below w.heap.size w w' := by
  have HG : Hid (∀ V, Calls Try.prog 21 #[ag c0 c1 c2] V fun e w' => e = .returned (.bool (ing ⟨c0, c1, c2⟩)) ∧ Below V.heap.size V w') := fun V => inG_any c0 c1 c2 V
  generalize ing ⟨c0, c1, c2⟩ = r at HG ⊢
  have key : Calls Try.prog 29 #[ag c0 c1 c2] w fun e w' => e = .returned (.bool (!r)) ∧ Below w.heap.size w w' := by
    go_enter Try.func29, Try.ntmps29
    go_upto_region 1 with fail
    have hs := (St.start w).alloc (ac c0 c1 c2)
    generalize w.alloc (ac c0 c1 c2) = w1 at hs ⊢
    obtain ⟨l0, l1, l2⟩ := hs.col (b := w.heap.size) (x := c0) (y := c1) (z := c2) (t := 25) (by simp)
    have HS := Lib.hid hs; clear hs
    go_wp2_with (go_at_call 21; (refine (HG.out _).mono ?_); rintro e w2 ⟨rfl, h2⟩; have k2 := HS.out.later h2)
    go_ret
    exact ⟨rfl, k2.below⟩
  exact key
/-- a valid grid of n points a side -/
structure GV (n : Nat) (l : List C3) : Prop where
  two : 2 ≤ n
  max : n ≤ 17
  len : l.length = n * n * n
  gam : ∀ i, i < l.length → InG (c3n l i)
abbrev gob (n : Int) (v : Value) : Obj := .cells #[.int .i64 n, v] 30
abbrev gv (n : Int) (v : Value) : Value := .agg #[.int .i64 n, v]
theorem cube_of {n : Nat} (hn : n ≤ 17) : ∃ m2 m3 : Nat, m3 = n * n * n ∧ IntKind.i64.wrap ((n : Int) * n) = m2 ∧ IntKind.i64.wrap ((m2 : Int) * n) = m3 ∧ wrap64 ((n : Int) * n) = m2 ∧ wrap64 ((m2 : Int) * n) = m3 := by
  have hb2 : n * n ≤ 17 * 17 := Nat.mul_le_mul hn hn
  have hb3 : n * n * n ≤ 17 * 17 * 17 := Nat.mul_le_mul hb2 hn
  have i2 : (n : Int) * n = (n * n : Nat) := by simp
  have i3 : ((n * n : Nat) : Int) * n = (n * n * n : Nat) := by simp
  have g2 : IntKind.i64.wrap ((n : Int) * n) = (n * n : Nat) := by rw [i2]; exact wr_in (by omega)
  have g3 : IntKind.i64.wrap (((n * n : Nat) : Int) * n) = (n * n * n : Nat) := by rw [i3]; exact wr_in (by omega)
  exact ⟨n * n, n * n * n, rfl, g2, g3, (IntWalk.i64_left _).symm.trans g2, (IntWalk.i64_left _).symm.trans g3⟩
set_option maxRecDepth 100000 in
set_option maxHeartbeats 4000000 in
theorem gridv_any (n : Int) (v : Value) (l : List C3) (r : Bool) (w : World) (hc : Cls w v l) (hl : l.length ≤ 1000000000) (hr : r = true ↔ ∃ m : Nat, n = m ∧ GV m l) :
    Calls Try.prog 12 #[gv n v] w fun e w' => e = .returned (.bool r) ∧ Below w.heap.size w w' := by
  obtain ⟨N, hN⟩ : ∃ N, l.length = N := ⟨_, rfl⟩
  have hcl := hc
  obtain ⟨po, cap, rfl, _, _, hrow⟩ := hc
  rw [hN] at hrow hcl hl ⊢
  have hs := (St.start w).alloc (gob n (.slice po N cap))
  have c0 := hs.cell (b := w.heap.size) (cs := #[.int .i64 n, .slice po N cap]) (t := 30) (by simp) 0
  have c1 := hs.cell (b := w.heap.size) (cs := #[.int .i64 n, .slice po N cap]) (t := 30) (by simp) 1
  simp only [pair0, pair1] at c0 c1
  cases hsd : sideb n
  · have HD : Hid (∀ V, Calls Try.prog 17 #[.int .i64 n] V fun e w' => e = .returned (.bool false) ∧ V = w') := fun V => hsd ▸ side_any n V
    obtain rfl : r = false := by
      cases r with
      | false => rfl
      | true =>
        obtain ⟨m, rfl, h⟩ := hr.1 rfl
        have := (side_iff (m : Int)).2 ⟨by have := h.two; omega, by have := h.max; omega⟩
        rw [hsd] at this; cases this
    clear hr hsd hrow hcl
    go_enter Try.func12, Try.ntmps12
    go_upto_region 1 with fail
    generalize w.alloc (gob n (.slice po N cap)) = w1 at hs c0 c1 ⊢
    go_wp2_with (go_at_call 17; (refine (HD.out _).mono ?_); rintro e w2 ⟨rfl, rfl⟩)
    go_ret
    exact ⟨rfl, hs.below⟩
  · have HD : Hid (∀ V, Calls Try.prog 17 #[.int .i64 n] V fun e w' => e = .returned (.bool true) ∧ V = w') := fun V => hsd ▸ side_any n V
    obtain ⟨h2, h17⟩ := (side_iff n).1 hsd
    obtain ⟨m, rfl⟩ : ∃ m : Nat, n = m := ⟨n.toNat, by omega⟩
    obtain ⟨m2, m3, hm3, g2, g3, g4, g5⟩ := cube_of (n := m) (by omega)
    have HM3 := Lib.hid hm3
    have hm3p : 0 < m3 := by
      rw [hm3]; exact Nat.mul_pos (Nat.mul_pos (by omega) (by omega)) (by omega)
    clear hm3
    by_cases hlen : N = m3
    · have e1 : ((N : Int) == m3) = true := by simp; omega
      obtain ⟨bl, ol, rfl, hrw⟩ := hrow (by omega)
      have hx : (!r) = true ↔ ∃ i, i < N ∧ (!ing (c3n l i)) = true := not_all hr ⟨fun ⟨m', e, h⟩ i hi => (ing_iff _).2 (h.gam i (by omega)), fun h => ⟨m, rfl, ⟨by omega, by omega, by rw [hN, hlen, HM3.out], fun i hi => (ing_iff _).1 (h i (by omega))⟩⟩⟩
      have HI : Hid (∀ V, Below w.heap.size w V → Calls Try.prog 30 #[.slice (some ⟨bl, ol, none⟩) N cap, .func (.func 29) #[] #[]] V fun e w' => e = .returned (.bool (!r)) ∧ Below V.heap.size V w') := fun V hV =>
        containsC_any 29 #[] (c3n l) (fun i => !ing (c3n l i)) (!r) bl ol N cap V (enters_of Try.func29 (by kernel_rfl) rfl) (by omega)
          (fun X hX i hi => ((hrw.later hV).later hX).at' i (by omega)) (fun X hX i hi => grid1_any _ _ _ X) hx
      clear hx hr hsd hrw hrow hcl hm3p h2 h17 hlen
      go_enter Try.func12, Try.ntmps12
      go_upto_region 1 with fail
      generalize w.alloc (gob m (.slice (some ⟨bl, ol, none⟩) N cap)) = w1 at hs c0 c1 ⊢
      have HI2 := Lib.hid (HI.out _ hs.below)
      have HS := Lib.hid hs
      clear HI hs
      go_wp2_with (first
        | (go_at_call 17; (refine (HD.out _).mono ?_); rintro e w2 ⟨rfl, rfl⟩)
        | (go_at_call 30; (refine HI2.out.mono ?_); rintro e w3 ⟨rfl, h3⟩; have k3 := HS.out.later h3))
      go_ret
      exact ⟨ret_bool (by simp), k3.below⟩
    · have e1 : ((N : Int) == m3) = false := by simp; omega
      obtain rfl : r = false := by
        cases r with
        | false => rfl
        | true =>
          obtain ⟨m', e, h⟩ := hr.1 rfl
          obtain rfl : m = m' := by omega
          exact absurd (hN ▸ h.len) (by rw [← HM3.out]; exact hlen)
      clear hr hsd hrow hcl hm3p h2 h17 hlen
      go_enter Try.func12, Try.ntmps12
      go_upto_region 1 with fail
      generalize w.alloc (gob m (.slice po N cap)) = w1 at hs c0 c1 ⊢
      go_wp2_with (go_at_call 17; (refine (HD.out _).mono ?_); rintro e w2 ⟨rfl, rfl⟩)
      go_ret
      exact ⟨rfl, hs.below⟩
end Go.Proofs.Ytcmplgiilcfncaa.K
