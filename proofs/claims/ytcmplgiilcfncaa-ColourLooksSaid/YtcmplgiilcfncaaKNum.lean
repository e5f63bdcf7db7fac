/-
  Floor, the clamps, and the colours in plain mathematics.
-/
import Derived.Test.YtcmplgiilcfncaaKMap
import Derived.Laws.BitsAllLaws
import Derived.Lib.MinMax
namespace Go.Proofs.Ytcmplgiilcfncaa.K
open Go.RowKit
variable {W w w' : World} {L : List (Nat × Obj)}

def dif (a b : Int) : Bool := !decide (a < 0) == decide (b < 0)
def flo (a b : Int) : Int := if (b == 0) then 0 else if (a.tmod b != 0) && dif a b then wrap64 (wrap64 (a.tdiv b) - 1) else wrap64 (a.tdiv b)
theorem dif_any (a b : Int) (w : World) : Calls Try.prog 44 #[.int .i64 a, .int .i64 b] w fun e w' => e = .returned (.bool (dif a b)) ∧ w = w' := by
  go_enter Try.func44, Try.ntmps44
  go_wp2
  all_goals go_ret
  all_goals exact ⟨ret_bool (by first | (simp [dif, *]; done) | (simp [dif, *]; omega)), rfl⟩
theorem floor_any (a b : Int) (w : World) : Calls Try.prog 22 #[.int .i64 a, .int .i64 b] w fun e w' => e = .returned (.int .i64 (flo a b)) ∧ w = w' := by
  by_cases hz : b = 0
  · subst hz
    go_enter Try.func22, Try.ntmps22
    go_wp2
    go_ret
    exact ⟨ret_int (by simp [flo]), rfl⟩
  have hz' : (b == 0) = false := by simpa using hz
  by_cases hm : a.tmod b = 0
  · have hm' : (a.tmod b != 0) = false := by simpa using hm
    go_enter Try.func22, Try.ntmps22
    go_wp2
    go_ret
    exact ⟨ret_int (by simp [flo, hz', hm']), rfl⟩
  · have hm' : (a.tmod b != 0) = true := by simpa using hm
    cases hd : dif a b
    all_goals
      go_enter Try.func22, Try.ntmps22
      go_wp2_with (first | (go_at_call 44; (with_reducible refine (dif_any _ _ _).mono ?_); rintro e w' ⟨rfl, rfl⟩))
      go_ret
      exact ⟨ret_int (by simp [flo, hz', hm', hd]), rfl⟩
theorem wrap_in {x : Int} (h : -9223372036854775808 ≤ x ∧ x ≤ 9223372036854775807) : wrap64 x = x := (IntWalk.i64_left _).symm.trans (IntWalk.i64_in _ h)
theorem flo_div {a b : Int} (hb : 2 ≤ b) (h0 : -4611686018427387904 ≤ a) (h1 : a ≤ 4611686018427387904) : flo a b = a / b := by
  have e := Int.tdiv_mul_add_tmod a b
  have e2 := Int.mul_ediv_add_emod a b
  have l1 := Int.emod_nonneg a (b := b) (by omega)
  have l2 := Int.emod_lt_of_pos a (b := b) (by omega)
  have hd : dif a b = decide (a < 0) := by
    unfold dif
    rw [show decide (b < 0) = false by simp; omega]
    by_cases h : a < 0 <;> simp [h]
  have hq : -4611686018427387904 ≤ a.tdiv b ∧ a.tdiv b ≤ 4611686018427387904 := by
    have h := Int.natAbs_tdiv_le_natAbs a b
    omega
  have hw : wrap64 (a.tdiv b) = a.tdiv b := wrap_in (by omega)
  have hs := Int.tdiv_eq_ediv (a := a) (b := b)
  unfold flo
  rw [show (b == 0) = false by simp; omega, hd, hw, if_neg (by simp)]
  by_cases ha : a < 0
  · by_cases hm : a.tmod b = 0
    · rw [if_neg (by simp [hm]), hs, if_pos (.inr (Int.dvd_of_tmod_eq_zero hm))]; simp
    · have hn : ¬ (0 ≤ a ∨ b ∣ a) := by
        intro h
        rcases h with h | h
        · omega
        · exact hm (Int.tmod_eq_zero_of_dvd h)
      rw [if_neg hn, Int.sign_eq_one_of_pos (by omega)] at hs
      rw [if_pos (by simp [hm, ha]), hs]
      have h2 : a / b + 1 - 1 = a / b := by omega
      rw [h2]
      exact wrap_in (by omega)
  · rw [if_neg (by simp; omega), Int.tdiv_eq_ediv_of_nonneg (by omega)]

/-- a colour -/
structure C3 where (r g b : Int)
abbrev C3.v (c : C3) : Value := ag c.r c.g c.b
abbrev C3.map (f : Int → Int) (c : C3) : C3 := ⟨f c.r, f c.g, f c.b⟩
def clp (lo hi v : Int) : Int := min (max v lo) hi
def Gm (v : Int) : Prop := 0 ≤ v ∧ v ≤ 65535
def InG (c : C3) : Prop := Gm c.r ∧ Gm c.g ∧ Gm c.b
def gmt (c : C3) : C3 := c.map (clp 0 65535)
def bnd (c : C3) : C3 := c.map (clp (-16777216) 16777216)
def gm (v : Int) : Bool := clp 0 65535 v == v
def ing (c : C3) : Bool := gm c.r && gm c.g && gm c.b
/-- the block b holds a colour from off on -/
abbrev CB3 (w : World) (b off : Nat) (c : C3) : Prop := w.cell? ⟨b, off, none⟩ = some (.int .i64 c.r) ∧ w.cell? ⟨b, off + 1, none⟩ = some (.int .i64 c.g) ∧ w.cell? ⟨b, off + 2, none⟩ = some (.int .i64 c.b)
/-- a matrix, a space -/
structure M9 where (m0 m1 m2 m3 m4 m5 m6 m7 m8 : Int)
structure Sp where
  (v0 v1 v2 : Value)
  (mt mf : M9)
abbrev M9.v (m : M9) : Value := .agg #[.int .i64 m.m0, .int .i64 m.m1, .int .i64 m.m2, .int .i64 m.m3, .int .i64 m.m4, .int .i64 m.m5, .int .i64 m.m6, .int .i64 m.m7, .int .i64 m.m8]
abbrev Sp.v (s : Sp) : Value := .agg #[s.v0, s.v1, s.v2, .int .i64 s.mt.m0, .int .i64 s.mt.m1, .int .i64 s.mt.m2, .int .i64 s.mt.m3, .int .i64 s.mt.m4, .int .i64 s.mt.m5, .int .i64 s.mt.m6, .int .i64 s.mt.m7, .int .i64 s.mt.m8, .int .i64 s.mf.m0, .int .i64 s.mf.m1, .int .i64 s.mf.m2, .int .i64 s.mf.m3, .int .i64 s.mf.m4, .int .i64 s.mf.m5, .int .i64 s.mf.m6, .int .i64 s.mf.m7, .int .i64 s.mf.m8]
theorem gm_iff (v : Int) : gm v = true ↔ Gm v := by unfold gm Gm clp; simp; omega
theorem ing_iff (c : C3) : ing c = true ↔ InG c := by unfold ing InG; simp [gm_iff, and_assoc]
theorem gmt_in (c : C3) : InG (gmt c) := by unfold InG gmt Gm clp; simp only; omega
theorem gmt_id {c : C3} (h : InG c) : gmt c = c := by
  obtain ⟨h1, h2, h3⟩ := h
  unfold Gm at *
  cases c
  simp only [gmt, clp, C3.mk.injEq] at *
  refine ⟨?_, ?_, ?_⟩ <;> omega
theorem clamp1_any (lo hi v : Int) (k : Int) (b1 b2 : Nat) (w : World) (h1 : w.cell? ⟨b1, 0, none⟩ = some (.int .i64 lo)) (h2 : w.cell? ⟨b2, 0, none⟩ = some (.int .i64 hi)) :
    Calls Try.prog 43 #[.int .i64 k, .int .i64 v, .pointer (some ⟨b1, 0, none⟩), .pointer (some ⟨b2, 0, none⟩)] w fun e w' => e = .returned (.int .i64 (clp lo hi v)) ∧ Below w.heap.size w w' := by
  unfold clp
  go_enter Try.func43, Try.ntmps43
  go_wp2
  go_ret
  exact ⟨rfl, Below.refl _ _⟩
set_option maxHeartbeats 1000000 in
theorem clampC_any (lo hi : Int) (c0 c1 c2 : Int) (w : World) : Calls Try.prog 20 #[ag c0 c1 c2, .int .i64 lo, .int .i64 hi] w fun e w' => e = .returned (ag (clp lo hi c0) (clp lo hi c1) (clp lo hi c2)) ∧ Below w.heap.size w w' := by
  go_enter Try.func20, Try.ntmps20
  go_upto_region 1 with fail
  have hs := ((((St.start w).alloc (ac c0 c1 c2)).alloc (vo (.int .i64 lo) 3)).alloc (vo (.int .i64 hi) 3)).alloc (ac 0 0 0)
  simp only [World.size_alloc] at hs
  generalize (((w.alloc (ac c0 c1 c2)).alloc (vo (.int .i64 lo) 3)).alloc (vo (.int .i64 hi) 3)).alloc (ac 0 0 0) = w1 at hs ⊢
  generalize hb : w.heap.size = b at hs ⊢
  obtain ⟨l0, l1, l2⟩ := hs.col (b := b) (x := c0) (y := c1) (z := c2) (t := 25) (by simp)
  have HM : Hid (∀ k v V, Below w1.heap.size w1 V → Calls Try.prog 43 (#[.int .i64 k, .int .i64 v] ++ #[.pointer (some ⟨b + 1, 0, none⟩), .pointer (some ⟨b + 1 + 1, 0, none⟩)]) V fun e w' => e = .returned (.int .i64 (clp lo hi v)) ∧ Below V.heap.size V w') := fun k v V hV => by
    have h := hs.later hV
    exact clamp1_any lo hi v k _ _ V (h.var (t := 3) (by simp)) (h.var (t := 3) (by simp))
  have HR : Hid (∀ V, Below w1.heap.size w1 V → CB V (b + 1 + 1 + 1) 0 0 0 ∧ (V.frozen? ⟨b + 1 + 1 + 1, 0, none⟩ = false ∧ V.frozen? ⟨b + 1 + 1 + 1, 1, none⟩ = false ∧ V.frozen? ⟨b + 1 + 1 + 1, 2, none⟩ = false) ∧ Below w.heap.size w V) := fun V hV => by
    have h := hs.later hV
    exact ⟨h.col (t := 25) (by simp), h.fro (t := 25) (cs := #[.int .i64 0, .int .i64 0, .int .i64 0]) (by simp), h.below⟩
  clear hs
  go_wp2_with (go_at_call 24; (refine (map_any 43 _ c0 c1 c2 _ _ _ w1 (enters_of Try.func43 (by kernel_rfl) rfl) (fun V hV => HM.out _ _ V hV) (fun V hV => HM.out _ _ V hV) (fun V hV => HM.out _ _ V hV)).mono ?_); rintro e w2 ⟨rfl, h2⟩; obtain ⟨⟨m0, m1, m2⟩, ⟨f0, f1, f2⟩, h3⟩ := HR.out _ h2)
  exact bodyPost_ret (v := ag (clp lo hi c0) (clp lo hi c1) (clp lo hi c2)) (by simp [results, Try.results20, go_sem, *]) rfl ⟨rfl, below_set3 h3 (by omega) _ _ _⟩
end Go.Proofs.Ytcmplgiilcfncaa.K
