/-
  Plain facts on rectangles: what the small rectangles' images, unions and parts are.
-/
import Derived.Test.YtgipfcpkphmbpaaPos
import Derived.Test.YtgipfcpkphmbpaaSt
namespace Go.Proofs.Ytgipfcpkphmbpaa
open Go.RowKit
set_option maxRecDepth 100000
theorem wrap_small {n : Int} (h0 : -2000000 < n) (h1 : n < 2000000) : wrap64 n = n := IntWalk.wrap64_in _ ⟨by omega, by omega⟩
theorem tdiv_bd (x y : Int) (hx : -1000000 < x) (hx' : x < 1000000) : -1000000 < x.tdiv y ∧ x.tdiv y < 1000000 := by
  have h1 := Int.natAbs_tdiv_le_natAbs x y
  omega
theorem tmod_bd (x y : Int) : (0 < y → -y < x.tmod y ∧ x.tmod y < y) ∧ (y < 0 → y < x.tmod y ∧ x.tmod y < -y) := by
  refine ⟨fun h => ⟨Int.lt_tmod_of_pos x h, Int.tmod_lt_of_pos x h⟩, fun h => ?_⟩
  have h1 := Int.lt_tmod_of_pos x (show (0 : Int) < -y by omega)
  have h2 := Int.tmod_lt_of_pos x (show (0 : Int) < -y by omega)
  rw [Int.tmod_neg] at h1 h2
  omega
theorem tmod_sign (x y : Int) : (0 ≤ x → 0 ≤ x.tmod y) ∧ (x ≤ 0 → x.tmod y ≤ 0) := by
  refine ⟨fun h => Int.tmod_nonneg y h, fun h => ?_⟩
  have h1 := Int.tmod_nonneg y (show (0 : Int) ≤ -x by omega)
  rw [Int.neg_tmod] at h1
  omega
theorem flo_case (x y : Int) (hx : -1000000 < x) (hx' : x < 1000000) (hy : y ≠ 0) : flo x y = if x.tmod y ≠ 0 ∧ dif x y = true then x.tdiv y - 1 else x.tdiv y := by
  have h := tdiv_bd x y hx hx'
  unfold flo
  have hw : wrap64 (x.tdiv y) = x.tdiv y := wrap_small (by omega) (by omega)
  rw [if_neg (by simpa using hy), hw]
  by_cases h1 : x.tmod y = 0
  · rw [if_neg (by simp [h1]), if_neg (by simp [h1])]
  · cases h2 : dif x y
    · rw [if_neg (by simp), if_neg (by simp)]
    · rw [if_pos (by simp [h1]), if_pos (by simp [h1]), wrap_small (by omega) (by omega)]
theorem cei_case (x y : Int) (hx : -1000000 < x) (hx' : x < 1000000) (hy : y ≠ 0) : cei x y = if x.tmod y ≠ 0 ∧ dif x y = false then x.tdiv y + 1 else x.tdiv y := by
  have h := tdiv_bd x y hx hx'
  unfold cei
  have hw : wrap64 (x.tdiv y) = x.tdiv y := wrap_small (by omega) (by omega)
  rw [if_neg (by simpa using hy), hw]
  by_cases h1 : x.tmod y = 0
  · rw [if_neg (by simp [h1]), if_neg (by simp [h1])]
  · cases h2 : dif x y
    · rw [if_pos (by simp [h1]), if_pos (by simp [h1]), wrap_small (by omega) (by omega)]
    · rw [if_neg (by simp), if_neg (by simp)]
theorem dif_iff (x y : Int) : dif x y = true ↔ (x < 0 ∧ ¬ y < 0 ∨ ¬ x < 0 ∧ y < 0) := by
  unfold dif
  by_cases h1 : x < 0 <;> by_cases h2 : y < 0 <;> simp [h1, h2]
/-- what Floor leaves: x - f y lies on y's side of 0, and is less than y -/
theorem flo_left (x y : Int) (hx : -1000000 < x) (hx' : x < 1000000) (hy : y ≠ 0) :
    (0 < y → 0 ≤ x - flo x y * y ∧ x - flo x y * y < y) ∧ (y < 0 → 0 ≤ -(x - flo x y * y) ∧ -(x - flo x y * y) < -y) := by
  have h1 := tmod_bd x y
  have h2 := tmod_sign x y
  have h3 := Int.tdiv_mul_add_tmod x y
  have h4 := dif_iff x y
  rw [flo_case x y hx hx' hy]
  split
  · rename_i h; rw [Int.sub_mul]; rw [h4] at h; omega
  · rename_i h
    rw [h4] at h
    generalize x.tdiv y * y = q at *
    omega
theorem cei_left (x y : Int) (hx : -1000000 < x) (hx' : x < 1000000) (hy : y ≠ 0) :
    (0 < y → 0 ≤ cei x y * y - x ∧ cei x y * y - x < y) ∧ (y < 0 → 0 ≤ -(cei x y * y - x) ∧ -(cei x y * y - x) < -y) := by
  have h1 := tmod_bd x y
  have h2 := tmod_sign x y
  have h3 := Int.tdiv_mul_add_tmod x y
  have h4 := dif_iff x y
  rw [cei_case x y hx hx' hy]
  split
  · rename_i h
    have h5 : ¬ dif x y = true := by rw [h.2]; decide
    rw [Int.add_mul]; rw [h4] at h5; omega
  · rename_i h
    have h5 : x.tmod y = 0 ∨ dif x y = true := by
      by_cases h6 : x.tmod y = 0
      · exact .inl h6
      · right; cases h7 : dif x y
        · exact absurd ⟨h6, h7⟩ h
        · rfl
    rw [h4] at h5
    generalize x.tdiv y * y = q at *
    omega
theorem flo_pos (x p : Int) (hx : -1000000 < x) (hx' : x < 1000000) (hp : 0 < p) : flo x p = x / p := by
  have h := (flo_left x p hx hx' (by omega)).1 hp
  have := (Int.ediv_emod_unique (a := x) (b := p) (r := x - flo x p * p) (q := flo x p) hp).2 ⟨by rw [Int.mul_comm]; omega, h.1, h.2⟩
  exact this.1.symm
theorem cei_pos (x p : Int) (hx : -1000000 < x) (hx' : x < 1000000) (hp : 0 < p) : cei x p = -(-x / p) := by
  have h := (cei_left x p hx hx' (by omega)).1 hp
  have := (Int.ediv_emod_unique (a := -x) (b := p) (r := cei x p * p - x) (q := -cei x p) hp).2 ⟨by rw [Int.mul_neg, Int.mul_comm]; omega, h.1, h.2⟩
  have := this.1
  omega

/-- a small rectangle -/
structure Sm (r : Rc) : Prop where
  x0 : -20 ≤ r.x0 ∧ r.x0 ≤ 19
  y0 : -20 ≤ r.y0 ∧ r.y0 ≤ 19
  x1 : r.x0 ≤ r.x1 ∧ r.x1 ≤ r.x0 + 39
  y1 : r.y0 ≤ r.y1 ∧ r.y1 ≤ r.y0 + 39
theorem sml_sm (a b c d : Int) : Sm (sml a b c d) := by
  unfold sml
  exact ⟨⟨by simp only; omega, by simp only; omega⟩, ⟨by simp only; omega, by simp only; omega⟩, ⟨by simp only; omega, by simp only; omega⟩, ⟨by simp only; omega, by simp only; omega⟩⟩
theorem emp_iff (a b c d : Int) : emp a b c d = true ↔ (c ≤ a ∨ d ≤ b) := by unfold emp; simp
theorem emp_not (a b c d : Int) : emp a b c d = false ↔ (a < c ∧ b < d) := by unfold emp; simp
theorem ins_iff (a0 a1 a2 a3 b0 b1 b2 b3 : Int) : ins a0 a1 a2 a3 b0 b1 b2 b3 = true ↔ ((a2 ≤ a0 ∨ a3 ≤ a1) ∨ (b0 ≤ a0 ∧ a2 ≤ b2 ∧ b1 ≤ a1 ∧ a3 ≤ b3)) := by
  unfold ins
  rw [Bool.or_eq_true, emp_iff]
  simp [and_assoc]
theorem has_iff (a b c d x y : Int) : has a b c d x y = true ↔ (a ≤ x ∧ x < c ∧ b ≤ y ∧ y < d) := by unfold has; simp [and_assoc]
theorem eqr_iff (a0 a1 a2 a3 b0 b1 b2 b3 : Int) : eqr a0 a1 a2 a3 b0 b1 b2 b3 = true ↔ ((a0 = b0 ∧ a1 = b1 ∧ a2 = b2 ∧ a3 = b3) ∨ ((a2 ≤ a0 ∨ a3 ≤ a1) ∧ (b2 ≤ b0 ∨ b3 ≤ b1))) := by
  unfold eqr
  rw [Bool.or_eq_true, Bool.and_eq_true, emp_iff, emp_iff]
  simp
theorem nrm_pos {a b c d : Int} (h : a < c ∧ b < d) : nrm a b c d = ⟨a, b, c, d⟩ := by unfold nrm; rw [(emp_not a b c d).2 h]; rfl
theorem nrm_zero {a b c d : Int} (h : c ≤ a ∨ d ≤ b) : nrm a b c d = ⟨0, 0, 0, 0⟩ := by unfold nrm; rw [(emp_iff a b c d).2 h]; rfl

theorem zoom_pw {z : Int} (h0 : 0 ≤ z) (h1 : z ≤ 4) : zok z = true ∧ (pw z = 1 ∨ pw z = 2 ∨ pw z = 4 ∨ pw z = 8 ∨ pw z = 16) := by
  obtain rfl | rfl | rfl | rfl | rfl : z = 0 ∨ z = 1 ∨ z = 2 ∨ z = 3 ∨ z = 4 := by omega
  all_goals (unfold pw wrap64; decide)
theorem scl_zero (a b c d z : Int) (h : c ≤ a ∨ d ≤ b) : scl a b c d z = ⟨0, 0, 0, 0⟩ := by unfold scl; rw [(emp_iff a b c d).2 h]; rfl
theorem shk_zero (a b c d z : Int) (h : c ≤ a ∨ d ≤ b) : shk a b c d z = ⟨0, 0, 0, 0⟩ := by unfold shk; rw [(emp_iff a b c d).2 h]; rfl
theorem scl_pos (a b c d z p : Int) (hz : zok z = true) (hp : pw z = p) (hp1 : 1 ≤ p ∧ p ≤ 16) (h : a < c ∧ b < d) (ha : -10000 ≤ a) (hb : -10000 ≤ b) (hc : c ≤ 10000) (hd : d ≤ 10000) :
    scl a b c d z = ⟨a * p, b * p, c * p, d * p⟩ := by
  have hm : ∀ x : Int, -10000 ≤ x → x ≤ 10000 → wrap64 (x * p) = x * p := fun x h0 h1 => by
    have h2 : x * p ≤ 10000 * 16 := by
      rcases Int.le_total 0 x with h | h
      · have := Int.mul_le_mul h1 hp1.2 (by omega) (by omega); omega
      · have := Int.mul_le_mul_of_nonneg_right h (show (0 : Int) ≤ p by omega); omega
    have h3 : -(10000 * 16) ≤ x * p := by
      rcases Int.le_total 0 x with h | h
      · have := Int.mul_nonneg h (show (0 : Int) ≤ p by omega); omega
      · have h4 := Int.mul_le_mul (show -x ≤ 10000 by omega) hp1.2 (by omega) (by omega)
        rw [Int.neg_mul] at h4; omega
    exact wrap_small (by omega) (by omega)
  unfold scl
  rw [(emp_not a b c d).2 h, hz, hp, hm a ha (by omega), hm b hb (by omega), hm c (by omega) hc, hm d (by omega) hd]
  rfl
theorem shk_pos (a b c d z p : Int) (hz : zok z = true) (hp : pw z = p) (hp1 : 1 ≤ p) (h : a < c ∧ b < d) (ha : -10000 ≤ a) (hb : -10000 ≤ b) (hc : c ≤ 10000) (hd : d ≤ 10000) :
    shk a b c d z = ⟨a / p, b / p, -(-c / p), -(-d / p)⟩ := by
  unfold shk
  rw [(emp_not a b c d).2 h, hz, hp, flo_pos a p (by omega) (by omega) (by omega), flo_pos b p (by omega) (by omega) (by omega), cei_pos c p (by omega) (by omega) (by omega), cei_pos d p (by omega) (by omega) (by omega)]
  rfl

/-- the three facts of RectShrinks -/
theorem shrinks (r c : Rc) (hr : Sm r) (hc : Sm c) (z : Int) (h0 : 0 ≤ z) (h1 : z ≤ 4) :
    ins r.x0 r.y0 r.x1 r.y1 (scl (shk r.x0 r.y0 r.x1 r.y1 z).x0 (shk r.x0 r.y0 r.x1 r.y1 z).y0 (shk r.x0 r.y0 r.x1 r.y1 z).x1 (shk r.x0 r.y0 r.x1 r.y1 z).y1 z).x0
      (scl (shk r.x0 r.y0 r.x1 r.y1 z).x0 (shk r.x0 r.y0 r.x1 r.y1 z).y0 (shk r.x0 r.y0 r.x1 r.y1 z).x1 (shk r.x0 r.y0 r.x1 r.y1 z).y1 z).y0
      (scl (shk r.x0 r.y0 r.x1 r.y1 z).x0 (shk r.x0 r.y0 r.x1 r.y1 z).y0 (shk r.x0 r.y0 r.x1 r.y1 z).x1 (shk r.x0 r.y0 r.x1 r.y1 z).y1 z).x1
      (scl (shk r.x0 r.y0 r.x1 r.y1 z).x0 (shk r.x0 r.y0 r.x1 r.y1 z).y0 (shk r.x0 r.y0 r.x1 r.y1 z).x1 (shk r.x0 r.y0 r.x1 r.y1 z).y1 z).y1 = true ∧
    (ins r.x0 r.y0 r.x1 r.y1 (scl c.x0 c.y0 c.x1 c.y1 z).x0 (scl c.x0 c.y0 c.x1 c.y1 z).y0 (scl c.x0 c.y0 c.x1 c.y1 z).x1 (scl c.x0 c.y0 c.x1 c.y1 z).y1 = true →
      ins (shk r.x0 r.y0 r.x1 r.y1 z).x0 (shk r.x0 r.y0 r.x1 r.y1 z).y0 (shk r.x0 r.y0 r.x1 r.y1 z).x1 (shk r.x0 r.y0 r.x1 r.y1 z).y1 c.x0 c.y0 c.x1 c.y1 = true) ∧
    eqr (shk (scl r.x0 r.y0 r.x1 r.y1 z).x0 (scl r.x0 r.y0 r.x1 r.y1 z).y0 (scl r.x0 r.y0 r.x1 r.y1 z).x1 (scl r.x0 r.y0 r.x1 r.y1 z).y1 z).x0
      (shk (scl r.x0 r.y0 r.x1 r.y1 z).x0 (scl r.x0 r.y0 r.x1 r.y1 z).y0 (scl r.x0 r.y0 r.x1 r.y1 z).x1 (scl r.x0 r.y0 r.x1 r.y1 z).y1 z).y0
      (shk (scl r.x0 r.y0 r.x1 r.y1 z).x0 (scl r.x0 r.y0 r.x1 r.y1 z).y0 (scl r.x0 r.y0 r.x1 r.y1 z).x1 (scl r.x0 r.y0 r.x1 r.y1 z).y1 z).x1
      (shk (scl r.x0 r.y0 r.x1 r.y1 z).x0 (scl r.x0 r.y0 r.x1 r.y1 z).y0 (scl r.x0 r.y0 r.x1 r.y1 z).x1 (scl r.x0 r.y0 r.x1 r.y1 z).y1 z).y1 r.x0 r.y0 r.x1 r.y1 = true := by
  obtain ⟨hz, hpw⟩ := zoom_pw h0 h1
  obtain ⟨⟨r1, r2⟩, ⟨r3, r4⟩, ⟨r5, r6⟩, ⟨r7, r8⟩⟩ := hr
  obtain ⟨⟨c1, c2⟩, ⟨c3, c4⟩, ⟨c5, c6⟩, ⟨c7, c8⟩⟩ := hc
  obtain ⟨x0, y0, x1, y1⟩ := r
  obtain ⟨u0, v0, u1, v1⟩ := c
  simp only at *
  rw [ins_iff, ins_iff, ins_iff, eqr_iff]
  by_cases he : x1 ≤ x0 ∨ y1 ≤ y0
  · refine ⟨.inl he, fun _ => ?_, ?_⟩
    · rw [shk_zero _ _ _ _ _ he]; simp
    · rw [scl_zero _ _ _ _ _ he, shk_zero 0 0 0 0 z (by omega)]; simp only; omega
  · have hne : x0 < x1 ∧ y0 < y1 := by omega
    rcases hpw with hp | hp | hp | hp | hp
    all_goals
      rw [shk_pos x0 y0 x1 y1 z _ hz hp (by omega) hne (by omega) (by omega) (by omega) (by omega)]
      rw [scl_pos x0 y0 x1 y1 z _ hz hp (by omega) hne (by omega) (by omega) (by omega) (by omega)]
      simp only
      rw [scl_pos _ _ _ _ z _ hz hp (by omega) (by omega) (by omega) (by omega) (by omega) (by omega)]
      rw [shk_pos _ _ _ _ z _ hz hp (by omega) (by omega) (by omega) (by omega) (by omega) (by omega)]
      simp only
      refine ⟨by omega, ?_, by omega⟩
      by_cases hce : u1 ≤ u0 ∨ v1 ≤ v0
      · rw [scl_zero _ _ _ _ _ hce]; simp only; omega
      · rw [scl_pos _ _ _ _ z _ hz hp (by omega) (by omega) (by omega) (by omega) (by omega) (by omega)]; simp only; omega
abbrev QB (w : World) (b : Nat) (x0 x1 x2 x3 x4 x5 x6 x7 : Int) : Prop :=
  w.cell? ⟨b, 0, none⟩ = some (.int .i64 x0) ∧ w.cell? ⟨b, 1, none⟩ = some (.int .i64 x1) ∧ w.cell? ⟨b, 2, none⟩ = some (.int .i64 x2) ∧ w.cell? ⟨b, 3, none⟩ = some (.int .i64 x3) ∧ w.cell? ⟨b, 4, none⟩ = some (.int .i64 x4) ∧ w.cell? ⟨b, 5, none⟩ = some (.int .i64 x5) ∧ w.cell? ⟨b, 6, none⟩ = some (.int .i64 x6) ∧ w.cell? ⟨b, 7, none⟩ = some (.int .i64 x7)
theorem St.qb {W w : World} {L : List (Nat × Obj)} (h : St W L w) {b : Nat} {x0 x1 x2 x3 x4 x5 x6 x7 : Int} {t : TypeId} (hm : (b, .cells #[.int .i64 x0, .int .i64 x1, .int .i64 x2, .int .i64 x3, .int .i64 x4, .int .i64 x5, .int .i64 x6, .int .i64 x7] t) ∈ L) : QB w b x0 x1 x2 x3 x4 x5 x6 x7 :=
  ⟨h.cell hm 0, h.cell hm 1, h.cell hm 2, h.cell hm 3, h.cell hm 4, h.cell hm 5, h.cell hm 6, h.cell hm 7⟩
abbrev QC (w : World) (b : Nat) (x0 x1 x2 x3 x4 x5 x6 x7 x8 x9 x10 x11 : Int) : Prop :=
  w.cell? ⟨b, 0, none⟩ = some (.int .i64 x0) ∧ w.cell? ⟨b, 1, none⟩ = some (.int .i64 x1) ∧ w.cell? ⟨b, 2, none⟩ = some (.int .i64 x2) ∧ w.cell? ⟨b, 3, none⟩ = some (.int .i64 x3) ∧ w.cell? ⟨b, 4, none⟩ = some (.int .i64 x4) ∧ w.cell? ⟨b, 5, none⟩ = some (.int .i64 x5) ∧ w.cell? ⟨b, 6, none⟩ = some (.int .i64 x6) ∧ w.cell? ⟨b, 7, none⟩ = some (.int .i64 x7) ∧ w.cell? ⟨b, 8, none⟩ = some (.int .i64 x8) ∧ w.cell? ⟨b, 9, none⟩ = some (.int .i64 x9) ∧ w.cell? ⟨b, 10, none⟩ = some (.int .i64 x10) ∧ w.cell? ⟨b, 11, none⟩ = some (.int .i64 x11)
theorem St.qc {W w : World} {L : List (Nat × Obj)} (h : St W L w) {b : Nat} {x0 x1 x2 x3 x4 x5 x6 x7 x8 x9 x10 x11 : Int} {t : TypeId} (hm : (b, .cells #[.int .i64 x0, .int .i64 x1, .int .i64 x2, .int .i64 x3, .int .i64 x4, .int .i64 x5, .int .i64 x6, .int .i64 x7, .int .i64 x8, .int .i64 x9, .int .i64 x10, .int .i64 x11] t) ∈ L) : QC w b x0 x1 x2 x3 x4 x5 x6 x7 x8 x9 x10 x11 :=
  ⟨h.cell hm 0, h.cell hm 1, h.cell hm 2, h.cell hm 3, h.cell hm 4, h.cell hm 5, h.cell hm 6, h.cell hm 7, h.cell hm 8, h.cell hm 9, h.cell hm 10, h.cell hm 11⟩
end Go.Proofs.Ytgipfcpkphmbpaa
