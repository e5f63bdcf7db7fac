/-
  Rounding down, and the source of a pixel as plain numbers.
-/
import Derived.Test.YtgipfcpkphmbpaaAOps
import Derived.Test.YtgipfcpkphmbpaaAWrap
namespace Go.Proofs.Ytgipfcpkphmbpaa.F
open Go.RowKit
set_option maxRecDepth 100000

/-- n / d rounded down -/
def fl (n d : Int) : Int := if d < 0 then (-n) / (-d) else n / d
theorem ediv_uniq {n d q : Int} (hd : 0 < d) (h1 : d * q ≤ n) (h2 : n < d * q + d) : n / d = q := by
  apply Int.le_antisymm
  · apply Int.le_of_lt_add_one
    apply Int.ediv_lt_of_lt_mul hd
    rw [Int.add_mul, Int.one_mul, Int.mul_comm q d]; exact h2
  · apply Int.le_ediv_of_mul_le hd
    rw [Int.mul_comm]; exact h1
theorem fl_pos {n d q : Int} (hd : 0 < d) : fl n d = q ↔ d * q ≤ n ∧ n < d * q + d := by
  unfold fl; rw [if_neg (by omega)]
  constructor
  · intro h; subst h
    have h1 := Int.mul_ediv_self_le (x := n) (k := d) (by omega)
    have h2 := Int.lt_mul_ediv_self_add (x := n) hd
    exact ⟨h1, h2⟩
  · intro ⟨h1, h2⟩; exact ediv_uniq hd h1 h2
theorem fl_neg {n d : Int} (hd : d ≠ 0) : fl (-n) (-d) = fl n d := by
  unfold fl
  rcases Int.lt_or_gt_of_ne hd with h | h
  · rw [if_neg (by omega), if_pos h]
  · rw [if_pos (by omega), if_neg (by omega), Int.neg_neg, Int.neg_neg]
theorem tdiv_rem (n d : Int) : d * n.tdiv d + n.tmod d = n := Int.mul_tdiv_add_tmod n d
theorem flo_fl {n d : Int} (hd : d ≠ 0) (hn : -1000000000000000000 ≤ n ∧ n ≤ 1000000000000000000) : flo n d = fl n d ∧ (-1000000000000000001 ≤ fl n d ∧ fl n d ≤ 1000000000000000001) := by
  have hz : (d == 0) = false := by simpa using hd
  have h0 := tdiv_rem n d
  have hb := tmod_bd n d
  have hs := tmod_sign n d
  have hq : -1000000000000000000 ≤ n.tdiv d ∧ n.tdiv d ≤ 1000000000000000000 := by
    have := Int.natAbs_tdiv_le_natAbs n d
    omega
  have key : flo n d = if n.tmod d ≠ 0 ∧ dif n d = true then n.tdiv d - 1 else n.tdiv d := by
    unfold flo
    rw [hz]
    simp only [Bool.false_eq_true, if_false, Bool.and_eq_true, bne_iff_ne]
    split
    · rw [w64 (x := n.tdiv d) ⟨by omega, by omega⟩, w64 ⟨by omega, by omega⟩]
    · rw [w64 (x := n.tdiv d) ⟨by omega, by omega⟩]
  have hres : fl n d = if n.tmod d ≠ 0 ∧ dif n d = true then n.tdiv d - 1 else n.tdiv d := by
    rcases Int.lt_or_gt_of_ne hd with h | h
    · rw [← fl_neg hd, fl_pos (by omega)]
      have := hb.2 h
      split
      case isTrue hc =>
        have hc2 := (dif_iff n d).1 hc.2
        have : -d * (n.tdiv d - 1) = -(d * n.tdiv d) + d := by rw [Int.mul_sub, Int.neg_mul]; omega
        rw [this]; generalize d * n.tdiv d = p at *; omega
      case isFalse hc =>
        have hc2 : n.tmod d = 0 ∨ ¬ (n < 0 ∧ ¬ d < 0 ∨ ¬ n < 0 ∧ d < 0) := by
          by_cases hm : n.tmod d = 0
          · exact .inl hm
          · exact .inr fun hx => hc ⟨hm, (dif_iff n d).2 hx⟩
        rw [Int.neg_mul]; generalize d * n.tdiv d = p at *; omega
    · rw [fl_pos h]
      have := hb.1 h
      split
      case isTrue hc =>
        have hc2 := (dif_iff n d).1 hc.2
        have : d * (n.tdiv d - 1) = d * n.tdiv d - d := by rw [Int.mul_sub]; omega
        rw [this]; generalize d * n.tdiv d = p at *; omega
      case isFalse hc =>
        have hc2 : n.tmod d = 0 ∨ ¬ (n < 0 ∧ ¬ d < 0 ∨ ¬ n < 0 ∧ d < 0) := by
          by_cases hm : n.tmod d = 0
          · exact .inl hm
          · exact .inr fun hx => hc ⟨hm, (dif_iff n d).2 hx⟩
        generalize d * n.tdiv d = p at *; omega
  rw [key, hres]
  refine ⟨rfl, ?_⟩
  split <;> omega
theorem floorA_any (a b : Int) (w : World) (hz : b ≠ 0) : Calls Try.prog 72 #[.int .i64 a, .int .i64 b] w fun e w' => e = .returned (.int .i64 (flo a b)) ∧ w = w' := by
  have hz' : (b == 0) = false := by simpa using hz
  by_cases hm : a.tmod b = 0
  · have hm' : (a.tmod b != 0) = false := by simpa using hm
    go_enter Try.func72, Try.ntmps72
    go_wp2
    go_ret
    exact ⟨ret_int (by simp [flo, hz', hm']), rfl⟩
  · have hm' : (a.tmod b != 0) = true := by simpa using hm
    by_cases ha : a < 0
    all_goals by_cases hb : b < 0
    all_goals
      first
      | (have ha' : (a < 0) = False := by simpa using ha)
      | skip
      first
      | (have hb' : (b < 0) = False := by simpa using hb)
      | skip
      go_enter Try.func72, Try.ntmps72
      go_wp2
      all_goals go_ret
      all_goals first | (exfalso; refine hm ?_; rw [Int.tmod_eq_emod_of_nonneg (by omega)]; assumption) | exact ⟨ret_int (by simp [flo, dif, *]), rfl⟩
/-- the source of pixel (x, y), before it is rounded down: its numerators over twice the determinant -/
def nx (a : Af) (x y : Int) : Int := a.e * (a.n * (2 * x + 1) - 2 * a.c) - a.b * (a.n * (2 * y + 1) - 2 * a.f)
def ny (a : Af) (x y : Int) : Int := a.a * (a.n * (2 * y + 1) - 2 * a.f) - a.d * (a.n * (2 * x + 1) - 2 * a.c)
def sx (a : Af) (x y : Int) : Int := fl (nx a x y) (2 * det a)
def sy (a : Af) (x y : Int) : Int := fl (ny a x y) (2 * det a)
def Cb (x : Int) : Prop := -100000 ≤ x ∧ x ≤ 100000
theorem uv_bd {a : Af} {x : Int} (h : Bd a) (hx : Cb x) (c : Int) (hc : -268435456 ≤ c ∧ c ≤ 268435456) : (-4096 ≤ a.n ∧ a.n ≤ 4096) ∧ (-1000000000 ≤ a.n * (2 * x + 1) ∧ a.n * (2 * x + 1) ≤ 1000000000) ∧ (-2000000000 ≤ a.n * (2 * x + 1) - 2 * c ∧ a.n * (2 * x + 1) - 2 * c ≤ 2000000000) := by
  obtain ⟨hn, _⟩ := h
  unfold Cb at hx
  have h1 := mul_le_of (x := a.n) (y := 2 * x + 1) (a := 4096) (b := 200001) (by omega) (by omega)
  generalize a.n * (2 * x + 1) = p at *
  omega
theorem nxy_bd {a : Af} {x y : Int} (h : Bd a) (hx : Cb x) (hy : Cb y) : (-20000000000000 ≤ nx a x y ∧ nx a x y ≤ 20000000000000) ∧ (-20000000000000 ≤ ny a x y ∧ ny a x y ≤ 20000000000000) := by
  have h1 := (uv_bd h hx a.c h.2.2.2.2.2.1).2.2
  have h2 := (uv_bd h hy a.f h.2.2.2.2.2.2).2.2
  unfold nx ny
  generalize a.n * (2 * x + 1) - 2 * a.c = u at *
  generalize a.n * (2 * y + 1) - 2 * a.f = v at *
  have m1 := mul_le_of h.2.2.2.2.1 h1
  have m2 := mul_le_of h.2.2.1 h2
  have m3 := mul_le_of h.2.1 h2
  have m4 := mul_le_of h.2.2.2.1 h1
  omega
end Go.Proofs.Ytgipfcpkphmbpaa.F
