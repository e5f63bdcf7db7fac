/-
  Plain facts: which tiles there are, and which of them holds a point.
-/
import Derived.Test.YtjadccelplnpnaaTps
import Derived.Test.YtjadccelplnpnaaArea
namespace Go.Proofs.Ytjadccelplnpnaa
open Go.RowKit
/-- one where a tile is the given one -/
def ind (t u : Int × Int) : Int := if u = t then 1 else 0
theorem sum_none (f : Nat → Int × Int) (t : Int × Int) (n : Nat) (h : ∀ i, i < n → f i ≠ t) : (((List.range n).map f).map (ind t)).sum = 0 := by
  induction n with
  | zero => rfl
  | succ n ih =>
    rw [List.range_succ, List.map_append, List.map_append, List.sum_append, ih (fun i hi => h i (by omega))]
    simp [ind, h n (by omega)]
theorem sum_one (f : Nat → Int × Int) (t : Int × Int) (n : Nat) (hf : ∀ i j, i < n → j < n → f i = f j → i = j) :
    0 ≤ (((List.range n).map f).map (ind t)).sum ∧ (((List.range n).map f).map (ind t)).sum ≤ 1 ∧ ((∃ i, i < n ∧ f i = t) → (((List.range n).map f).map (ind t)).sum = 1) := by
  induction n with
  | zero => exact ⟨by simp, by simp, fun ⟨i, h, _⟩ => absurd h (by omega)⟩
  | succ n ih =>
    obtain ⟨h1, h2, h3⟩ := ih (fun i j hi hj => hf i j (by omega) (by omega))
    rw [List.range_succ, List.map_append, List.map_append, List.sum_append]
    by_cases hn : f n = t
    · rw [sum_none f t n (fun i hi he => by have := hf i n (by omega) (by omega) (he.trans hn.symm); omega)]
      simp [ind, hn]
    · have e : (List.map (ind t) (List.map f [n])).sum = 0 := by simp [ind, hn]
      rw [e, Int.add_zero]
      refine ⟨h1, h2, fun ⟨i, hi, he⟩ => h3 ⟨i, ?_, he⟩⟩
      rcases Nat.lt_succ_iff_lt_or_eq.1 hi with h | h
      · exact h
      · subst h; exact absurd he hn
theorem tls_inj (x y : Int) (c r : Nat) : ∀ i j, i < r * c → j < r * c → (x + ((i % c : Nat) : Int), y + ((i / c : Nat) : Int)) = (x + ((j % c : Nat) : Int), y + ((j / c : Nat) : Int)) → i = j := by
  intro i j _ _ h
  simp only [Prod.mk.injEq] at h
  have h1 : i % c = j % c := by omega
  have h2 : i / c = j / c := by omega
  have e1 := Nat.div_add_mod i c
  have e2 := Nat.div_add_mod j c
  rw [h1, h2] at e1; omega
/-- of the first k tiles at most one is the given one; of all just one, if it is in the ranges -/
theorem tls_ind (x y : Int) (c r : Nat) (t : Int × Int) (k : Nat) :
    0 ≤ (((tls x y c r).take k).map (ind t)).sum ∧ (((tls x y c r).take k).map (ind t)).sum ≤ 1 ∧
    (x ≤ t.1 → t.1 < x + c → y ≤ t.2 → t.2 < y + r → ((tls x y c r).map (ind t)).sum = 1) := by
  have e : (tls x y c r).take k = (List.range (min k (r * c))).map fun i => (x + ((i % c : Nat) : Int), y + ((i / c : Nat) : Int)) := by
    unfold tls; rw [← List.map_take, List.take_range]
  have h := sum_one (fun i => (x + ((i % c : Nat) : Int), y + ((i / c : Nat) : Int))) t (min k (r * c)) (fun i j hi hj => tls_inj x y c r i j (by omega) (by omega))
  rw [← e] at h
  refine ⟨h.1, h.2.1, fun h1 h2 h3 h4 => ?_⟩
  refine (sum_one (fun i => (x + ((i % c : Nat) : Int), y + ((i / c : Nat) : Int))) t (r * c) (tls_inj x y c r)).2.2 ?_
  obtain ⟨a, ha⟩ : ∃ a : Nat, t.1 = x + a := ⟨(t.1 - x).toNat, by omega⟩
  obtain ⟨b, hb⟩ : ∃ b : Nat, t.2 = y + b := ⟨(t.2 - y).toNat, by omega⟩
  have hac : a < c := by omega
  have hbr : b < r := by omega
  refine ⟨b * c + a, ?_, ?_⟩
  · have := Nat.mul_le_mul_right c (show b + 1 ≤ r from hbr)
    rw [Nat.add_mul] at this; omega
  · have h1 : (b * c + a) % c = a := by rw [Nat.add_comm, Nat.add_mul_mod_self_right, Nat.mod_eq_of_lt hac]
    have h2 : (b * c + a) / c = b := by rw [Nat.mul_comm, Nat.mul_add_div (by omega), Nat.div_eq_of_lt hac, Nat.add_zero]
    simp only [h1, h2]
    rw [← ha, ← hb]
theorem tls_get (x y : Int) (c r k : Nat) (h : k < (tls x y c r).length) : x ≤ ((tls x y c r)[k]).1 ∧ ((tls x y c r)[k]).1 < x + c ∧ y ≤ ((tls x y c r)[k]).2 ∧ ((tls x y c r)[k]).2 < y + r := by
  have hk : k < r * c := by rw [tls_len] at h; exact h
  have hc : 0 < c := by rcases Nat.eq_zero_or_pos c with e | e; (· subst e; simp at hk); exact e
  have h1 := Nat.mod_lt k hc
  have h2 : k / c < r := (Nat.div_lt_iff_lt_mul hc).2 hk
  simp only [tls, List.getElem_map, List.getElem_range]
  generalize k / c = d at h2 ⊢
  generalize k % c = m at h1 ⊢
  omega
/-- the tiles of a small rectangle -/
theorem tiles_sm (a : Rc) (ha : Sm a) (px py : Int) :
    (tiles a.x0 a.y0 a.x1 a.y1).length ≤ 100 ∧
    (∀ k (h : k < (tiles a.x0 a.y0 a.x1 a.y1).length), (let t := (tiles a.x0 a.y0 a.x1 a.y1)[k]; -1000 < t.1 ∧ t.1 < 1000 ∧ -1000 < t.2 ∧ t.2 < 1000 ∧ 8 * t.1 < a.x1 ∧ a.x0 < 8 * t.1 + 8 ∧ 8 * t.2 < a.y1 ∧ a.y0 < 8 * t.2 + 8)) ∧
    (∀ k, 0 ≤ (((tiles a.x0 a.y0 a.x1 a.y1).take k).map (ind (px / 8, py / 8))).sum ∧ (((tiles a.x0 a.y0 a.x1 a.y1).take k).map (ind (px / 8, py / 8))).sum ≤ 1) ∧
    (has a.x0 a.y0 a.x1 a.y1 px py = true → ((tiles a.x0 a.y0 a.x1 a.y1).map (ind (px / 8, py / 8))).sum = 1) ∧
    (a.x0 < a.x1 ∧ a.y0 < a.y1 ∨ (tiles a.x0 a.y0 a.x1 a.y1) = []) := by
  obtain ⟨⟨s1, s2⟩, ⟨s3, s4⟩, ⟨s5, s6⟩, ⟨s7, s8⟩⟩ := ha
  cases he : emp a.x0 a.y0 a.x1 a.y1
  case true =>
    have e : tiles a.x0 a.y0 a.x1 a.y1 = [] := by unfold tiles; rw [if_pos he]
    rw [emp_iff] at he
    rw [e]
    refine ⟨by decide, fun k h => absurd h (by simp), fun k => by simp, fun h => ?_, .inr rfl⟩
    rw [has_iff] at h; omega
  case false =>
    have hp := (emp_not _ _ _ _).1 he
    have e : tiles a.x0 a.y0 a.x1 a.y1 = tls (a.x0 / 8) (a.y0 / 8) ((a.x1 - 1) / 8 - a.x0 / 8 + 1).toNat ((a.y1 - 1) / 8 - a.y0 / 8 + 1).toNat := by
      unfold tiles
      rw [if_neg (by rw [he]; decide), flo8 (by omega) (by omega), flo8 (by omega) (by omega), flo8 (by omega) (by omega), flo8 (by omega) (by omega)]
    rw [e]
    obtain ⟨c, hc⟩ : ∃ c : Nat, c = ((a.x1 - 1) / 8 - a.x0 / 8 + 1).toNat := ⟨_, rfl⟩
    obtain ⟨r, hr⟩ : ∃ r : Nat, r = ((a.y1 - 1) / 8 - a.y0 / 8 + 1).toNat := ⟨_, rfl⟩
    rw [← hc, ← hr]
    have hc2 : c ≤ 10 := by omega
    have hr2 : r ≤ 10 := by omega
    refine ⟨?_, fun k h => ?_, fun k => ?_, fun h => ?_, .inl hp⟩
    · rw [tls_len]; exact Nat.mul_le_mul hr2 hc2
    · have hg := tls_get _ _ _ _ k h
      generalize (tls (a.x0 / 8) (a.y0 / 8) c r)[k] = t at hg
      simp only; omega
    · have := tls_ind (a.x0 / 8) (a.y0 / 8) c r (px / 8, py / 8) k
      exact ⟨this.1, this.2.1⟩
    · have := (tls_ind (a.x0 / 8) (a.y0 / 8) c r (px / 8, py / 8) 0).2.2
      rw [has_iff] at h
      exact this (by simp only; omega) (by simp only; omega) (by simp only; omega) (by simp only; omega)
end Go.Proofs.Ytjadccelplnpnaa
