/-
  What Clip does: the maths.
-/
import Derived.Test.YtgdcjpnmalnmbaaKClipF
namespace Go.Proofs.Ytgdcjpnmalnmbaa.K
open Go.RowKit

/-- the ratio p is at most q -/
def LE (p q : Int × Int) : Prop := p.1 * q.2 ≤ q.1 * p.2
theorem LE.trans {p q r : Int × Int} (hp : 1 ≤ p.2) (hq : 1 ≤ q.2) (hr : 1 ≤ r.2) (h1 : LE p q) (h2 : LE q r) : LE p r := by
  unfold LE at *
  have e1 := Int.mul_le_mul_of_nonneg_right h1 (show 0 ≤ r.2 by omega)
  have e2 := Int.mul_le_mul_of_nonneg_right h2 (show 0 ≤ p.2 by omega)
  refine Int.le_of_mul_le_mul_left (a := q.2) ?_ (by omega)
  calc q.2 * (p.1 * r.2) = p.1 * q.2 * r.2 := by rw [Int.mul_left_comm, Int.mul_assoc]
    _ ≤ q.1 * p.2 * r.2 := e1
    _ = q.1 * r.2 * p.2 := by rw [Int.mul_assoc, Int.mul_comm p.2, ← Int.mul_assoc]
    _ ≤ r.1 * q.2 * p.2 := e2
    _ = q.2 * (r.1 * p.2) := by rw [Int.mul_comm r.1, Int.mul_assoc]
theorem lst2_le (p q : Int × Int) : LE (lst2 p q) p ∧ LE (lst2 p q) q := by
  unfold LE lst2
  split <;> (constructor <;> omega)
theorem kp_le {c : C3} {l : Int} (hc : Bd c) (h3 : 0 ≤ l) (h4 : l ≤ 65535) : ∀ j, LE (kp c l j) (1, 1) ∧ ∀ k, k < j → LE (kp c l j) (alw (c.at k) l)
  | 0 => ⟨by unfold LE kp; decide, by intro k hk; omega⟩
  | j + 1 => by
    have ih := kp_le hc h3 h4 j
    have p1 := (kp_pb hc h3 h4 j).2.2.1
    have p2 := (kp_pb hc h3 h4 (j + 1)).2.2.1
    have h := lst2_le (kp c l j) (alw (c.at j) l)
    have e : kp c l (j + 1) = lst2 (kp c l j) (alw (c.at j) l) := rfl
    rw [← e] at h
    refine ⟨h.1.trans p2 p1 (by decide) ih.1, fun k hk => ?_⟩
    by_cases hj : k = j
    · subst hj; exact h.2
    · exact h.1.trans p2 p1 (alw_pb (hc k).1 (hc k).2 h3 h4).2.2.1 (ih.2 k (by omega))
theorem divb {a d B : Int} (hd : 1 ≤ d) (h0 : 0 ≤ a) (h : a ≤ B * d) : 0 ≤ a / d ∧ a / d ≤ B :=
  ⟨Int.ediv_nonneg h0 (by omega), Int.ediv_le_of_le_mul (by omega) h⟩
/-- what lies between the grey and the channel, and in gamut -/
def Mid (l v y : Int) : Prop := 0 ≤ y ∧ y ≤ 65535 ∧ min l v ≤ y ∧ y ≤ max l v
theorem cut_mid {l v : Int} {p : Int × Int} (h3 : 0 ≤ l) (h4 : l ≤ 65535) (hp : PB p) (h1 : LE p (1, 1)) (h2 : LE p (alw v l)) : Mid l v (cut l v p.1 p.2) := by
  obtain ⟨n, d⟩ := p
  obtain ⟨p1, p2, p3, p4⟩ := hp
  unfold LE at h1 h2
  simp only at h1 h2 p1 p2 p3 p4 ⊢
  unfold Mid cut
  by_cases hx : l ≤ v
  · obtain ⟨x, rfl⟩ : ∃ x, v = l + x := ⟨v - l, by omega⟩
    rw [show l + x - l = x by omega]
    have z0 : 0 ≤ x * n := Int.mul_nonneg (by omega) p1
    rw [Int.tdiv_eq_ediv_of_nonneg z0]
    have b1 := divb (d := d) (B := x) p3 z0 (Int.mul_le_mul_of_nonneg_left (by omega) (by omega))
    by_cases hv : 65535 < l + x
    · have e : alw (l + x) l = (65535 - l, l + x - l) := by unfold alw; rw [if_neg (by omega), if_pos hv]
      rw [e] at h2
      simp only at h2
      rw [show l + x - l = x by omega, Int.mul_comm n] at h2
      have b2 := divb (d := d) (B := 65535 - l) p3 z0 h2
      omega
    · omega
  · obtain ⟨x, rfl⟩ : ∃ x, v = l - x := ⟨l - v, by omega⟩
    rw [show l - x - l = -x by omega, Int.neg_mul, Int.neg_tdiv]
    have z0 : 0 ≤ x * n := Int.mul_nonneg (by omega) p1
    rw [Int.tdiv_eq_ediv_of_nonneg z0]
    have b1 := divb (d := d) (B := x) p3 z0 (Int.mul_le_mul_of_nonneg_left (by omega) (by omega))
    by_cases hv : l - x < 0
    · have e : alw (l - x) l = (l, l - (l - x)) := by unfold alw; rw [if_pos hv]
      rw [e] at h2
      simp only at h2
      rw [show l - (l - x) = x by omega, Int.mul_comm n] at h2
      have b2 := divb (d := d) (B := l) p3 z0 h2
      omega
    · omega
theorem clip0_mid {c : C3} (hc : Bd c) : Mid (grey c) c.r (clip0 c).r ∧ Mid (grey c) c.g (clip0 c).g ∧ Mid (grey c) c.b (clip0 c).b := by
  have h3 : 0 ≤ grey c := by unfold grey clp; omega
  have h4 : grey c ≤ 65535 := by unfold grey clp; omega
  unfold clip0
  by_cases hi : ing c = true
  · rw [if_pos hi]
    obtain ⟨⟨a, b⟩, ⟨d, e⟩, f, g⟩ := (ing_iff c).1 hi
    unfold Mid
    omega
  · rw [if_neg hi]
    have hk := kp_le hc h3 h4 3
    have hp := kp_pb hc h3 h4 3
    exact ⟨cut_mid h3 h4 hp hk.1 (hk.2 0 (by omega)), cut_mid h3 h4 hp hk.1 (hk.2 1 (by omega)), cut_mid h3 h4 hp hk.1 (hk.2 2 (by omega))⟩
theorem bnd_id {c : C3} (hc : Bd c) : bnd c = c := by
  have h0 := hc 0; have h1 := hc 1; have h2 := hc 2
  unfold C3.at at h0 h1 h2
  cases c
  simp only at h0 h1 h2
  simp only [bnd, clp, C3.map, C3.mk.injEq]
  omega
theorem clipF_mid {c : C3} (hc : Bd c) : Mid (grey c) c.r (clipF c).r ∧ Mid (grey c) c.g (clipF c).g ∧ Mid (grey c) c.b (clipF c).b := by
  unfold clipF; rw [bnd_id hc]; exact clip0_mid hc
theorem clipF_in (c : C3) : InG (clipF c) := by
  obtain ⟨a, b, d⟩ := clip0_mid (bnd_bd c)
  exact ⟨⟨a.1, a.2.1⟩, ⟨b.1, b.2.1⟩, d.1, d.2.1⟩
theorem ing_bd {c : C3} (h : InG c) : Bd c := fun k => by
  obtain ⟨⟨a, b⟩, ⟨d, e⟩, f, g⟩ := h
  unfold C3.at
  split <;> (constructor <;> omega)
theorem clipF_id {c : C3} (h : InG c) : clipF c = c := by
  unfold clipF; rw [bnd_id (ing_bd h)]; unfold clip0; rw [if_pos ((ing_iff c).2 h)]
end Go.Proofs.Ytgdcjpnmalnmbaa.K
