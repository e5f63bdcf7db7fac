/-
  Gamma curves in plain mathematics: the largest y with y^den (n-1)^num <= 65535^den i^num; natural numbers in digits of 24 bits.
-/
import Derived.Test.YtcmplgiilcfncaaPlain
namespace Go.Proofs.Ytcmplgiilcfncaa

/-- the i-th value of a gamma curve -/
def gam (num den n i : Nat) : Nat := lst (fun y => 65535 ^ den * i ^ num < y ^ den * (n - 1) ^ num) 65536 - 1
theorem pw_mono {num den n y z : Nat} (h : y ≤ z) : y ^ den * (n - 1) ^ num ≤ z ^ den * (n - 1) ^ num :=
  Nat.mul_le_mul_right _ (Nat.pow_le_pow_left h den)
theorem gam_le (num den n i : Nat) : gam num den n i ≤ 65535 := by
  have := lst_le (fun y => 65535 ^ den * i ^ num < y ^ den * (n - 1) ^ num) 65536
  unfold gam; omega
theorem gam_spec {num den n i : Nat} (hd : 1 ≤ den) {y : Nat} (hy : y ≤ 65535) : y ≤ gam num den n i ↔ y ^ den * (n - 1) ^ num ≤ 65535 ^ den * i ^ num := by
  have h0 : 0 < lst (fun y => 65535 ^ den * i ^ num < y ^ den * (n - 1) ^ num) 65536 := by
    rcases Nat.eq_zero_or_pos (lst (fun y => 65535 ^ den * i ^ num < y ^ den * (n - 1) ^ num) 65536) with h | h
    · have h1 := lst_lt (fun y => 65535 ^ den * i ^ num < y ^ den * (n - 1) ^ num) 65536 (by omega)
      rw [h] at h1
      simp [Nat.zero_pow hd] at h1
    · exact h
  unfold gam
  constructor
  · intro h
    exact Nat.le_of_not_lt (lst_min (fun y => 65535 ^ den * i ^ num < y ^ den * (n - 1) ^ num) 65536 y (by omega))
  · intro h
    rcases Nat.lt_or_ge (lst (fun y => 65535 ^ den * i ^ num < y ^ den * (n - 1) ^ num) 65536) 65536 with h1 | h1
    · have h2 := lst_lt (fun y => 65535 ^ den * i ^ num < y ^ den * (n - 1) ^ num) 65536 h1
      rcases Nat.lt_or_ge y (lst (fun y => 65535 ^ den * i ^ num < y ^ den * (n - 1) ^ num) 65536) with h3 | h3
      · omega
      · have := pw_mono (num := num) (den := den) (n := n) h3
        omega
    · omega
theorem gam_eq {num den n i g : Nat} (hd : 1 ≤ den) (hg : g ≤ 65535) (h0 : g ^ den * (n - 1) ^ num ≤ 65535 ^ den * i ^ num) (h1 : g < 65535 → 65535 ^ den * i ^ num < (g + 1) ^ den * (n - 1) ^ num) : gam num den n i = g := by
  have a := (gam_spec (n := n) hd hg).2 h0
  have b := gam_le num den n i
  rcases Nat.lt_or_ge g (gam num den n i) with h | h
  · have := (gam_spec (num := num) (n := n) (i := i) hd (y := g + 1) (by omega)).1 h
    have := h1 (by omega)
    omega
  · omega
theorem gam_ext {g h : Nat} (hg : g ≤ 65535) (hh : h ≤ 65535) (e : ∀ y, y ≤ 65535 → (y ≤ g ↔ y ≤ h)) : g = h := by
  have h1 := (e g hg).1 (Nat.le_refl _)
  have h2 := (e h hh).2 (Nat.le_refl _)
  omega
theorem gam_zero {num den n : Nat} (hn : 2 ≤ n) (hnum : 1 ≤ num) (hd : 1 ≤ den) : gam num den n 0 = 0 := by
  refine gam_eq hd (by omega) ?_ (fun _ => ?_)
  · rw [Nat.zero_pow hd, Nat.zero_mul]; exact Nat.zero_le _
  · rw [Nat.zero_pow hnum, Nat.mul_zero]; exact Nat.mul_pos (Nat.pow_pos (by omega)) (Nat.pow_pos (by omega))
theorem gam_end {num den n : Nat} (hd : 1 ≤ den) : gam num den n (n - 1) = 65535 :=
  gam_eq hd (Nat.le_refl _) (Nat.le_refl _) (fun h => absurd h (Nat.lt_irrefl _))
theorem gam_mono {num den n i j : Nat} (hd : 1 ≤ den) (hij : i ≤ j) : gam num den n i ≤ gam num den n j := by
  have h := (gam_spec (n := n) (num := num) (i := i) hd (gam_le num den n i)).1 (Nat.le_refl _)
  exact (gam_spec hd (gam_le num den n i)).2 (Nat.le_trans h (Nat.mul_le_mul_left _ (Nat.pow_le_pow_left hij num)))
theorem gam_twice {num den n i : Nat} (hd : 1 ≤ den) : gam (2 * num) (2 * den) n i = gam num den n i := by
  refine gam_ext (gam_le _ _ _ _) (gam_le _ _ _ _) (fun y hy => ?_)
  rw [gam_spec (by omega) hy, gam_spec hd hy]
  rw [Nat.mul_comm 2 num, Nat.mul_comm 2 den, Nat.pow_mul, Nat.pow_mul, Nat.pow_mul, Nat.pow_mul, ← Nat.mul_pow, ← Nat.mul_pow]
  exact Nat.pow_le_pow_iff_left (by decide)
theorem gam_more {num den n i : Nat} (hn : 2 ≤ n) (hd : 1 ≤ den) (hi : i ≤ n - 1) : gam (num + 1) den n i ≤ gam num den n i := by
  have h := (gam_spec (n := n) (num := num + 1) (i := i) hd (gam_le (num + 1) den n i)).1 (Nat.le_refl _)
  refine (gam_spec hd (gam_le _ _ _ _)).2 ?_
  generalize gam (num + 1) den n i = y at *
  rw [Nat.pow_succ, Nat.pow_succ, ← Nat.mul_assoc, ← Nat.mul_assoc] at h
  have h2 : 65535 ^ den * i ^ num * i ≤ 65535 ^ den * i ^ num * (n - 1) := Nat.mul_le_mul_left _ hi
  exact Nat.le_of_mul_le_mul_right (Nat.le_trans h h2) (by omega)
theorem gam_same {num n i : Nat} (hn : 2 ≤ n) (hnum : 1 ≤ num) (hi : i ≤ n - 1) : gam num num n i = 65535 * i / (n - 1) := by
  have hq : 65535 * i / (n - 1) ≤ 65535 := Nat.div_le_of_le_mul (by rw [Nat.mul_comm]; exact Nat.mul_le_mul_right _ hi)
  refine gam_ext (gam_le _ _ _ _) hq (fun y hy => ?_)
  rw [gam_spec hnum hy, ← Nat.mul_pow, ← Nat.mul_pow, Nat.pow_le_pow_iff_left (by omega), Nat.le_div_iff_mul_le (by omega)]

/-- what digits of 24 bits stand for, the least significant first -/
def dv : List Nat → Nat
  | [] => 0
  | a :: l => a + 16777216 * dv l
def Dg (l : List Nat) : Prop := ∀ a ∈ l, a < 16777216
theorem dv_append : ∀ l k, dv (l ++ k) = dv l + 16777216 ^ l.length * dv k
  | [], k => by simp [dv]
  | a :: l, k => by
    show a + 16777216 * dv (l ++ k) = a + 16777216 * dv l + 16777216 ^ (a :: l).length * dv k
    rw [dv_append l k, List.length_cons, Nat.pow_succ, Nat.mul_add, Nat.mul_comm (16777216 ^ l.length) 16777216, Nat.mul_assoc]; omega
theorem dv_lt : ∀ {l : List Nat}, Dg l → dv l < 16777216 ^ l.length
  | [], _ => by simp [dv]
  | a :: l, h => by
    have h1 := dv_lt (l := l) (fun x hx => h x (by simp [hx]))
    have h2 := h a (by simp)
    unfold dv
    rw [List.length_cons, Nat.pow_succ, Nat.mul_comm (16777216 ^ l.length)]; omega
/-- the product by a factor, with what is carried in -/
def tms : List Nat → Nat → Nat → List Nat
  | [], _, c => [c]
  | a :: l, f, c => (a * f + c) % 16777216 :: tms l f ((a * f + c) / 16777216)
theorem tms_dv : ∀ l f c, dv (tms l f c) = dv l * f + c
  | [], f, c => by simp [tms, dv]
  | a :: l, f, c => by
    unfold tms dv
    rw [tms_dv l f, Nat.add_mul, Nat.mul_assoc, Nat.mul_add]
    have := Nat.div_add_mod (a * f + c) 16777216
    generalize a * f = x at *
    omega
theorem tms_len : ∀ l f c, (tms l f c).length = l.length + 1
  | [], _, _ => rfl
  | a :: l, f, c => by unfold tms; rw [List.length_cons, tms_len l f]; rfl
theorem tms_carry {a f c : Nat} (ha : a < 16777216) (hf : f < 16777216) (hc : c < 16777216) : a * f + c < 281474976710656 ∧ (a * f + c) / 16777216 < 16777216 := by
  have h1 : a * f ≤ 16777215 * 16777215 := Nat.mul_le_mul (by omega) (by omega)
  generalize a * f = x at *
  omega
theorem tms_dg : ∀ {l : List Nat} {f c : Nat}, Dg l → f < 16777216 → c < 16777216 → Dg (tms l f c)
  | [], f, c, _, _, hc => fun x hx => by simp [tms] at hx; omega
  | a :: l, f, c, h, hf, hc => fun x hx => by
    unfold tms at hx
    have h2 := tms_carry (h a (by simp)) hf hc
    rcases List.mem_cons.1 hx with rfl | hx
    · exact Nat.mod_lt _ (by decide)
    · exact tms_dg (fun y hy => h y (by simp [hy])) hf h2.2 x hx
/-- the first digit from the top that differs decides -/
theorem dv_above {a b : List Nat} (hl : a.length = b.length) (ha : Dg a) {i : Nat} (hi : i < a.length) (he : a.drop (i + 1) = b.drop (i + 1)) : a.getD i 0 < b.getD i 0 → dv a < dv b := by
  intro h
  have key : ∀ l : List Nat, i < l.length → dv l = dv (l.take i) + 16777216 ^ i * (l.getD i 0 + 16777216 * dv (l.drop (i + 1))) := fun l hil => by
    have e : l = l.take i ++ (l.getD i 0 :: l.drop (i + 1)) := by
      rw [List.getD_eq_getElem?_getD, List.getElem?_eq_getElem hil]
      simp
    have := congrArg dv e
    rw [dv_append] at this
    rw [List.length_take, Nat.min_eq_left (by omega)] at this
    exact this
  rw [key a hi, key b (by omega), he]
  have h1 : dv (a.take i) < 16777216 ^ i := by
    have := dv_lt (l := a.take i) (fun x hx => ha x (List.mem_of_mem_take hx))
    rwa [List.length_take, Nat.min_eq_left (by omega)] at this
  generalize 16777216 ^ i = B at *
  have h2 : B * (a.getD i 0 + 16777216 * dv (b.drop (i + 1))) + B ≤ B * (b.getD i 0 + 16777216 * dv (b.drop (i + 1))) := by
    rw [← Nat.mul_succ]
    exact Nat.mul_le_mul_left _ (by omega)
  omega
theorem dv_zeros (l : List Nat) (k : Nat) : dv (l ++ List.replicate k 0) = dv l := by
  rw [dv_append]
  have : dv (List.replicate k 0) = 0 := by
    induction k with
    | zero => rfl
    | succ k ih => rw [List.replicate_succ]; unfold dv; rw [ih]
  rw [this]; simp
end Go.Proofs.Ytcmplgiilcfncaa
