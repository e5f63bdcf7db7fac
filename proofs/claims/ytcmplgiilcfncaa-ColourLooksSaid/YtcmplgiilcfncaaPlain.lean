/-
  Monotone curves in plain mathematics: evaluation, monotony, the first solution, the identity's distance.
-/
import Derived.PlainAid
namespace Go.Proofs.Ytcmplgiilcfncaa

abbrev cg (c : List Int) (i : Nat) : Int := c.getD i 0
/-- points: in range, and none smaller than the one before -/
structure Cv (c : List Int) : Prop where
  two : 2 ≤ c.length
  max : c.length ≤ 257
  rng : ∀ i, i < c.length → 0 ≤ cg c i ∧ cg c i ≤ 65535
  up : ∀ i, i + 1 < c.length → cg c i ≤ cg c (i + 1)
theorem Cv.mono {c : List Int} (h : Cv c) {i : Nat} : ∀ {j : Nat}, i ≤ j → j < c.length → cg c i ≤ cg c j
  | 0, hij, _ => by rw [show i = 0 by omega]; exact Int.le_refl _
  | j + 1, hij, hj => by
    by_cases he : i = j + 1
    · rw [he]; exact Int.le_refl _
    · exact Int.le_trans (h.mono (by omega) (by omega)) (h.up j hj)
/-- the numerator of the value at x, over 65535 -/
def cn (c : List Int) (x : Nat) : Int :=
  let m := c.length - 1
  cg c (m * x / 65535) * (65535 - (m * x % 65535 : Nat)) + cg c (m * x / 65535 + 1) * (m * x % 65535 : Nat)
def val (c : List Int) (x : Nat) : Int := (2 * cn c x + 65535) / 131070
theorem seg_le {c : List Int} {x : Nat} (hx : x ≤ 65535) : (c.length - 1) * x / 65535 ≤ c.length - 1 := by
  have : (c.length - 1) * x ≤ (c.length - 1) * 65535 := Nat.mul_le_mul_left _ hx
  generalize (c.length - 1) * x = y at this
  omega
theorem seg_last {c : List Int} {x : Nat} (hx : x ≤ 65535) (h : (c.length - 1) * x / 65535 = c.length - 1) : (c.length - 1) * x % 65535 = 0 := by
  have : (c.length - 1) * x ≤ (c.length - 1) * 65535 := Nat.mul_le_mul_left _ hx
  generalize (c.length - 1) * x = y at *
  omega
theorem lin_between {a b : Int} {f : Nat} (hab : a ≤ b) (hf : f ≤ 65535) : 65535 * a ≤ a * (65535 - (f : Int)) + b * f ∧ a * (65535 - (f : Int)) + b * f ≤ 65535 * b := by
  have h0 : 0 ≤ (b - a) * f := Int.mul_nonneg (by omega) (by omega)
  have h1 : 0 ≤ (b - a) * (65535 - (f : Int)) := Int.mul_nonneg (by omega) (by omega)
  have e0 : a * (65535 - (f : Int)) + b * f = 65535 * a + (b - a) * f := by
    rw [Int.mul_sub, Int.sub_mul]; omega
  have e1 : a * (65535 - (f : Int)) + b * f = 65535 * b - (b - a) * (65535 - (f : Int)) := by
    rw [Int.mul_sub, Int.sub_mul, Int.mul_sub, Int.mul_sub]; omega
  constructor
  · rw [e0]; omega
  · rw [e1]; omega
/-- below the end the numerator lies between its neighbours' -/
theorem cn_seg {c : List Int} (h : Cv c) {x : Nat} (hi : (c.length - 1) * x / 65535 < c.length - 1) :
    65535 * cg c ((c.length - 1) * x / 65535) ≤ cn c x ∧ cn c x ≤ 65535 * cg c ((c.length - 1) * x / 65535 + 1) :=
  lin_between (h.up _ (by omega)) (by omega)
theorem cn_last {c : List Int} {x : Nat} (hx : x ≤ 65535) (hi : (c.length - 1) * x / 65535 = c.length - 1) : cn c x = 65535 * cg c (c.length - 1) := by
  have h2 := seg_last hx hi
  unfold cn
  simp only [hi, h2]
  rw [Int.mul_comm]; simp
theorem cn_mono {c : List Int} (h : Cv c) {x y : Nat} (hxy : x ≤ y) (hy : y ≤ 65535) : cn c x ≤ cn c y := by
  have hx : x ≤ 65535 := by omega
  have h1 : (c.length - 1) * x ≤ (c.length - 1) * y := Nat.mul_le_mul_left _ hxy
  have hij : (c.length - 1) * x / 65535 ≤ (c.length - 1) * y / 65535 := Nat.div_le_div_right h1
  have hj := seg_le (c := c) hy
  have htwo := h.two
  by_cases he : (c.length - 1) * x / 65535 = (c.length - 1) * y / 65535
  · by_cases hl : (c.length - 1) * y / 65535 = c.length - 1
    · rw [cn_last hx (he.trans hl), cn_last hy hl]; exact Int.le_refl _
    · unfold cn
      dsimp only
      rw [he]
      have hf : (c.length - 1) * x % 65535 ≤ (c.length - 1) * y % 65535 := by
        generalize (c.length - 1) * x = u at *
        generalize (c.length - 1) * y = v at *
        omega
      have hup := h.up ((c.length - 1) * y / 65535) (by omega)
      generalize cg c ((c.length - 1) * y / 65535) = a at *
      generalize cg c ((c.length - 1) * y / 65535 + 1) = b at *
      generalize (c.length - 1) * x % 65535 = f at *
      generalize (c.length - 1) * y % 65535 = g at *
      have h0 : 0 ≤ (b - a) * ((g : Int) - f) := Int.mul_nonneg (by omega) (by omega)
      rw [Int.mul_sub, Int.sub_mul, Int.sub_mul] at h0
      rw [Int.mul_sub, Int.mul_sub]
      omega
  · have hs := cn_seg h (x := x) (by omega)
    have hm : cg c ((c.length - 1) * x / 65535 + 1) ≤ cg c ((c.length - 1) * y / 65535) := h.mono (by omega) (by omega)
    by_cases hl : (c.length - 1) * y / 65535 = c.length - 1
    · have := cn_last (c := c) hy hl
      rw [← hl] at this
      omega
    · have hs2 := cn_seg h (x := y) (by omega)
      omega
theorem val_mono {c : List Int} (h : Cv c) {x y : Nat} (hxy : x ≤ y) (hy : y ≤ 65535) : val c x ≤ val c y := by
  have := cn_mono h hxy hy; unfold val; omega
theorem val_last {c : List Int} {x : Nat} (hx : x ≤ 65535) (hi : (c.length - 1) * x / 65535 = c.length - 1) : val c x = cg c (c.length - 1) := by
  have := cn_last (c := c) hx hi; unfold val; omega
theorem val_low {c : List Int} (h : Cv c) {x : Nat} (hx : x ≤ 65535) : cg c ((c.length - 1) * x / 65535) ≤ val c x := by
  have hj := seg_le (c := c) hx
  by_cases hl : (c.length - 1) * x / 65535 = c.length - 1
  · rw [val_last hx hl, hl]; exact Int.le_refl _
  · have := cn_seg h (x := x) (by omega); unfold val; omega
theorem val_high {c : List Int} (h : Cv c) {x : Nat} (hx : x ≤ 65535) : val c x ≤ cg c (min ((c.length - 1) * x / 65535 + 1) (c.length - 1)) := by
  have hj := seg_le (c := c) hx
  by_cases hl : (c.length - 1) * x / 65535 = c.length - 1
  · rw [val_last hx hl, hl, Nat.min_eq_right (by omega)]; exact Int.le_refl _
  · have := cn_seg h (x := x) (by omega)
    rw [Nat.min_eq_left (by omega)]; unfold val; omega
theorem val_rng {c : List Int} (h : Cv c) {x : Nat} (hx : x ≤ 65535) : 0 ≤ val c x ∧ val c x ≤ 65535 := by
  have hj := seg_le (c := c) hx
  have htwo := h.two
  have h1 := val_low h hx
  have h2 := val_high h hx
  have h3 := h.rng ((c.length - 1) * x / 65535) (by omega)
  have h4 := h.rng (min ((c.length - 1) * x / 65535 + 1) (c.length - 1)) (by omega)
  omega
theorem val_zero {c : List Int} : val c 0 = cg c 0 := by
  unfold val cn; simp; omega
theorem val_end {c : List Int} : val c 65535 = cg c (c.length - 1) := val_last (by omega) (Nat.mul_div_cancel _ (by decide))
/-- rounded the other way: there are no ties -/
theorem val_alt (c : List Int) (x : Nat) : val c x = (cn c x + 32767) / 65535 := by unfold val; omega

/-- the first of 0 .. n - 1 with p, or n -/
def lst (p : Nat → Prop) [DecidablePred p] : Nat → Nat
  | 0 => 0
  | n + 1 => if lst p n < n then lst p n else if p n then n else n + 1
theorem lst_le (p : Nat → Prop) [DecidablePred p] : ∀ n, lst p n ≤ n
  | 0 => Nat.le_refl _
  | n + 1 => by
    have := lst_le p n
    unfold lst; (repeat' split) <;> omega
theorem lst_lt (p : Nat → Prop) [DecidablePred p] : ∀ n, lst p n < n → p (lst p n)
  | 0, h => absurd h (Nat.not_lt_zero _)
  | n + 1, h => by
    unfold lst at h ⊢
    by_cases h1 : lst p n < n
    · rw [if_pos h1]; exact lst_lt p n h1
    · rw [if_neg h1] at h ⊢
      by_cases h2 : p n
      · rw [if_pos h2]; exact h2
      · rw [if_neg h2] at h; omega
theorem lst_min (p : Nat → Prop) [DecidablePred p] : ∀ n z, z < lst p n → ¬ p z
  | 0, z, h => absurd h (Nat.not_lt_zero _)
  | n + 1, z, h => by
    unfold lst at h
    by_cases h1 : lst p n < n
    · rw [if_pos h1] at h; exact lst_min p n z h
    · rw [if_neg h1] at h
      have hn : lst p n = n := by have := lst_le p n; omega
      by_cases h2 : p n
      · rw [if_pos h2] at h; exact lst_min p n z (by omega)
      · rw [if_neg h2] at h
        by_cases h3 : z = n
        · rw [h3]; exact h2
        · exact lst_min p n z (by omega)
theorem lst_eq (p : Nat → Prop) [DecidablePred p] (n x : Nat) (hx : x ≤ n) (h0 : ∀ z, z < x → ¬ p z) (h1 : x < n → p x) : lst p n = x := by
  have a := lst_le p n
  rcases Nat.lt_trichotomy (lst p n) x with h | h | h
  · exact absurd (lst_lt p n (by omega)) (h0 _ h)
  · exact h
  · exact absurd (h1 (by omega)) (lst_min p n x h)
/-- the first argument at which the curve reaches y, or 65536 -/
def sol (c : List Int) (y : Int) : Nat := lst (fun x => y ≤ val c x) 65536
theorem sol_le (c : List Int) (y : Int) : sol c y ≤ 65536 := lst_le _ _
theorem sol_gal {c : List Int} (h : Cv c) (y : Int) {x : Nat} (hx : x ≤ 65535) : y ≤ val c x ↔ sol c y ≤ x := by
  constructor
  · intro hv
    rcases Nat.lt_or_ge x (sol c y) with h1 | h1
    · exact absurd hv (lst_min _ _ _ h1)
    · exact h1
  · intro hs
    have h1 : y ≤ val c (sol c y) := lst_lt (fun x => y ≤ val c x) 65536 (by unfold sol at hs; omega)
    exact Int.le_trans h1 (val_mono h hs hx)
theorem sol_none {c : List Int} (h : Cv c) (y : Int) : sol c y = 65536 ↔ cg c (c.length - 1) < y := by
  have := sol_gal h y (x := 65535) (Nat.le_refl _)
  rw [val_end] at this
  have h2 := sol_le c y
  constructor
  · intro hs; have : ¬ y ≤ cg c (c.length - 1) := fun hy => by have := this.1 hy; omega
    omega
  · intro hy
    rcases Nat.lt_or_ge (sol c y) 65536 with h1 | h1
    · have := this.2 (by omega); omega
    · omega
theorem sol_mono {c : List Int} (h : Cv c) {y z : Int} (hyz : y ≤ z) : sol c y ≤ sol c z := by
  have h2 := sol_le c y
  rcases Nat.lt_or_ge (sol c z) 65536 with h1 | h1
  · exact (sol_gal h y (by omega)).1 (Int.le_trans hyz ((sol_gal h z (x := sol c z) (by omega)).2 (Nat.le_refl _)))
  · omega

/-- the i-th argument of n points -/
def arg (i n : Nat) : Int := (131070 * (i : Int) + n - 1) / (2 * n - 2)
def lin (n : Nat) : List Int := (List.range n).map fun i => arg i n
theorem cg_map {f : Nat → Int} {n i : Nat} (h : i < n) : cg ((List.range n).map f) i = f i := by
  unfold cg; simp [List.getD, h]
theorem lin_len (n : Nat) : (lin n).length = n := by unfold lin; simp
theorem arg_near {i n : Nat} (hn : 2 ≤ n) : 131070 * (i : Int) - (n - 1) < 2 * (n - 1) * arg i n ∧ 2 * (n - 1) * arg i n ≤ 131070 * (i : Int) + (n - 1) := by
  unfold arg
  have hp : (0 : Int) < 2 * n - 2 := by omega
  have h1 := Int.mul_ediv_self_le (x := 131070 * (i : Int) + n - 1) (k := 2 * n - 2) (by omega)
  have h2 := Int.lt_mul_ediv_self_add (x := 131070 * (i : Int) + n - 1) hp
  have e : (2 * ((n : Int) - 1)) = 2 * n - 2 := by omega
  rw [e]
  omega
theorem arg_mono {i j n : Nat} (hn : 2 ≤ n) (hij : i ≤ j) : arg i n ≤ arg j n := by
  unfold arg
  exact Int.ediv_le_ediv (by omega) (by omega)
theorem arg_zero {n : Nat} (hn : 2 ≤ n) : arg 0 n = 0 := by
  unfold arg; exact Int.ediv_eq_zero_of_lt (by omega) (by omega)
theorem arg_end {n : Nat} (hn : 2 ≤ n) : arg (n - 1) n = 65535 := by
  unfold arg
  rw [show 131070 * ((n - 1 : Nat) : Int) + n - 1 = (n - 1) + 65535 * (2 * (n : Int) - 2) by omega, Int.add_mul_ediv_right _ _ (by omega), Int.ediv_eq_zero_of_lt (by omega) (by omega)]
  rfl
theorem arg_rng {i n : Nat} (hn : 2 ≤ n) (hi : i < n) : 0 ≤ arg i n ∧ arg i n ≤ 65535 := by
  have h0 := arg_mono (i := 0) (j := i) hn (by omega)
  have h1 := arg_mono (i := i) (j := n - 1) hn (by omega)
  rw [arg_zero hn] at h0
  rw [arg_end hn] at h1
  exact ⟨h0, h1⟩
theorem lin_cv {n : Nat} (h2 : 2 ≤ n) (h257 : n ≤ 257) : Cv (lin n) := by
  refine ⟨by rw [lin_len]; exact h2, by rw [lin_len]; exact h257, fun i hi => ?_, fun i hi => ?_⟩
  · rw [lin_len] at hi
    unfold lin; rw [cg_map hi]; exact arg_rng h2 hi
  · rw [lin_len] at hi
    unfold lin; rw [cg_map hi, cg_map (by omega)]; exact arg_mono h2 (by omega)
theorem lin_near {n : Nat} (h2 : 2 ≤ n) (h257 : n ≤ 257) {x : Nat} (hx : x ≤ 65535) : (x : Int) - 1 ≤ val (lin n) x ∧ val (lin n) x ≤ x + 1 := by
  have hj := seg_le (c := lin n) hx
  have hlast := val_last (c := lin n) hx
  have hl := seg_last (c := lin n) hx
  rw [lin_len] at hj hlast hl
  by_cases he : (n - 1) * x / 65535 = n - 1
  · rw [hlast he]
    have hx2 : x = 65535 := by
      have hz := hl he
      have : (n - 1) * x = (n - 1) * 65535 := by
        generalize (n - 1) * x = y at *; omega
      exact Nat.eq_of_mul_eq_mul_left (by omega) this
    have : cg (lin n) (n - 1) = 65535 := by unfold lin; rw [cg_map (by omega)]; exact arg_end h2
    rw [this, hx2]; omega
  · have hi : (n - 1) * x / 65535 < n - 1 := by omega
    have hdm := Nat.div_add_mod ((n - 1) * x) 65535
    have hf : (n - 1) * x % 65535 < 65535 := Nat.mod_lt _ (by decide)
    have e0 : cg (lin n) ((n - 1) * x / 65535) = arg ((n - 1) * x / 65535) n := by unfold lin; exact cg_map (by omega)
    have e1 : cg (lin n) ((n - 1) * x / 65535 + 1) = arg ((n - 1) * x / 65535 + 1) n := by unfold lin; exact cg_map (by omega)
    have a0 := arg_near (i := (n - 1) * x / 65535) h2
    have a1 := arg_near (i := (n - 1) * x / 65535 + 1) h2
    have hcn : cn (lin n) x = arg ((n - 1) * x / 65535) n * (65535 - ((n - 1) * x % 65535 : Nat)) + arg ((n - 1) * x / 65535 + 1) n * ((n - 1) * x % 65535 : Nat) := by
      unfold cn
      dsimp only
      rw [lin_len, e0, e1]
    generalize arg ((n - 1) * x / 65535) n = a at *
    generalize arg ((n - 1) * x / 65535 + 1) n = b at *
    generalize hI : (n - 1) * x / 65535 = i at *
    generalize (n - 1) * x % 65535 = f at *
    obtain ⟨k, rfl⟩ : ∃ k : Nat, n = k + 1 := ⟨n - 1, by omega⟩
    rw [show k + 1 - 1 = k by omega] at *
    have ek : ((k + 1 : Nat) : Int) - 1 = k := by omega
    rw [ek] at a0 a1
    have ec : ((i + 1 : Nat) : Int) = (i : Int) + 1 := by omega
    rw [ec] at a1
    have hdi : 65535 * (i : Int) + f = (k : Int) * x := by
      have := congrArg (Nat.cast (R := Int)) hdm
      rw [Int.natCast_add, Int.natCast_mul, Int.natCast_mul] at this
      exact this
    have hk : (0 : Int) < k := by omega
    have hg : (0 : Int) ≤ 65535 - f := by omega
    have hf0 : (0 : Int) ≤ f := by omega
    have u0 := Int.mul_le_mul_of_nonneg_right a0.2 hg
    have u1 := Int.mul_le_mul_of_nonneg_right a1.2 hf0
    have l0 := Int.mul_le_mul_of_nonneg_right (Int.le_of_lt a0.1) hg
    have l1 := Int.mul_le_mul_of_nonneg_right (Int.le_of_lt a1.1) hf0
    have hN : 2 * (k : Int) * cn (lin (k + 1)) x = 2 * k * a * (65535 - f) + 2 * k * b * f := by
      rw [hcn, Int.mul_add, Int.mul_assoc (2 * (k : Int)) a, Int.mul_assoc (2 * (k : Int)) b]
    have hU : 2 * (k : Int) * cn (lin (k + 1)) x ≤ k * (131070 * x + 65535) := by
      rw [hN]
      have : (131070 * (i : Int) + k) * (65535 - f) + (131070 * (i + 1) + k) * f = k * (131070 * x + 65535) := by
        rw [Int.mul_add (k : Int), show (k : Int) * (131070 * x) = 131070 * (k * x) by rw [Int.mul_left_comm], ← hdi]
        simp only [Int.add_mul, Int.mul_add, Int.mul_sub, Int.mul_assoc]
        generalize (i : Int) * f = q
        generalize (k : Int) * f = r
        omega
      omega
    have hL : k * (131070 * x - 65535) ≤ 2 * (k : Int) * cn (lin (k + 1)) x := by
      rw [hN]
      have : (131070 * (i : Int) - k) * (65535 - f) + (131070 * (i + 1) - k) * f = k * (131070 * x - 65535) := by
        rw [Int.mul_sub (k : Int), show (k : Int) * (131070 * x) = 131070 * (k * x) by rw [Int.mul_left_comm], ← hdi]
        simp only [Int.add_mul, Int.sub_mul, Int.mul_add, Int.mul_sub, Int.mul_assoc]
        generalize (i : Int) * f = q
        generalize (k : Int) * f = r
        omega
      omega
    have e2 : 2 * (k : Int) * cn (lin (k + 1)) x = k * (2 * cn (lin (k + 1)) x) := by rw [Int.mul_assoc, Int.mul_left_comm]
    rw [e2] at hU hL
    have hU' := Int.le_of_mul_le_mul_left hU hk
    have hL' := Int.le_of_mul_le_mul_left hL hk
    unfold val
    omega
end Go.Proofs.Ytcmplgiilcfncaa
