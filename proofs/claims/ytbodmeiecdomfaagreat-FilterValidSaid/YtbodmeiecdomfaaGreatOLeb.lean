/-
  Plain mathematics of the unsigned LEB128 form: its groups, a decoder that accepts nothing else, big-endian numbers. No program is imported.
-/
import Init
namespace Go.Proofs.YtbodmeiecdomfaaGreat.O.Leb

def varN (u : Nat) : List UInt8 := if h : u < 128 then [UInt8.ofNat u] else UInt8.ofNat (u % 128 + 128) :: varN (u / 128)
  termination_by u
  decreasing_by omega

theorem varN_small {u : Nat} (h : u < 128) : varN u = [UInt8.ofNat u] := by rw [varN, dif_pos h]
theorem varN_big {u : Nat} (h : 128 ≤ u) : varN u = UInt8.ofNat (u % 128 + 128) :: varN (u / 128) := by rw [varN, dif_neg (by omega)]
theorem nat_u8 {x : Nat} (h : x < 256) : (UInt8.ofNat x).toNat = x := by simp [UInt8.toNat_ofNat']; omega
theorem u8_nat (b : UInt8) : UInt8.ofNat b.toNat = b := by simp
theorem u8lt (b : UInt8) : b.toNat < 256 := b.toNat_lt

theorem varN_pos (u : Nat) : 1 ≤ (varN u).length := by
  by_cases h : u < 128
  · rw [varN_small h]; simp
  · rw [varN_big (by omega)]; simp
theorem varN_len {k : Nat} {u : Nat} (h : u < 128 ^ (k + 1)) : (varN u).length ≤ k + 1 := by
  induction k generalizing u with
  | zero => rw [varN_small (by simpa using h)]; simp
  | succ k ih =>
    by_cases hu : u < 128
    · rw [varN_small hu]; simp
    · rw [varN_big (by omega)]
      have : u / 128 < 128 ^ (k + 1) := by rw [Nat.div_lt_iff_lt_mul (by omega)]; rw [Nat.pow_succ] at h; omega
      simpa using ih this
theorem varN_len64 {u : Nat} (h : u < 2 ^ 64) : (varN u).length ≤ 10 := varN_len (k := 9) (Nat.lt_trans h (by decide))

def decG : Nat → Nat → List UInt8 → Option (Nat × Nat)
  | _, _, [] => none
  | i, acc, b :: l =>
    if i = 9 ∧ 1 < b.toNat then none
    else if b.toNat < 128 then (if b.toNat = 0 ∧ 0 < i then none else some (acc + b.toNat % 128 * 128 ^ i, i + 1))
    else decG (i + 1) (acc + b.toNat % 128 * 128 ^ i) l

def dec (l : List UInt8) : Option (Nat × Nat) := decG 0 0 l

theorem two_split {i : Nat} (hi : i < 9) : 2 ^ (64 - 7 * i) = 2 ^ (64 - 7 * (i + 1)) * 128 := by
  rw [show 64 - 7 * i = (64 - 7 * (i + 1)) + 7 from by omega, Nat.pow_add]

theorem decG_var (i acc u : Nat) (rest : List UInt8) (hi : i ≤ 9) (hu : u < 2 ^ (64 - 7 * i)) (hz : 0 < i → 0 < u) :
    decG i acc (varN u ++ rest) = some (acc + u * 128 ^ i, i + (varN u).length) := by
  induction u using Nat.strongRecOn generalizing i acc with
  | ind u ih =>
    by_cases h : u < 128
    · rw [varN_small h]
      simp only [List.cons_append, List.nil_append, decG, nat_u8 (show u < 256 by omega)]
      have h9 : ¬ (i = 9 ∧ 1 < u) := by rintro ⟨rfl, h2⟩; simp at hu; omega
      rw [if_neg h9, if_pos h, if_neg (by rintro ⟨h1, h2⟩; have := hz h2; omega), Nat.mod_eq_of_lt h]
      simp
    · rw [varN_big (by omega)]
      have h9 : i < 9 := by
        refine Nat.lt_of_le_of_ne hi fun e => ?_
        subst e; simp at hu; omega
      simp only [List.cons_append, decG, nat_u8 (show u % 128 + 128 < 256 by omega)]
      rw [if_neg (by omega), if_neg (by omega), show (u % 128 + 128) % 128 = u % 128 from by omega]
      rw [ih (u / 128) (by omega) (i + 1) _ (by omega) (by rw [two_split h9] at hu; rw [Nat.div_lt_iff_lt_mul (by omega)]; exact hu) (by omega)]
      have e : acc + u % 128 * 128 ^ i + u / 128 * 128 ^ (i + 1) = acc + u * 128 ^ i := by
        have := Nat.div_add_mod u 128
        have h2 : u / 128 * 128 ^ (i + 1) = (128 * (u / 128)) * 128 ^ i := by rw [Nat.pow_succ]; ac_rfl
        rw [h2, Nat.add_assoc, ← Nat.add_mul]; congr 2; omega
      rw [e]; simp; omega

theorem decG_some (l : List UInt8) (i acc n g : Nat) (hi : i ≤ 9) (h : decG i acc l = some (n, g)) :
    ∃ u rest, l = varN u ++ rest ∧ n = acc + u * 128 ^ i ∧ g = i + (varN u).length ∧ u < 2 ^ (64 - 7 * i) ∧ (0 < i → 0 < u) := by
  induction l generalizing i acc with
  | nil => simp [decG] at h
  | cons b l ih =>
    simp only [decG] at h
    by_cases h9 : i = 9 ∧ 1 < b.toNat
    · rw [if_pos h9] at h; simp at h
    · rw [if_neg h9] at h
      by_cases hb : b.toNat < 128
      · rw [if_pos hb] at h
        by_cases hz : b.toNat = 0 ∧ 0 < i
        · rw [if_pos hz] at h; simp at h
        · rw [if_neg hz] at h
          simp only [Option.some.injEq, Prod.mk.injEq] at h
          refine ⟨b.toNat, l, ?_, ?_, ?_, ?_, by omega⟩
          · rw [varN_small hb, u8_nat]; rfl
          · rw [← h.1, Nat.mod_eq_of_lt hb]
          · rw [← h.2, varN_small hb]; rfl
          · by_cases e : i = 9
            · subst e; simp; omega
            · have h7 : 2 ^ 7 ≤ 2 ^ (64 - 7 * i) := Nat.pow_le_pow_right (by omega) (by omega)
              rw [show (2 : Nat) ^ 7 = 128 from rfl] at h7
              omega
      · rw [if_neg hb] at h
        have h9' : i < 9 := by
          refine Nat.lt_of_le_of_ne hi fun e => h9 ⟨e, by omega⟩
        obtain ⟨u, rest, e1, e2, e3, e4, e5⟩ := ih (i + 1) _ (by omega) h
        have hb2 := u8lt b
        have hu : 0 < u := e5 (by omega)
        refine ⟨u * 128 + (b.toNat - 128), rest, ?_, ?_, ?_, ?_, by omega⟩
        · rw [varN_big (by omega), e1, show (u * 128 + (b.toNat - 128)) % 128 + 128 = b.toNat from by omega, u8_nat, show (u * 128 + (b.toNat - 128)) / 128 = u from by omega]; rfl
        · rw [e2, show b.toNat % 128 = b.toNat - 128 from by omega, Nat.add_mul, Nat.pow_succ]
          generalize 128 ^ i = q
          rw [show u * (q * 128) = u * 128 * q from by ac_rfl]
          omega
        · rw [e3, varN_big (u := u * 128 + (b.toNat - 128)) (by omega), show (u * 128 + (b.toNat - 128)) / 128 = u from by omega]; simp; omega
        · rw [two_split h9']
          have := Nat.mul_le_mul_right 128 (show u + 1 ≤ 2 ^ (64 - 7 * (i + 1)) from e4)
          omega

theorem dec_var {u : Nat} (h : u < 2 ^ 64) (rest : List UInt8) : dec (varN u ++ rest) = some (u, (varN u).length) := by
  have := decG_var 0 0 u rest (by omega) (by simpa using h) (by omega)
  simpa [dec] using this
theorem dec_some {l : List UInt8} {n g : Nat} (h : dec l = some (n, g)) : n < 2 ^ 64 ∧ g = (varN n).length ∧ ∃ rest, l = varN n ++ rest := by
  obtain ⟨u, rest, e1, e2, e3, e4, _⟩ := decG_some l 0 0 n g (by omega) h
  simp at e2 e3 e4
  subst e2
  exact ⟨e4, e3, rest, e1⟩
/-- no form is the beginning of another one -/
theorem varN_prefix {a b : Nat} (ha : a < 2 ^ 64) (hb : b < 2 ^ 64) {r s : List UInt8} (h : varN a ++ r = varN b ++ s) : a = b ∧ r = s := by
  have h1 := dec_var ha r
  rw [h, dec_var hb s] at h1
  simp only [Option.some.injEq, Prod.mk.injEq] at h1
  have := h1.1; subst this
  exact ⟨rfl, List.append_cancel_left h⟩
/-- a form that is cut is none -/
theorem dec_cut {u k : Nat} (hu : u < 2 ^ 64) (hk : k < (varN u).length) : dec ((varN u).take k) = none := by
  cases h : dec ((varN u).take k) with
  | none => rfl
  | some p =>
    obtain ⟨n, g⟩ := p
    obtain ⟨h1, h2, rest, h3⟩ := dec_some h
    exfalso
    have h4 : varN u ++ [] = varN n ++ (rest ++ (varN u).drop k) := by
      rw [← List.append_assoc, ← h3, List.append_nil, List.take_append_drop]
    have h5 := (varN_prefix hu h1 h4).2
    have h6 := congrArg List.length h5
    simp at h6; omega

/-- the reference's decoder -/
def refG (l0 : List UInt8) : Nat → Nat → List UInt8 → Option (Nat × Nat)
  | _, _, [] => none
  | i, acc, b :: l =>
    if 10 ≤ i then none
    else if b.toNat < 128 then (if varN ((acc + b.toNat % 128 * (128 ^ i % 2 ^ 64)) % 2 ^ 64) = l0.take (i + 1) then some ((acc + b.toNat % 128 * (128 ^ i % 2 ^ 64)) % 2 ^ 64, i + 1) else none)
    else refG l0 (i + 1) ((acc + b.toNat % 128 * (128 ^ i % 2 ^ 64)) % 2 ^ 64) l

theorem refG_some (l0 l : List UInt8) (i acc n g : Nat) (hl : l0.drop i = l) (h : refG l0 i acc l = some (n, g)) : n < 2 ^ 64 ∧ varN n = l0.take g ∧ g ≤ l0.length := by
  induction l generalizing i acc with
  | nil => simp [refG] at h
  | cons b l ih =>
    have hlen : i + 1 ≤ l0.length := by
      have := congrArg List.length hl
      simp at this; omega
    have hl2 : l0.drop (i + 1) = l := by rw [← List.drop_drop, hl]; rfl
    simp only [refG] at h
    by_cases h10 : 10 ≤ i
    · rw [if_pos h10] at h; simp at h
    · rw [if_neg h10] at h
      by_cases hb : b.toNat < 128
      · rw [if_pos hb] at h
        split at h
        · next hv =>
          simp only [Option.some.injEq, Prod.mk.injEq] at h
          obtain ⟨rfl, rfl⟩ := h
          exact ⟨Nat.mod_lt _ (by decide), hv, hlen⟩
        · simp at h
      · rw [if_neg hb] at h
        exact ih _ _ hl2 h

theorem pow128 {i : Nat} (h : i ≤ 9) : 128 ^ i % 2 ^ 64 = 128 ^ i :=
  Nat.mod_eq_of_lt (Nat.lt_of_le_of_lt (Nat.pow_le_pow_right (by omega) h) (by decide))

theorem refG_var (l0 : List UInt8) (n i acc u : Nat) (rest : List UInt8) (hi : i ≤ 9) (hu : u < 2 ^ (64 - 7 * i)) (hn : n = acc + u * 128 ^ i) (hn64 : n < 2 ^ 64) (hv : varN n = l0.take (i + (varN u).length)) :
    refG l0 i acc (varN u ++ rest) = some (n, i + (varN u).length) := by
  induction u using Nat.strongRecOn generalizing i acc with
  | ind u ih =>
    by_cases h : u < 128
    · rw [varN_small h] at hv ⊢
      simp only [List.cons_append, List.nil_append, refG, nat_u8 (show u < 256 by omega), List.length_cons, List.length_nil] at hv ⊢
      rw [if_neg (by omega), if_pos h, pow128 hi, Nat.mod_eq_of_lt h, ← hn, Nat.mod_eq_of_lt hn64, if_pos hv]
    · rw [varN_big (u := u) (by omega)] at hv ⊢
      have h9 : i < 9 := by
        refine Nat.lt_of_le_of_ne hi fun e => ?_
        subst e; simp at hu; omega
      simp only [List.cons_append, refG, nat_u8 (show u % 128 + 128 < 256 by omega), List.length_cons] at hv ⊢
      have e : acc + u % 128 * 128 ^ i + u / 128 * 128 ^ (i + 1) = acc + u * 128 ^ i := by
        have := Nat.div_add_mod u 128
        have h2 : u / 128 * 128 ^ (i + 1) = (128 * (u / 128)) * 128 ^ i := by rw [Nat.pow_succ]; ac_rfl
        rw [h2, Nat.add_assoc, ← Nat.add_mul]; congr 2; omega
      have hle : acc + u % 128 * 128 ^ i ≤ n := by rw [hn, ← e]; omega
      rw [if_neg (by omega), if_neg (by omega), pow128 hi, show (u % 128 + 128) % 128 = u % 128 from by omega, Nat.mod_eq_of_lt (Nat.lt_of_le_of_lt hle hn64)]
      rw [ih (u / 128) (by omega) (i + 1) _ (by omega) (by rw [two_split h9] at hu; rw [Nat.div_lt_iff_lt_mul (by omega)]; exact hu) (by rw [hn, e]) (by rw [hv]; congr 1; omega)]
      simp; omega

theorem refG_dec (l : List UInt8) : refG l 0 0 l = dec l := by
  cases h : dec l with
  | none =>
    cases h2 : refG l 0 0 l with
    | none => rfl
    | some p =>
      obtain ⟨n, g⟩ := p
      obtain ⟨h3, h4, h5⟩ := refG_some l l 0 0 n g rfl h2
      have := dec_var h3 (l.drop g)
      rw [h4, List.take_append_drop, h] at this
      simp at this
  | some p =>
    obtain ⟨n, g⟩ := p
    obtain ⟨h1, h2, rest, h3⟩ := dec_some h
    have := refG_var l n 0 0 n rest (by omega) (by simpa using h1) (by simp) h1 (by rw [h3]; simp)
    rw [← h3] at this
    rw [this, h2]; simp

/-- the number that big-endian bytes say -/
def be (l : List UInt8) : Nat := l.foldl (fun n b => n * 256 + b.toNat) 0
/-- the low k bytes of u, big end first -/
def putN : Nat → Nat → List UInt8
  | _, 0 => []
  | u, k + 1 => putN (u / 256) k ++ [UInt8.ofNat (u % 256)]
theorem putN_len (u k : Nat) : (putN u k).length = k := by
  induction k generalizing u with
  | zero => rfl
  | succ k ih => simp [putN, ih]
theorem be_snoc (l : List UInt8) (b : UInt8) : be (l ++ [b]) = be l * 256 + b.toNat := by simp [be]
theorem be_put (u k : Nat) : be (putN u k) = u % 256 ^ k := by
  induction k generalizing u with
  | zero => simp [putN, be, Nat.mod_one]
  | succ k ih =>
    rw [putN, be_snoc, ih, nat_u8 (by omega), Nat.pow_succ, Nat.mul_comm (256 ^ k), Nat.mod_mul, Nat.mul_comm 256]; omega
theorem be_lt (l : List UInt8) : be l < 256 ^ l.length := by
  have : ∀ l : List UInt8, be l.reverse < 256 ^ l.length := by
    intro l
    induction l with
    | nil => simp [be]
    | cons b l ih =>
      rw [List.reverse_cons, be_snoc, List.length_cons, Nat.pow_succ]
      have := u8lt b; omega
  simpa using this l.reverse
end Go.Proofs.YtbodmeiecdomfaaGreat.O.Leb
