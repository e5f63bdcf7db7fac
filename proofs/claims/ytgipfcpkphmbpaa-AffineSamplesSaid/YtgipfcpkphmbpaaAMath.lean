/-
  Placements as plain numbers: validity, greatest common divisors, lowest terms.
-/
import Derived.Test.YtgipfcpkphmbpaaLaw
import Derived.Test.YtgipfcpkphmbpaaMath
namespace Go.Proofs.Ytgipfcpkphmbpaa.F
open Go.RowKit

/-- a placement -/
structure Af where
  (a b c d e f n : Int)
abbrev av (a b c d e f n : Int) : Value := .agg #[.int .i64 a, .int .i64 b, .int .i64 c, .int .i64 d, .int .i64 e, .int .i64 f, .int .i64 n]
abbrev ao (a b c d e f n : Int) : Obj := .cells #[.int .i64 a, .int .i64 b, .int .i64 c, .int .i64 d, .int .i64 e, .int .i64 f, .int .i64 n] 23
abbrev Af.v (x : Af) : Value := av x.a x.b x.c x.d x.e x.f x.n
abbrev Af.o (x : Af) : Obj := ao x.a x.b x.c x.d x.e x.f x.n
def det (x : Af) : Int := x.a * x.e - x.b * x.d
/-- the bounds of a valid placement -/
def Bd (x : Af) : Prop := (1 ≤ x.n ∧ x.n ≤ 4096) ∧ (-4096 ≤ x.a ∧ x.a ≤ 4096) ∧ (-4096 ≤ x.b ∧ x.b ≤ 4096) ∧ (-4096 ≤ x.d ∧ x.d ≤ 4096) ∧ (-4096 ≤ x.e ∧ x.e ≤ 4096) ∧ (-268435456 ≤ x.c ∧ x.c ≤ 268435456) ∧ (-268435456 ≤ x.f ∧ x.f ≤ 268435456)
def Ok (x : Af) : Prop := Bd x ∧ det x ≠ 0
instance (x : Af) : Decidable (Bd x) := by unfold Bd; infer_instance
instance (x : Af) : Decidable (Ok x) := by unfold Ok; infer_instance
def okA (x : Af) : Bool := decide (Ok x)
theorem okA_iff (x : Af) : okA x = true ↔ Ok x := by unfold okA; simp

theorem mul_le_of {x y a b : Int} (hx : -a ≤ x ∧ x ≤ a) (hy : -b ≤ y ∧ y ≤ b) : -(a * b) ≤ x * y ∧ x * y ≤ a * b := by
  have h1 : 0 ≤ (a - x) * (b + y) := Int.mul_nonneg (by omega) (by omega)
  have h2 : 0 ≤ (a + x) * (b - y) := Int.mul_nonneg (by omega) (by omega)
  have h3 : 0 ≤ (a - x) * (b - y) := Int.mul_nonneg (by omega) (by omega)
  have h4 : 0 ≤ (a + x) * (b + y) := Int.mul_nonneg (by omega) (by omega)
  have e1 : (a - x) * (b + y) = a * b + a * y - x * b - x * y := by grind
  have e2 : (a + x) * (b - y) = a * b - a * y + x * b - x * y := by grind
  have e3 : (a - x) * (b - y) = a * b - a * y - x * b + x * y := by grind
  have e4 : (a + x) * (b + y) = a * b + a * y + x * b + x * y := by grind
  rw [e1] at h1; rw [e2] at h2; rw [e3] at h3; rw [e4] at h4
  generalize a * b = p at *
  generalize a * y = q at *
  generalize x * b = r at *
  generalize x * y = s at *
  omega
theorem w64 {x : Int} (h : -9000000000000000000 ≤ x ∧ x ≤ 9000000000000000000) : wrap64 x = x := IntWalk.wrap64_in _ ⟨by omega, by omega⟩
theorem wI64 {x : Int} (h : -9000000000000000000 ≤ x ∧ x ≤ 9000000000000000000) : IntKind.i64.wrap x = x := IntWalk.i64_in _ ⟨by omega, by omega⟩
theorem det_bd {x : Af} (h : Bd x) : -33554432 ≤ det x ∧ det x ≤ 33554432 := by
  obtain ⟨_, ha, hb, hd, he, _, _⟩ := h
  have h1 := mul_le_of ha he
  have h2 := mul_le_of hb hd
  unfold det
  generalize x.a * x.e = p at *
  generalize x.b * x.d = q at *
  omega

/-- the greatest common divisor of a list -/
def gl (l : List Int) : Nat := l.foldl (fun g v => Nat.gcd g v.natAbs) 0
theorem gl_snoc (l : List Int) (v : Int) : gl (l ++ [v]) = Nat.gcd (gl l) v.natAbs := by unfold gl; rw [List.foldl_append]; rfl
theorem foldl_gcd (l : List Int) (g : Nat) : l.foldl (fun g v => Nat.gcd g v.natAbs) g = Nat.gcd g (gl l) := by
  unfold gl
  induction l generalizing g with
  | nil => simp
  | cons v l ih => simp only [List.foldl_cons]; rw [ih, ih (Nat.gcd 0 v.natAbs)]; rw [Nat.gcd_zero_left, Nat.gcd_assoc]
theorem gl_cons (v : Int) (l : List Int) : gl (v :: l) = Nat.gcd v.natAbs (gl l) := by
  show List.foldl _ (Nat.gcd 0 v.natAbs) l = _
  rw [foldl_gcd, Nat.gcd_zero_left]
theorem gl_dvd (l : List Int) : ∀ v ∈ l, (gl l : Int) ∣ v := by
  induction l with
  | nil => intro v h; cases h
  | cons a l ih =>
    intro v h
    rw [gl_cons]
    rcases List.mem_cons.1 h with rfl | h
    · exact Int.ofNat_dvd_left.2 (Nat.gcd_dvd_left _ _)
    · exact Int.dvd_trans (Int.natCast_dvd_natCast.2 (Nat.gcd_dvd_right _ _)) (ih v h)
theorem dvd_gl (k : Nat) (l : List Int) (h : ∀ v ∈ l, (k : Int) ∣ v) : k ∣ gl l := by
  induction l with
  | nil => exact ⟨0, rfl⟩
  | cons a l ih =>
    rw [gl_cons]
    exact Nat.dvd_gcd (Int.ofNat_dvd_left.1 (h a (by simp))) (ih fun v hv => h v (by simp [hv]))
theorem gl_scale (k : Nat) (l : List Int) : gl (l.map (fun v => (k : Int) * v)) = k * gl l := by
  induction l with
  | nil => rfl
  | cons a l ih => rw [List.map_cons, gl_cons, gl_cons, ih, Int.natAbs_mul, Int.natAbs_natCast, Nat.gcd_mul_left]
theorem gl_le (l : List Int) (v : Int) (h : v ∈ l) (h0 : v ≠ 0) : 1 ≤ gl l ∧ (gl l : Int) ≤ v.natAbs := by
  have h1 := gl_dvd l v h
  have h2 : gl l ∣ v.natAbs := Int.ofNat_dvd_left.1 h1
  have h3 : 0 < v.natAbs := Int.natAbs_pos.2 h0
  exact ⟨Nat.pos_of_dvd_of_pos h2 h3, by exact_mod_cast Nat.le_of_dvd h3 h2⟩

def Af.l (x : Af) : List Int := [x.a, x.b, x.c, x.d, x.e, x.f, x.n]
def g7 (x : Af) : Nat := gl x.l
/-- all fields divided by their greatest common divisor -/
def low (x : Af) : Af := ⟨x.a / (g7 x : Int), x.b / (g7 x : Int), x.c / (g7 x : Int), x.d / (g7 x : Int), x.e / (g7 x : Int), x.f / (g7 x : Int), x.n / (g7 x : Int)⟩
def sca (k : Int) (x : Af) : Af := ⟨k * x.a, k * x.b, k * x.c, k * x.d, k * x.e, k * x.f, k * x.n⟩
theorem g7_pos {x : Af} (h : x.n ≠ 0) : 1 ≤ g7 x := (gl_le x.l x.n (by simp [Af.l]) h).1
theorem g7_dvd (x : Af) : ∀ v ∈ x.l, (g7 x : Int) ∣ v := gl_dvd x.l
theorem div_mul {g v : Int} (h : g ∣ v) : g * (v / g) = v := Int.mul_ediv_cancel' h
theorem sca_low (x : Af) : sca (g7 x) (low x) = x := by
  have h := g7_dvd x
  unfold sca low
  simp only
  rw [div_mul (h x.a (by simp [Af.l])), div_mul (h x.b (by simp [Af.l])), div_mul (h x.c (by simp [Af.l])), div_mul (h x.d (by simp [Af.l])), div_mul (h x.e (by simp [Af.l])), div_mul (h x.f (by simp [Af.l])), div_mul (h x.n (by simp [Af.l]))]
theorem g7_sca (k : Nat) (x : Af) : g7 (sca k x) = k * g7 x := gl_scale k x.l
theorem low_sca (k : Nat) (x : Af) (hk : 1 ≤ k) : low (sca k x) = low x := by
  have hk' : (k : Int) ≠ 0 := by omega
  have e : ∀ v : Int, (k : Int) * v / ((k * g7 x : Nat) : Int) = v / (g7 x : Int) := fun v => by
    rw [Int.natCast_mul, Int.mul_ediv_mul_of_pos _ _ (by omega)]
  unfold low
  rw [g7_sca]
  unfold sca
  simp only [e]
theorem low_sca' (k : Int) (x : Af) (hk : 1 ≤ k) : low (sca k x) = low x := by
  have := low_sca k.toNat x (by omega)
  rw [show ((k.toNat : Nat) : Int) = k by omega] at this; exact this
theorem low_low {x : Af} (h : x.n ≠ 0) : low (low x) = low x := by
  have h1 := low_sca (g7 x) (low x) (g7_pos h)
  rw [sca_low] at h1
  exact h1.symm
theorem det_sca (k : Int) (x : Af) : det (sca k x) = k * k * det x := by unfold det sca; simp only; grind
theorem ediv_bd {v B g : Int} (h : -B ≤ v ∧ v ≤ B) (hg : 1 ≤ g) (hd : g ∣ v) : -B ≤ v / g ∧ v / g ≤ B := by
  have h1 := div_mul hd
  generalize v / g = q at h1
  subst h1
  constructor
  · by_cases hq : 0 ≤ q
    · have : 0 ≤ g * q := Int.mul_nonneg (by omega) hq
      omega
    · have : g * q ≤ 1 * q := Int.mul_le_mul_of_nonpos_right hg (by omega)
      omega
  · by_cases hq : 0 ≤ q
    · have : 1 * q ≤ g * q := Int.mul_le_mul_of_nonneg_right hg hq
      omega
    · have : g * q ≤ 1 * q := Int.mul_le_mul_of_nonpos_right hg (by omega)
      omega
theorem low_ok {x : Af} (h : Ok x) : Ok (low x) := by
  obtain ⟨⟨hn, ha, hb, hd, he, hc, hf⟩, h0⟩ := h
  have hg : (1 : Int) ≤ (g7 x : Int) := by have := g7_pos (x := x) (by omega); omega
  have hv := g7_dvd x
  have hs := sca_low x
  refine ⟨⟨⟨?_, ?_⟩, ?_, ?_, ?_, ?_, ?_, ?_⟩, ?_⟩
  · have h1 : (g7 x : Int) * (low x).n = x.n := div_mul (hv x.n (by simp [Af.l]))
    by_cases h2 : 1 ≤ (low x).n
    · exact h2
    · have : (g7 x : Int) * (low x).n ≤ 0 := Int.mul_nonpos_of_nonneg_of_nonpos (by omega) (by omega)
      omega
  · exact (ediv_bd (B := 4096) (by omega) hg (hv x.n (by simp [Af.l]))).2
  · exact ediv_bd ha hg (hv x.a (by simp [Af.l]))
  · exact ediv_bd hb hg (hv x.b (by simp [Af.l]))
  · exact ediv_bd hd hg (hv x.d (by simp [Af.l]))
  · exact ediv_bd he hg (hv x.e (by simp [Af.l]))
  · exact ediv_bd hc hg (hv x.c (by simp [Af.l]))
  · exact ediv_bd hf hg (hv x.f (by simp [Af.l]))
  · intro h2
    apply h0
    rw [← hs, det_sca, h2, Int.mul_zero]
end Go.Proofs.Ytgipfcpkphmbpaa.F
