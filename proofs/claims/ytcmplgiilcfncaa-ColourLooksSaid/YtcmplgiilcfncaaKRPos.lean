/-
  The reference's way through a cell of a grid: its sort of the axes, and the corners' places, in plain mathematics.
-/
import Derived.Test.YtcmplgiilcfncaaKIpl
namespace Go.Proofs.Ytcmplgiilcfncaa.K
open Go.RowKit

def st2 (f : Nat → Int) (t : T3) : T3 := if f t.b < f t.c then ⟨t.a, t.c, t.b⟩ else t
theorem bub_eq (f : Nat → Int) : ins1 f (st2 f (ins1 f ⟨0, 1, 2⟩)) = insO f 3 := by
  unfold insO ins2 st2 ins1
  by_cases h1 : f 0 < f 1 <;> by_cases h2 : f 1 < f 2 <;> by_cases h3 : f 0 < f 2 <;> simp [h1, h2, h3] <;> omega
/-- one step along an axis -/
def inc (t : Nat) (a : C3) : C3 := ⟨if t = 0 then a.r + 1 else a.r, if t = 1 then a.g + 1 else a.g, if t = 2 then a.b + 1 else a.b⟩
def plc (n : Int) (a : C3) : Int := a.r * (n * n) + a.g * n + a.b
theorem plc_inc {t : Nat} (ht : t < 3) (n : Int) (a : C3) : plc n (inc t a) = plc n a + strd n t := by
  rcases (by omega : t = 0 ∨ t = 1 ∨ t = 2) with rfl | rfl | rfl <;> simp [plc, inc, strd, f3, Int.add_mul] <;> omega
theorem inc_set {t : Nat} (ht : t < 3) (a : C3) : (#[.int .i64 a.r, .int .i64 a.g, .int .i64 a.b] : Array Value).setIfInBounds t (.int .i64 (f3 a.r a.g a.b t + 1)) = #[.int .i64 (inc t a).r, .int .i64 (inc t a).g, .int .i64 (inc t a).b] := by
  rcases (by omega : t = 0 ∨ t = 1 ∨ t = 2) with rfl | rfl | rfl <;> rfl
def InB (n : Int) (a : C3) : Prop := (0 ≤ a.r ∧ a.r ≤ n - 1) ∧ (0 ≤ a.g ∧ a.g ≤ n - 1) ∧ (0 ≤ a.b ∧ a.b ≤ n - 1)
theorem inc_bd {n : Int} {a : C3} {ta tb tc : Nat} (ha : (0 ≤ a.r ∧ a.r ≤ n - 2) ∧ (0 ≤ a.g ∧ a.g ≤ n - 2) ∧ (0 ≤ a.b ∧ a.b ≤ n - 2)) (hp : Perm3 ⟨ta, tb, tc⟩) :
    InB n a ∧ InB n (inc ta a) ∧ InB n (inc tb (inc ta a)) ∧ InB n (inc tc (inc tb (inc ta a))) := by
  unfold Perm3 at hp
  simp only [T3.mk.injEq] at hp
  rcases hp with ⟨rfl, rfl, rfl⟩ | ⟨rfl, rfl, rfl⟩ | ⟨rfl, rfl, rfl⟩ | ⟨rfl, rfl, rfl⟩ | ⟨rfl, rfl, rfl⟩ | ⟨rfl, rfl, rfl⟩ <;> simp [InB, inc] <;> omega
theorem pos_facts {n : Nat} (h2 : 2 ≤ n) (h17 : n ≤ 17) {N : Nat} (hl : N = n * n * n) {a : C3} (ha : InB n a) : ∃ (y z u : Int) (Q : Nat),
    (IntKind.i64.wrap (a.r * n) = y ∧ wrap64 (a.r * n) = y) ∧ (IntKind.i64.wrap (y + a.g) = z ∧ wrap64 (y + a.g) = z) ∧ (IntKind.i64.wrap (z * n) = u ∧ wrap64 (z * n) = u) ∧ (IntKind.i64.wrap (u + a.b) = Q ∧ wrap64 (u + a.b) = Q) ∧ plc n a = Q ∧ Q < N := by
  obtain ⟨⟨r0, r1⟩, ⟨g0, g1⟩, ⟨b0, b1⟩⟩ := ha
  have hb2 : n * n ≤ 17 * 17 := Nat.mul_le_mul h17 h17
  have hb3 : n * n * n ≤ 17 * 17 * 17 := Nat.mul_le_mul hb2 h17
  obtain ⟨p0, p1⟩ := place_lt (n := (n : Int)) (by omega) r0 r1 g0 g1 b0 b1
  have i3 : (n : Int) * n * n = (n * n * n : Nat) := by simp
  rw [i3] at p1
  have hy := mul_bd r0 (by omega : a.r ≤ 16) (by omega : (0 : Int) ≤ n) (by omega : (n : Int) ≤ 17)
  have e : (a.r * n + a.g) * (n : Int) = a.r * ((n : Int) * n) + a.g * n := by rw [Int.add_mul, Int.mul_assoc]
  have hz := mul_bd (by omega : 0 ≤ a.r * n + a.g) (by omega : a.r * n + a.g ≤ 288) (by omega : (0 : Int) ≤ n) (by omega : (n : Int) ≤ 17)
  have hpl : plc n a = (a.r * n + a.g) * (n : Int) + a.b := by rw [e]; rfl
  have hQ : 0 ≤ plc n a ∧ plc n a < (n * n * n : Nat) := ⟨p0, p1⟩
  refine ⟨a.r * n, a.r * n + a.g, (a.r * n + a.g) * n, (plc n a).toNat, ⟨wr_in (by omega), wrap_in (by omega)⟩, ⟨wr_in (by omega), wrap_in (by omega)⟩, ⟨wr_in (by omega), wrap_in (by omega)⟩, ?_, by omega, by omega⟩
  rw [← hpl]
  exact ⟨by rw [wr_in (by omega)]; omega, by rw [wrap_in (by omega)]; omega⟩
theorem mul_facts {s x m : Int} (hx : Gm x) (m0 : 0 ≤ m) (m1 : m ≤ 65535) (h0 : 0 ≤ s) (h1 : s ≤ 100000000000) : ∃ M : Int, (IntKind.i64.wrap (m * x) = M ∧ wrap64 (m * x) = M) ∧ (IntKind.i64.wrap (s + M) = s + x * m ∧ wrap64 (s + M) = s + x * m) := by
  have h := mul_bd m0 m1 hx.1 hx.2
  refine ⟨m * x, ⟨wr_in (by omega), wrap_in (by omega)⟩, ?_, ?_⟩
  · rw [wr_in (by omega), Int.mul_comm]
  · rw [wrap_in (by omega), Int.mul_comm]
end Go.Proofs.Ytcmplgiilcfncaa.K
