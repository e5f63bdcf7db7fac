/-
  The transform of colours and its inverse (contracts), their maths.
-/
import Derived.Test.YtjaipjgnchpjcaaTOps
namespace Go.Proofs.Ytjaipjgnchpjcaa.P
open Go.RowKit T

def b8 (x : Int) : Int := x % 256
/-- y, u and v of a colour, and the way back -/
def sU (r b : Int) : Int := b8 (r - b)
def sM (r b : Int) : Int := b8 (b + sU r b / 2)
def sV (r g b : Int) : Int := b8 (g - sM r b)
def sY (r g b : Int) : Int := b8 (sM r b + sV r g b / 2)
def kM (y v : Int) : Int := b8 (y - v / 2)
def kG (y v : Int) : Int := b8 (v + kM y v)
def kB (y u v : Int) : Int := b8 (kM y v - u / 2)
def kR (y u v : Int) : Int := b8 (kB y u v + u)
theorem b8_ch (x : Int) : Ch (b8 x) := by unfold b8; constructor <;> omega
theorem back_swap {r g b : Int} (hr : Ch r) (hg : Ch g) (hb : Ch b) : kR (sY r g b) (sU r b) (sV r g b) = r ∧ kG (sY r g b) (sV r g b) = g ∧ kB (sY r g b) (sU r b) (sV r g b) = b := by
  unfold Ch at *
  have e : kM (sY r g b) (sV r g b) = sM r b := by
    have h1 := b8_ch (b + sU r b / 2)
    unfold kM sY b8
    unfold sM at *
    unfold b8 at *
    omega
  have e2 : kB (sY r g b) (sU r b) (sV r g b) = b := by
    unfold kB; rw [e]; unfold sM b8; omega
  refine ⟨?_, ?_, e2⟩
  · unfold kR; rw [e2]; unfold sU b8; omega
  · unfold kG; rw [e]; unfold sV b8; omega
theorem swap_back {y u v : Int} (hy : Ch y) (hu : Ch u) (hv : Ch v) : sY (kR y u v) (kG y v) (kB y u v) = y ∧ sU (kR y u v) (kB y u v) = u ∧ sV (kR y u v) (kG y v) (kB y u v) = v := by
  unfold Ch at *
  have e1 : sU (kR y u v) (kB y u v) = u := by
    unfold sU kR b8; omega
  have e2 : sM (kR y u v) (kB y u v) = kM y v := by
    unfold sM; rw [e1]; unfold kB; have := b8_ch (y - v / 2); unfold kM at *; unfold b8 at *; omega
  have e3 : sV (kR y u v) (kG y v) (kB y u v) = v := by
    unfold sV; rw [e2]; unfold kG b8; omega
  refine ⟨?_, e1, e3⟩
  unfold sY; rw [e2, e3]; unfold kM b8; omega
theorem swap_grey {r : Int} (hr : Ch r) : sY r r r = r ∧ sU r r = 0 ∧ sV r r r = 0 := by
  unfold Ch at *
  have e1 : sU r r = 0 := by unfold sU b8; omega
  have e2 : sM r r = r := by unfold sM; rw [e1]; unfold b8; omega
  have e3 : sV r r r = 0 := by unfold sV; rw [e2]; unfold b8; omega
  refine ⟨?_, e1, e3⟩
  unfold sY; rw [e2, e3]; unfold b8; omega
theorem swap_any (r g b : Int) (w : World) (_hr : Ch r) (_hg : Ch g) (_hb : Ch b) : Calls Try.prog 14 #[.int .u8 r, .int .u8 g, .int .u8 b] w fun e w' => e = .returned (.tuple #[.int .u8 (sY r g b), .int .u8 (sU r b), .int .u8 (sV r g b)]) ∧ w = w' := by
  go_enter Try.func14, Try.ntmps14
  go_wp2
  exact bodyPost_ret (v := .tuple #[.int .u8 (sY r g b), .int .u8 (sU r b), .int .u8 (sV r g b)]) (by simp [results, Try.results14, go_sem, sY, sV, sM, sU, b8]) rfl ⟨rfl, rfl⟩
theorem back_any (y u v : Int) (w : World) (_hy : Ch y) (hu : Ch u) (hv : Ch v) : Calls Try.prog 16 #[.int .u8 y, .int .u8 u, .int .u8 v] w fun e w' => e = .returned (.tuple #[.int .u8 (kR y u v), .int .u8 (kG y v), .int .u8 (kB y u v)]) ∧ w = w' := by
  go_enter Try.func16, Try.ntmps16
  go_wp2
  exact bodyPost_ret (v := .tuple #[.int .u8 (kR y u v), .int .u8 (kG y v), .int .u8 (kB y u v)]) (by simp [results, Try.results16, go_sem, kR, kG, kB, kM, b8]) rfl ⟨rfl, rfl⟩
theorem refSwap_any (r g b : Int) (w : World) (_hr : Ch r) (_hg : Ch g) (_hb : Ch b) : Calls Try.prog 15 #[.agg #[.int .u8 r, .int .u8 g, .int .u8 b]] w fun e w' => e = .returned (.agg #[.int .u8 (sY r g b), .int .u8 (sU r b), .int .u8 (sV r g b)]) ∧ Below w.heap.size w w' := by
  go_enter Try.func15, Try.ntmps15
  go_wp2
  exact bodyPost_ret (v := .agg #[.int .u8 (sY r g b), .int .u8 (sU r b), .int .u8 (sV r g b)]) (by simp [results, Try.results15, go_sem, sY, sV, sM, sU, b8]) rfl ⟨rfl, below1.alloc (by simp) _⟩
theorem count_any (w : World) : Calls Try.prog 11 #[] w fun e w' => e = .returned (.int .i64 6) ∧ w = w' := by
  go_enter Try.func11, Try.ntmps11
  go_wp2
  go_ret
  exact ⟨rfl, rfl⟩
theorem isP_any (k : Int) (w : World) : Calls Try.prog 22 #[.int .i64 k] w fun e w' => e = .returned (.bool (decide (0 ≤ k) && decide (k < 6))) ∧ w = w' := by
  by_cases h0 : 0 ≤ k
  · by_cases h1 : k < 6
    · go_enter Try.func22, Try.ntmps22
      go_wp2_with (go_at_call 11; refine (count_any _).mono ?_; rintro e w1 ⟨rfl, rfl⟩)
      go_ret
      exact ⟨by simp [h0, h1], rfl⟩
    · go_enter Try.func22, Try.ntmps22
      go_wp2_with (go_at_call 11; refine (count_any _).mono ?_; rintro e w1 ⟨rfl, rfl⟩)
      go_ret
      exact ⟨by simp [h0], rfl⟩
  · go_enter Try.func22, Try.ntmps22
    go_wp2_with (go_at_call 11; refine (count_any _).mono ?_; rintro e w1 ⟨rfl, rfl⟩)
    go_ret
    exact ⟨by simp; omega, rfl⟩
end Go.Proofs.Ytjaipjgnchpjcaa.P
