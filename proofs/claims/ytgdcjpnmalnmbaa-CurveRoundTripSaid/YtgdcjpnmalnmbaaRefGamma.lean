/-
  The reference's above and Gamma.
-/
import Derived.Test.YtgdcjpnmalnmbaaDigits
import Derived.Test.YtgdcjpnmalnmbaaRoot
import Derived.Test.YtgdcjpnmalnmbaaRefLine
namespace Go.Proofs.Ytgdcjpnmalnmbaa
open Go.RowKit
variable {w : World}

theorem above_iff {a b : List Nat} (hl : a.length = b.length) (ha : Dg a) (hb : Dg b) {i : Nat} (hi : i < a.length) (he : a.drop (i + 1) = b.drop (i + 1)) (hne : a.getD i 0 ≠ b.getD i 0) :
    decide (b.getD i 0 < a.getD i 0) = decide (dv b < dv a) := by
  rw [decide_eq_decide]
  constructor
  · exact dv_above hl.symm hb (by omega) he.symm
  · intro h
    rcases Nat.lt_or_ge (b.getD i 0) (a.getD i 0) with h1 | h1
    · exact h1
    · have := dv_above hl ha hi he (by omega); omega
theorem drop_step {a b : List Nat} (hl : a.length = b.length) {i : Nat} (hi : i < a.length) (he : a.drop (i + 1) = b.drop (i + 1)) (h : a.getD i 0 = b.getD i 0) : a.drop i = b.drop i := by
  rw [List.drop_eq_getElem_cons hi, List.drop_eq_getElem_cons (show i < b.length by omega), he]
  congr 1
  simpa [List.getD, hi, show i < b.length by omega] using h
/-- one call of the search for a gamma curve's value -/
theorem over_eq {num den n i y : Nat} (hd : 1 ≤ den) (hy : y ≤ 65535) : decide (dv (rz 65535 den i num) < dv (rz y den (n - 1) num)) = decide (gam num den n i < y) := by
  rw [decide_eq_decide, rz_dv, rz_dv]
  have h := gam_spec (num := num) (n := n) (i := i) hd hy
  constructor
  · intro h1
    rcases Nat.lt_or_ge (gam num den n i) y with h2 | h2
    · exact h2
    · have := h.1 h2; omega
  · intro h1
    rcases Nat.lt_or_ge (65535 ^ den * i ^ num) (y ^ den * (n - 1) ^ num) with h2 | h2
    · exact h2
    · have := h.2 h2; omega
end Go.Proofs.Ytgdcjpnmalnmbaa
