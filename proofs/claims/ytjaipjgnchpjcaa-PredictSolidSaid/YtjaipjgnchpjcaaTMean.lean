/-
  The mean of four pixels (contract of tile's mean).
-/
import Derived.Test.YtjaipjgnchpjcaaTGet
import Derived.Test.YtjaipjgnchpjcaaMeanPix
namespace Go.Proofs.Ytjaipjgnchpjcaa.T
open Go.RowKit Go.Shelf
variable {W w w' : World} {L : List (Nat × Obj)}

/-- the sums of the first k pixels -/
def ma (P : Nat → Px) : Nat → Int
  | 0 => 0
  | k + 1 => ma P k + cnt 1 * (P k).a
def mx (P : Nat → Px) : Nat → Int
  | 0 => 0
  | k + 1 => mx P k + cnt 1 * (P k).a * (P k).r
def my (P : Nat → Px) : Nat → Int
  | 0 => 0
  | k + 1 => my P k + cnt 1 * (P k).a * (P k).g
def mz (P : Nat → Px) : Nat → Int
  | 0 => 0
  | k + 1 => mz P k + cnt 1 * (P k).a * (P k).b
theorem cnt_one : cnt 1 = 1 := by decide
theorem mb_of (P : Nat → Px) (k : Nat) (hk : k ≤ 4) (hP : ∀ j, j < 4 → Pc (P j)) : Mb k (ma P k) (mx P k) (my P k) (mz P k) := by
  induction k with
  | zero => simp [Mb, ma, mx, my, mz]
  | succ k ih =>
    have h := hP k (by omega)
    have := (ih (by omega)).add (k := 1) (by omega) h.1 h.2.1 h.2.2.1 h.2.2.2
    rw [show (k : Int) + cnt 1 = ((k + 1 : Nat) : Int) by rw [cnt_one]; omega] at this
    exact this
/-- the mean of four pixels -/
def m4 (P : Nat → Px) : Px := mpx 4 (ma P 4) (mx P 4) (my P 4) (mz P 4)
theorem m4_congr {P Q : Nat → Px} (h : ∀ j, j < 4 → P j = Q j) : m4 P = m4 Q := by
  simp only [m4, ma, mx, my, mz, h 0 (by omega), h 1 (by omega), h 2 (by omega), h 3 (by omega)]
/-- four pixels in memory -/
abbrev po4 (P : Nat → Px) : Obj := .cells (fl 4 P).toArray 23
theorem load_px4 (b : Nat) (P : Nat → Px) (i : Nat) (hi : i < 4) (w : World) (h : w.heap[b]? = some (po4 P)) : (Instr.loadAt 23 (.pointer (some ⟨b, 4 * i, none⟩))).run Try.prog w = .ok (P i).v w :=
  run_loadAt_mid w b (4 * i) 23 (pl (P i)) _ (fun j v hv => by
    rw [cell_of_row w b (4 * i + j) _ _ (0, 0) h, ← hv, ← fl_get 4 P i j hi (by have := (List.getElem?_eq_some_iff.1 hv).1; simpa [pl_len] using this)]
    exact List.getElem?_toArray) Try.underlying23 rfl (by kernel_rfl)
end Go.Proofs.Ytjaipjgnchpjcaa.T
