/-
  The bytes of a tile, and the tile of 256 bytes (plain maths).
-/
import Derived.Test.YtfncldaodbfakaaGreatTSt
namespace Go.Proofs.YtfncldaodbfakaaGreat.T
open Go.RowKit

def u8 (x : Int) : UInt8 := UInt8.ofNat x.toNat
def i8 (b : UInt8) : Int := (b.toNat : Int)
theorem i8_ch (b : UInt8) : Ch (i8 b) := by
  have := b.toNat_lt
  unfold i8
  exact ⟨by omega, by omega⟩
theorem i8_u8 {x : Int} (h : Ch x) : i8 (u8 x) = x := by
  have h1 : 0 ≤ x := h.1
  have h2 : x ≤ 255 := h.2
  unfold i8 u8
  rw [UInt8.toNat_ofNat_of_lt' (by show x.toNat < 256; omega)]
  omega
theorem u8_i8 (b : UInt8) : u8 (i8 b) = b := by
  unfold i8 u8
  rw [Int.toNat_natCast, UInt8.ofNat_toNat]
/-- the bytes of a pixel, of the pixels below n -/
def pb (p : Px) : List UInt8 := [u8 p.r, u8 p.g, u8 p.b, u8 p.a]
def bys (n : Nat) (f : Nat → Px) : List UInt8 := (List.range n).flatMap fun i => pb (f i)
theorem bys_succ (n : Nat) (f : Nat → Px) : bys (n + 1) f = bys n f ++ pb (f n) := by
  unfold bys; rw [List.range_succ, List.flatMap_append]; simp
theorem bys_len (n : Nat) (f : Nat → Px) : (bys n f).length = 4 * n := by
  induction n with
  | zero => rfl
  | succ n ih => rw [bys_succ, List.length_append, ih, show (pb (f n)).length = 4 from rfl]; omega
theorem bys_get (n : Nat) (f : Nat → Px) (i j : Nat) (hi : i < n) (hj : j < 4) : (bys n f)[4 * i + j]? = (pb (f i))[j]? := by
  induction n with
  | zero => omega
  | succ n ih =>
    rw [bys_succ]
    by_cases h : i < n
    · rw [List.getElem?_append_left (by rw [bys_len]; omega)]
      exact ih h
    · obtain rfl : i = n := by omega
      rw [List.getElem?_append_right (by rw [bys_len]; omega), bys_len]
      congr 1
      omega
/-- the pixel number i of a list of bytes -/
def rdp (l : List UInt8) (i : Nat) : Px := ⟨i8 (l.getD (4 * i) 0), i8 (l.getD (4 * i + 1) 0), i8 (l.getD (4 * i + 2) 0), i8 (l.getD (4 * i + 3) 0)⟩
theorem rdp_pc (l : List UInt8) (i : Nat) : Pc (rdp l i) := ⟨i8_ch _, i8_ch _, i8_ch _, i8_ch _⟩
theorem rdp_bys {n : Nat} {f : Nat → Px} (i : Nat) (hi : i < n) (h : Pc (f i)) : rdp (bys n f) i = f i := by
  have g0 := bys_get n f i 0 hi (by omega)
  have g1 := bys_get n f i 1 hi (by omega)
  have g2 := bys_get n f i 2 hi (by omega)
  have g3 := bys_get n f i 3 hi (by omega)
  rw [Nat.add_zero] at g0
  unfold rdp
  simp only [List.getD_eq_getElem?_getD, g0, g1, g2, g3]
  show (⟨i8 (u8 (f i).r), i8 (u8 (f i).g), i8 (u8 (f i).b), i8 (u8 (f i).a)⟩ : Px) = f i
  rw [i8_u8 h.1, i8_u8 h.2.1, i8_u8 h.2.2.1, i8_u8 h.2.2.2]
theorem bys_ext {n : Nat} {f g : Nat → Px} (h : ∀ i, i < n → f i = g i) : bys n f = bys n g := by
  unfold bys
  rw [List.flatMap_def, List.flatMap_def]
  congr 1
  exact List.map_congr_left fun i hi => by rw [h i (by simpa using hi)]
theorem bys_inj {n : Nat} {f g : Nat → Px} (hf : ∀ i, i < n → Pc (f i)) (hg : ∀ i, i < n → Pc (g i)) (h : bys n f = bys n g) (i : Nat) (hi : i < n) : f i = g i := by
  rw [← rdp_bys i hi (hf i hi), h, rdp_bys i hi (hg i hi)]
theorem bys_iff {f g : Nat → Px} (hf : ∀ i, i < 64 → Pc (f i)) (hg : ∀ i, i < 64 → Pc (g i)) : decide (bys 64 f = bys 64 g) = teq f g := by
  rw [Bool.eq_iff_iff, decide_eq_true_iff, teq_iff]
  exact ⟨fun h => bys_inj hf hg h, fun h => bys_ext h⟩
/-- 256 bytes are the bytes of their tile -/
theorem bys_rdp {l : List UInt8} {n : Nat} (h : l.length = 4 * n) : bys n (rdp l) = l := by
  apply List.ext_getElem?
  intro k
  by_cases hk : k < 4 * n
  · have hg := bys_get n (rdp l) (k / 4) (k % 4) (by omega) (by omega)
    rw [show 4 * (k / 4) + k % 4 = k by omega] at hg
    rw [hg]
    have hx : ∀ j, j < 4 * n → l[j]? = some (l.getD j 0) := fun j hj => by
      rw [List.getD_eq_getElem?_getD, List.getElem?_eq_getElem (by omega)]; rfl
    have : k % 4 = 0 ∨ k % 4 = 1 ∨ k % 4 = 2 ∨ k % 4 = 3 := by omega
    have hq : k = 4 * (k / 4) + k % 4 := by omega
    rcases this with e | e | e | e <;> rw [e] at hq ⊢ <;> (generalize k / 4 = q at *; subst hq; rw [hx _ hk]; unfold pb rdp; simp [u8_i8])
  · rw [List.getElem?_eq_none (by rw [bys_len]; omega), List.getElem?_eq_none (by omega)]
end Go.Proofs.YtfncldaodbfakaaGreat.T
