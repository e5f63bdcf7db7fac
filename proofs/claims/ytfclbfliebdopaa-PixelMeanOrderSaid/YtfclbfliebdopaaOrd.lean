/-
  Sums over rounds, in either order; a Mean to which pixels are added, one after another, k times each, or one pixel again and again (contracts).
-/
import Derived.Test.YtfclbfliebdopaaOpen
import Derived.Test.YtfclbfliebdopaaMeanPix
namespace Go.Proofs.Ytfclbfliebdopaa
open Go.RowKit

def fs (f : Nat → Int) : Nat → Int
  | 0 => 0
  | t + 1 => fs f t + f t
theorem fs_front (f : Nat → Int) : ∀ m, fs f (m + 1) = f 0 + fs (fun i => f (i + 1)) m
  | 0 => by simp [fs]
  | m + 1 => by
    show fs f (m + 1) + f (m + 1) = f 0 + (fs (fun i => f (i + 1)) m + f (m + 1))
    rw [fs_front f m]; omega
theorem fs_congr {f g : Nat → Int} : ∀ m, (∀ i, i < m → f i = g i) → fs f m = fs g m
  | 0, _ => rfl
  | m + 1, h => by
    show fs f m + f m = fs g m + g m
    rw [fs_congr m (fun i hi => h i (by omega)), h m (by omega)]
theorem fs_back (f : Nat → Int) : ∀ m, fs (fun i => f (m - 1 - i)) m = fs f m
  | 0 => rfl
  | m + 1 => by
    rw [fs_front]
    show f (m + 1 - 1 - 0) + _ = fs f m + f m
    rw [show m + 1 - 1 - 0 = m by omega]
    rw [fs_congr (g := fun i => f (m - 1 - i)) m (fun i hi => by rw [show m + 1 - 1 - (i + 1) = m - 1 - i by omega])]
    rw [fs_back f m]; omega
/-- the pixels of a slice -/
def Pok (P : Nat → Px) : Prop := ∀ i, Ch (P i).r ∧ Ch (P i).g ∧ Ch (P i).b ∧ Ch (P i).a
theorem pix_fun {w : World} {po : Option Addr} {n : Nat} (hI : ∀ i, i < n → ∃ r g b a, PixAt w po i r g b a ∧ Ch r ∧ Ch g ∧ Ch b ∧ Ch a) :
    ∃ P : Nat → Px, Pok P ∧ ∀ i, i < n → PixAt w po i (P i).r (P i).g (P i).b (P i).a := by
  have h : ∀ i, ∃ p : Px, (Ch p.r ∧ Ch p.g ∧ Ch p.b ∧ Ch p.a) ∧ (i < n → PixAt w po i p.r p.g p.b p.a) := fun i => by
    by_cases hi : i < n
    · obtain ⟨r, g, b, a, h1, h2, h3, h4, h5⟩ := hI i hi
      exact ⟨⟨r, g, b, a⟩, ⟨h2, h3, h4, h5⟩, fun _ => h1⟩
    · exact ⟨⟨0, 0, 0, 0⟩, by refine ⟨?_, ?_, ?_, ?_⟩ <;> (constructor <;> decide), fun h => absurd h hi⟩
  obtain ⟨P, hP⟩ := Classical.axiomOfChoice h
  exact ⟨P, fun i => (hP i).1, fun i hi => (hP i).2 hi⟩

def sN (k : Int) (t : Nat) : Int := fs (fun _ => k) t
def sA (k : Int) (P : Nat → Px) (t : Nat) : Int := fs (fun i => k * (P i).a) t
def sX (k : Int) (P : Nat → Px) (f : Px → Int) (t : Nat) : Int := fs (fun i => k * (P i).a * f (P i)) t
/-- after t pixels, k times each -/
def mk (k : Int) (P : Nat → Px) (t : Nat) : Obj := mo (sN k t) (sA k P t) (sX k P Px.r t) (sX k P Px.g t) (sX k P Px.b t)
/-- and j times the next -/
def mj (k : Int) (P : Nat → Px) (t j : Nat) : Obj := mo (sN k t + j) (sA k P t + j * (P t).a) (sX k P Px.r t + j * (P t).a * (P t).r) (sX k P Px.g t + j * (P t).a * (P t).g) (sX k P Px.b t + j * (P t).a * (P t).b)
/-- one pixel S times -/
def mc (S : Int) (p : Px) : Obj := mo S (S * p.a) (S * p.a * p.r) (S * p.a * p.g) (S * p.a * p.b)
theorem mj_zero (k : Int) (P : Nat → Px) (t : Nat) : mj k P t 0 = mk k P t := by
  unfold mj mk; simp only [Int.natCast_zero, Int.zero_mul, Int.add_zero]
theorem mj_all (k : Nat) (P : Nat → Px) (t : Nat) : mj k P t k = mk k P (t + 1) := rfl
theorem cnt_of {k : Int} (h : 1 ≤ k ∧ k ≤ 65536) : cnt k = k := by unfold cnt; rw [if_neg (by omega), if_neg (by omega)]
theorem mk_mb {k : Int} {P : Nat → Px} (hP : Pok P) (hk : 1 ≤ k ∧ k ≤ 9) : ∀ t : Nat, t ≤ 30 → Mb (sN k t) (sA k P t) (sX k P Px.r t) (sX k P Px.g t) (sX k P Px.b t) ∧ sN k t ≤ 9 * t
  | 0, _ => by
    show Mb 0 0 0 0 0 ∧ (0 : Int) ≤ 9 * ((0 : Nat) : Int)
    exact ⟨by refine ⟨?_, ?_, ?_, ?_, ?_⟩ <;> decide, by decide⟩
  | t + 1, ht => by
    obtain ⟨h1, h2⟩ := mk_mb hP hk t (by omega)
    obtain ⟨p1, p2, p3, p4⟩ := hP t
    have h := h1.add (k := k) (by omega) p1 p2 p3 p4
    rw [cnt_of ⟨hk.1, by omega⟩] at h
    refine ⟨h, ?_⟩
    have : sN k (t + 1) = sN k t + k := rfl
    rw [this]; omega
theorem mj_step {x p : Int} {j : Nat} : x + ((j + 1 : Nat) : Int) * p = x + j * p + 1 * p := by
  rw [Int.natCast_add, Int.add_mul, Int.add_assoc]; rfl
theorem mj_mb {k : Int} {P : Nat → Px} (hP : Pok P) (hk : 1 ≤ k ∧ k ≤ 9) (t : Nat) (ht : t ≤ 30) : ∀ j : Nat, j ≤ 9 →
    Mb (sN k t + j) (sA k P t + j * (P t).a) (sX k P Px.r t + j * (P t).a * (P t).r) (sX k P Px.g t + j * (P t).a * (P t).g) (sX k P Px.b t + j * (P t).a * (P t).b) ∧ sN k t + j ≤ 9 * t + j
  | 0, _ => by
    have h := mk_mb hP hk t ht
    simp only [Int.natCast_zero, Int.zero_mul, Int.add_zero]
    exact h
  | j + 1, hj => by
    obtain ⟨h1, h2⟩ := mj_mb hP hk t ht j (by omega)
    obtain ⟨p1, p2, p3, p4⟩ := hP t
    have h := h1.add (k := 1) (by omega) p1 p2 p3 p4
    rw [show cnt 1 = 1 from rfl] at h
    have e : ∀ x y z : Int, x + ((j + 1 : Nat) : Int) * y * z = x + j * y * z + 1 * y * z := fun x y z => by
      rw [Int.natCast_add, Int.add_mul, Int.add_mul, Int.add_assoc]; rfl
    rw [mj_step, e, e, e]
    refine ⟨?_, by omega⟩
    rw [show sN k t + ((j + 1 : Nat) : Int) = sN k t + j + 1 by omega]
    exact h
/-- a pixel k times -/
theorem add_k {W : World} {L : List (Nat × Obj)} (bm : Nat) (k : Int) (P : Nat → Px) (t : Nat) (w : World) (h : St W ((bm, mk k P t) :: L) w) (hbm : W.heap.size ≤ bm) (hL : ∀ x ∈ L, x.1 ≠ bm)
    (hP : Pok P) (hk : 1 ≤ k ∧ k ≤ 9) (ht : t < 30) :
    Calls Try.prog 25 #[ptr bm, pv (P t).r (P t).g (P t).b (P t).a, .int .i64 k] w fun e w' => e = .returned (.tuple #[]) ∧ St W ((bm, mk k P (t + 1)) :: L) w' := by
  obtain ⟨h1, h2⟩ := mk_mb hP hk t (by omega)
  obtain ⟨p1, p2, p3, p4⟩ := hP t
  have := add_any bm _ _ _ _ _ (P t).r (P t).g (P t).b (P t).a k w h hbm hL h1 (by omega) p1 p2 p3 p4
  rw [cnt_of ⟨hk.1, by omega⟩] at this
  exact this
/-- the next once more -/
theorem add_j {W : World} {L : List (Nat × Obj)} (bm : Nat) (k : Int) (P : Nat → Px) (t j : Nat) (w : World) (h : St W ((bm, mj k P t j) :: L) w) (hbm : W.heap.size ≤ bm) (hL : ∀ x ∈ L, x.1 ≠ bm)
    (hP : Pok P) (hk : 1 ≤ k ∧ k ≤ 9) (ht : t < 30) (hj : j < 9) :
    Calls Try.prog 25 #[ptr bm, pv (P t).r (P t).g (P t).b (P t).a, .int .i64 1] w fun e w' => e = .returned (.tuple #[]) ∧ St W ((bm, mj k P t (j + 1)) :: L) w' := by
  obtain ⟨h1, h2⟩ := mj_mb hP hk t (by omega) j (by omega)
  obtain ⟨p1, p2, p3, p4⟩ := hP t
  have := add_any bm _ _ _ _ _ (P t).r (P t).g (P t).b (P t).a 1 w h hbm hL h1 (by omega) p1 p2 p3 p4
  rw [show cnt 1 = 1 from rfl] at this
  have e : ∀ x y z : Int, x + ((j + 1 : Nat) : Int) * y * z = x + j * y * z + 1 * y * z := fun x y z => by
    rw [Int.natCast_add, Int.add_mul, Int.add_mul, Int.add_assoc]; rfl
  unfold mj
  rw [mj_step, e, e, e, show sN k t + ((j + 1 : Nat) : Int) = sN k t + j + 1 by omega]
  exact this
theorem mc_mb {S : Int} {p : Px} (hS : 0 ≤ S ∧ S ≤ 2000) (h1 : Ch p.r) (h2 : Ch p.g) (h3 : Ch p.b) (h4 : Ch p.a) : Mb S (S * p.a) (S * p.a * p.r) (S * p.a * p.g) (S * p.a * p.b) := by
  have h5 := nn hS h4
  have h6 : S * p.a ≤ 255 * S := by rw [Int.mul_comm 255]; exact Int.mul_le_mul_of_nonneg_left h4.2 hS.1
  have q : ∀ v, Ch v → 0 ≤ S * p.a * v ∧ S * p.a * v ≤ 255 * (S * p.a) := fun v hv => ⟨Int.mul_nonneg h5.1 hv.1, by rw [Int.mul_comm 255]; exact Int.mul_le_mul_of_nonneg_left hv.2 h5.1⟩
  exact ⟨⟨hS.1, by omega⟩, ⟨h5.1, h6⟩, q _ h1, q _ h2, q _ h3⟩
theorem add_c {W : World} {L : List (Nat × Obj)} (bm : Nat) (S q : Int) (p : Px) (w : World) (h : St W ((bm, mc S p) :: L) w) (hbm : W.heap.size ≤ bm) (hL : ∀ x ∈ L, x.1 ≠ bm)
    (hS : 0 ≤ S ∧ S ≤ 2000) (hq : 1 ≤ q ∧ q ≤ 65536) (h1 : Ch p.r) (h2 : Ch p.g) (h3 : Ch p.b) (h4 : Ch p.a) :
    Calls Try.prog 25 #[ptr bm, pv p.r p.g p.b p.a, .int .i64 q] w fun e w' => e = .returned (.tuple #[]) ∧ St W ((bm, mc (S + q) p) :: L) w' := by
  have := add_any bm _ _ _ _ _ p.r p.g p.b p.a q w h hbm hL (mc_mb hS h1 h2 h3 h4) (by omega) h1 h2 h3 h4
  rw [cnt_of hq] at this
  unfold mc
  rw [Int.add_mul, Int.add_mul, Int.add_mul, Int.add_mul]
  exact this
def pxk (k : Int) (P : Nat → Px) (t : Nat) : Px := mpx (sN k t) (sA k P t) (sX k P Px.r t) (sX k P Px.g t) (sX k P Px.b t)
theorem pxk_back (k : Int) (P : Nat → Px) (m : Nat) : pxk k (fun i => P (m - 1 - i)) m = pxk k P m := by
  unfold pxk
  have h : ∀ f : Px → Int, sX k (fun i => P (m - 1 - i)) f m = sX k P f m := fun f => fs_back (fun i => k * (P i).a * f (P i)) m
  rw [h, h, h, show sA k (fun i => P (m - 1 - i)) m = sA k P m from fs_back (fun i => k * (P i).a) m]
theorem pix_k {W : World} {L : List (Nat × Obj)} (bm : Nat) (k : Int) (P : Nat → Px) (t : Nat) (w : World) (h : St W ((bm, mk k P t) :: L) w) (hP : Pok P) (hk : 1 ≤ k ∧ k ≤ 9) (ht : t ≤ 30) :
    Calls Try.prog 27 #[ptr bm] w fun e w' => e = .returned (pv (pxk k P t).r (pxk k P t).g (pxk k P t).b (pxk k P t).a) ∧ Below w.heap.size w w' :=
  pix_any bm _ _ _ _ _ w h (mk_mb hP hk t ht).1
theorem pix_c {W : World} {L : List (Nat × Obj)} (bm : Nat) (S : Int) (p : Px) (w : World) (h : St W ((bm, mc S p) :: L) w) (hS : 1 ≤ S ∧ S ≤ 2000) (h1 : Ch p.r) (h2 : Ch p.g) (h3 : Ch p.b) (h4 : Ch p.a) :
    Calls Try.prog 27 #[ptr bm] w fun e w' => e = .returned (pv (cln p).r (cln p).g (cln p).b (cln p).a) ∧ Below w.heap.size w w' := by
  have := pix_any bm _ _ _ _ _ w h (mc_mb ⟨by omega, hS.2⟩ h1 h2 h3 h4)
  have e : mpx S (S * p.a) (S * p.a * p.r) (S * p.a * p.g) (S * p.a * p.b) = cln p := by
    unfold mpx cln
    rw [if_neg (by omega), rd_mul (d := S) (by omega)]
    by_cases ha : p.a = 0
    · rw [if_pos ha, if_pos ha]
    · have hp : 0 < S * p.a := Int.mul_pos (by omega) (by have := h4.1; omega)
      rw [if_neg ha, if_neg ha, rd_mul hp, rd_mul hp, rd_mul hp]
  rw [e] at this
  exact this
end Go.Proofs.Ytfclbfliebdopaa
