/-
  The reference's numbers in digits of 24 bits: times, raised, above.
-/
import Derived.Test.YtgdcjpnmalnmbaaSame
namespace Go.Proofs.Ytgdcjpnmalnmbaa
open Go.RowKit
variable {w : World}

/-- digits as numbers in memory -/
def dz (l : List Nat) : List Int := l.map fun (a : Nat) => (a : Int)
theorem dz_len (l : List Nat) : (dz l).length = l.length := by simp [dz]
theorem dz_app (l k : List Nat) : dz (l ++ k) = dz l ++ dz k := by simp [dz]
theorem dz_cg {l : List Nat} {i : Nat} (h : i < l.length) : cg (dz l) i = (l.getD i 0 : Nat) := by simp [cg, dz, List.getD, h]
theorem tms_step {l : List Nat} {k f c : Nat} (h : k < l.length) : tms (l.drop k) f c = (l.getD k 0 * f + c) % 16777216 :: tms (l.drop (k + 1)) f ((l.getD k 0 * f + c) / 16777216) := by
  rw [List.drop_eq_getElem_cons h]
  simp [tms, List.getD, h]
theorem mask24 (n : Nat) : bits .and .i64 (n : Int) 16777215 = ((n % 16777216 : Nat) : Int) := by
  have := i64_mask 24 (by omega) (n : Int)
  simpa using this
/-- 'a slice of one's own is handed back' -/
def GotO (c : List Int) (w : World) (e : Ending) (w' : World) : Prop := ∃ po n cap, e = .returned (.slice po n cap) ∧ OwnsI w.heap.size w' (.slice po n cap) c ∧ Below w.heap.size w w'
theorem OwnsI.mono {B B' : Nat} {v : Value} {p : List Int} (h : OwnsI B w v p) (hB : B' ≤ B) : OwnsI B' w v p := by
  obtain ⟨hl, h | ⟨g, cap, cur, hv, hg, h⟩⟩ := h
  · exact ⟨hl, Or.inl h⟩
  · exact ⟨hl, Or.inr ⟨g, cap, cur, hv, Nat.le_trans hB hg, h⟩⟩
/-- k times the factor f -/
def itm (l : List Nat) (f : Nat) : Nat → List Nat
  | 0 => l
  | k + 1 => tms (itm l f k) f 0
theorem itm_len (l : List Nat) (f : Nat) : ∀ k, (itm l f k).length = l.length + k
  | 0 => rfl
  | k + 1 => by unfold itm; rw [tms_len, itm_len l f k]; rfl
theorem itm_dg {l : List Nat} {f : Nat} (h : Dg l) (hf : f < 16777216) : ∀ k, Dg (itm l f k)
  | 0 => h
  | k + 1 => by unfold itm; exact tms_dg (itm_dg h hf k) hf (by omega)
theorem itm_dv (l : List Nat) (f : Nat) : ∀ k, dv (itm l f k) = dv l * f ^ k
  | 0 => by simp [itm]
  | k + 1 => by unfold itm; rw [tms_dv, itm_dv l f k, Nat.pow_succ, Nat.add_zero, Nat.mul_assoc]
def rz1 (a n b m : Nat) : List Nat := itm (itm [1] a n) b m
def rz (a n b m : Nat) : List Nat := rz1 a n b m ++ List.replicate (17 - (rz1 a n b m).length) 0
theorem rz1_len (a n b m : Nat) : (rz1 a n b m).length = 1 + n + m := by unfold rz1; rw [itm_len, itm_len]; rfl
theorem rz_len {a n b m : Nat} (hn : n ≤ 8) (hm : m ≤ 8) : (rz a n b m).length = 17 := by
  have := rz1_len a n b m
  unfold rz; rw [List.length_append, List.length_replicate]; omega
theorem one_dg : Dg [1] := fun a ha => by simp at ha; omega
theorem rz_dg {a n b m : Nat} (ha : a < 16777216) (hb : b < 16777216) : Dg (rz a n b m) := fun x hx => by
  unfold rz at hx
  rcases List.mem_append.1 hx with h | h
  · exact itm_dg (itm_dg one_dg ha n) hb m x h
  · have := List.eq_of_mem_replicate h; omega
theorem rz_dv (a n b m : Nat) : dv (rz a n b m) = a ^ n * b ^ m := by
  unfold rz; rw [dv_zeros]
  unfold rz1; rw [itm_dv, itm_dv]; simp [dv]
def mlen : Value → Nat
  | .slice _ n _ => n
  | _ => 0
end Go.Proofs.Ytgdcjpnmalnmbaa
