/-
  Zero and Solid of tile and of the reference, Same of the reference (contracts).
-/
import Derived.Test.YtjaipjgnchpjcaaTRefB
import Derived.Test.YtjaipjgnchpjcaaTEq
import Derived.Test.YtjaipjgnchpjcaaTGet
namespace Go.Proofs.Ytjaipjgnchpjcaa.T
open Go.RowKit Go.Shelf

/-- are all pixels below n transparent? -/
def azn (f : Nat → Px) (n : Nat) : Bool := (List.range n).all fun i => (f i).a == 0
theorem azn_succ (f : Nat → Px) (n : Nat) : azn f (n + 1) = (azn f n && ((f n).a == 0)) := by unfold azn; rw [List.range_succ, List.all_append]; simp
theorem azn_false (f : Nat → Px) (k n : Nat) (hk : k < n) (h : ((f k).a == 0) = false) : azn f n = false := by
  unfold azn
  rw [List.all_eq_false]
  exact ⟨k, List.mem_range.2 hk, by rw [h]; simp⟩
def tz (f : Nat → Px) : Bool := azn f 64
theorem tz_iff (f : Nat → Px) : tz f = true ↔ ∀ i, i < 64 → (f i).a = 0 := by unfold tz azn; simp [List.all_eq_true, List.mem_range]
theorem cln_zp (p : Px) : cln p = zp ↔ p.a = 0 := by
  obtain ⟨r, g, b, a⟩ := p
  unfold cln
  by_cases h : a = 0
  · simp [h, zp]
  · simp [h, zp]
theorem tz_teq (f : Nat → Px) : teq (fun i => cln (f i)) z0 = tz f := by
  rw [Bool.eq_iff_iff, teq_iff, tz_iff]
  exact ⟨fun h i hi => (cln_zp _).1 (h i hi), fun h i hi => (cln_zp _).2 (h i hi)⟩
/-- are the pixels below n equal? -/
def teqn (f g : Nat → Px) (n : Nat) : Bool := (List.range n).all fun i => peq (f i) (g i)
theorem teqn_succ (f g : Nat → Px) (n : Nat) : teqn f g (n + 1) = (teqn f g n && peq (f n) (g n)) := by unfold teqn; rw [List.range_succ, List.all_append]; simp
theorem teqn_false (f g : Nat → Px) (k n : Nat) (hk : k < n) (h : peq (f k) (g k) = false) : teqn f g n = false := by
  unfold teqn
  rw [List.all_eq_false]
  exact ⟨k, List.mem_range.2 hk, by rw [h]; simp⟩
end Go.Proofs.Ytjaipjgnchpjcaa.T
