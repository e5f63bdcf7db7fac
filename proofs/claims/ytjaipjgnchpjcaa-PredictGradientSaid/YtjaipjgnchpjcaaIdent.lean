/-
  Where Over and Mix are identities: the plain equations.
-/
import Derived.Test.YtjaipjgnchpjcaaSane
import Derived.Test.YtjaipjgnchpjcaaMath
namespace Go.Proofs.Ytjaipjgnchpjcaa
open Go.RowKit

theorem rd_mul {x d : Int} (hd : 0 < d) : rd (d * x) d = x := by
  have h := rd_between (n := d * x) (d := d) (lo := x) (hi := x) hd (by rw [Int.mul_comm]; exact Int.le_refl _) (by rw [Int.mul_comm]; exact Int.le_refl _)
  omega
theorem mul_zero_left (c : Int) : mul 0 c = 0 := by
  unfold mul pr; rw [show cl 0 = 0 by decide, Int.zero_mul]; decide
theorem mul_zero_right (a : Int) : mul a 0 = 0 := by
  unfold mul pr; rw [show cl 0 = 0 by decide, Int.mul_zero]; decide
theorem ovr_solid (p0 p1 p2 p3 q0 q1 q2 : Int) : ovr ⟨p0, p1, p2, p3⟩ ⟨q0, q1, q2, 255⟩ 0 255 = ⟨q0, q1, q2, 255⟩ := by
  have hw : wgt 255 p3 = 65025 := by unfold wgt; omega
  have ho : ∀ b s, och 0 255 p3 b s = s := fun b s => by
    unfold och
    rw [hw, show osum 0 255 p3 b s = 65025 * s by
      unfold osum
      rw [show bl 0 b s = s by rfl, show (255 : Int) - 255 = 0 by decide, Int.zero_mul, Int.zero_mul, Int.add_zero, ← Int.add_mul]
      congr 1; omega]
    exact rd_mul (by decide)
  unfold ovr
  dsimp only
  rw [show mul 255 255 = 255 by decide, hw, if_neg (by decide), ho, ho, ho, show rd 65025 255 = 255 by decide]
theorem ovr_none (p0 p1 p2 p3 m : Int) (q : Px) (c : Int) (hp : Ch p3) (h : mul q.a c = 0) : ovr ⟨p0, p1, p2, p3⟩ q m c = cln ⟨p0, p1, p2, p3⟩ := by
  unfold ovr cln
  dsimp only
  rw [h]
  have hw : wgt 0 p3 = 255 * p3 := by unfold wgt; rw [Int.zero_mul]; omega
  rw [hw]
  by_cases h0 : p3 = 0
  · rw [if_pos (by omega), if_pos h0]
  · have ho : ∀ b s, och m 0 p3 b s = b := fun b s => by
      unfold och
      rw [hw, show osum m 0 p3 b s = 255 * p3 * b by
        unfold osum
        rw [Int.zero_mul, Int.zero_mul, Int.zero_mul, Int.zero_mul, show (255 : Int) - 0 = 255 by decide]; omega]
      exact rd_mul (by omega)
    rw [if_neg (by omega), if_neg h0, ho, ho, ho, rd_mul (by decide)]
theorem ovr_clear (p0 p1 p2 q0 q1 q2 q3 m c : Int) : ovr ⟨p0, p1, p2, 0⟩ ⟨q0, q1, q2, q3⟩ m c = fad ⟨q0, q1, q2, q3⟩ c := by
  unfold ovr fad cln
  dsimp only
  have hu := mul_ch q3 c
  generalize mul q3 c = u at *
  have hw : wgt u 0 = 255 * u := by unfold wgt; rw [Int.mul_zero]; omega
  rw [hw]
  by_cases h0 : u = 0
  · rw [if_pos (by omega), if_pos h0]
  · have ho : ∀ b s, och m u 0 b s = s := fun b s => by
      unfold och
      rw [hw, show osum m u 0 b s = 255 * u * s by
        unfold osum
        rw [Int.mul_zero, Int.mul_zero, Int.zero_mul, Int.zero_mul, show (255 : Int) - 0 = 255 by decide, Int.mul_comm u 255]; omega]
      exact rd_mul (by omega)
    rw [if_neg (by omega), if_neg h0, ho, ho, ho, rd_mul (by decide)]
theorem mxx_to (p q : Px) (t : Int) (O : Px) {P Q A : Int} (hP : mp p.a (cl t) = P) (hQ : mq q.a (cl t) = Q) (hA : rd (P + Q) 255 = A) (h0 : A = 0 → O = zp) (h1 : A ≠ 0 → O = ⟨mch P Q p.r q.r, mch P Q p.g q.g, mch P Q p.b q.b, A⟩) : mxx p q t = O := by
  unfold mxx; rw [hP, hQ, hA]
  by_cases h : A = 0
  · rw [if_pos h, h0 h]
  · rw [if_neg h, h1 h]
theorem mxx_first (p0 p1 p2 p3 q0 q1 q2 q3 : Int) (hp : Ch p3) : mxx ⟨p0, p1, p2, p3⟩ ⟨q0, q1, q2, q3⟩ 0 = cln ⟨p0, p1, p2, p3⟩ := by
  have hm : ∀ x y, p3 ≠ 0 → mch (255 * p3) 0 x y = x := fun x y h => by unfold mch; rw [Int.zero_mul, Int.add_zero, Int.add_zero]; exact rd_mul (by omega)
  refine mxx_to _ _ _ _ (P := 255 * p3) (Q := 0) (A := p3) (by unfold mp; rw [show cl 0 = 0 by decide]; dsimp only; omega) (by unfold mq; rw [show cl 0 = 0 by decide]; dsimp only; omega) (by rw [Int.add_zero]; exact rd_mul (by decide)) (fun h => if_pos h) (fun h => ?_)
  rw [hm _ _ h, hm _ _ h, hm _ _ h]; exact if_neg h
theorem mxx_second (p0 p1 p2 p3 q0 q1 q2 q3 : Int) (hq : Ch q3) : mxx ⟨p0, p1, p2, p3⟩ ⟨q0, q1, q2, q3⟩ 255 = cln ⟨q0, q1, q2, q3⟩ := by
  have hm : ∀ x y, q3 ≠ 0 → mch 0 (255 * q3) x y = y := fun x y h => by unfold mch; rw [Int.zero_mul, Int.zero_add, Int.zero_add]; exact rd_mul (by omega)
  refine mxx_to _ _ _ _ (P := 0) (Q := 255 * q3) (A := q3) (by unfold mp; rw [show cl 255 = 255 by decide]; dsimp only; omega) (by unfold mq; rw [show cl 255 = 255 by decide]; dsimp only; omega) (by rw [Int.zero_add]; exact rd_mul (by decide)) (fun h => if_pos h) (fun h => ?_)
  rw [hm _ _ h, hm _ _ h, hm _ _ h]; exact if_neg h
theorem mxx_swap (p q : Px) (n : Int) (hn : Ch n) : mxx p q n = mxx q p (255 - n) := by
  have h1 : mp q.a (cl (255 - n)) = mq q.a (cl n) := by unfold mp mq; rw [cl_of hn, cl_of (show Ch (255 - n) from ⟨by omega, by omega⟩), show 255 - (255 - n) = n by omega]
  have h2 : mq p.a (cl (255 - n)) = mp p.a (cl n) := by unfold mp mq; rw [cl_of hn, cl_of (show Ch (255 - n) from ⟨by omega, by omega⟩)]
  have hm : ∀ P Q x y, mch P Q x y = mch Q P y x := fun P Q x y => by unfold mch; rw [Int.add_comm (P * x), Int.add_comm P]
  unfold mxx
  rw [h1, h2, Int.add_comm (mq q.a (cl n)), hm _ _ q.r, hm _ _ q.g, hm _ _ q.b]
theorem mxx_self (p0 p1 p2 p3 n : Int) (hp : Ch p3) (hn : Ch n) : mxx ⟨p0, p1, p2, p3⟩ ⟨p0, p1, p2, p3⟩ n = cln ⟨p0, p1, p2, p3⟩ := by
  have hs : mp p3 n + mq p3 n = 255 * p3 := by unfold mp mq; rw [Int.mul_sub]; omega
  have hm : ∀ x, p3 ≠ 0 → mch (mp p3 n) (mq p3 n) x x = x := fun x h => by unfold mch; rw [← Int.add_mul, hs]; exact rd_mul (by omega)
  refine mxx_to _ _ _ _ (A := p3) rfl rfl ?_ (fun h => if_pos h) (fun h => ?_)
  · dsimp only; rw [cl_of hn, hs]; exact rd_mul (by decide)
  · dsimp only; rw [cl_of hn, hm _ h, hm _ h, hm _ h]; exact if_neg h
end Go.Proofs.Ytjaipjgnchpjcaa
