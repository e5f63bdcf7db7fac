/-
  The plain arithmetic of Over and Mix: what lies in which range.
-/
import Derived.Test.YtfncldaodbfakaaGreatComb
namespace Go.Proofs.YtfncldaodbfakaaGreat
open Go.RowKit

variable {W w w' : World} {L : List (Nat × Obj)}
theorem row_setCell {b : Nat} {cs : Array Value} {t : TypeId} (h : w.heap[b]? = some (.cells cs t)) (j : Nat) (v : Value) : (w.setCell ⟨b, j, none⟩ v).heap[b]? = some (.cells (cs.setIfInBounds j v) t) := by
  have hb := (Array.getElem?_eq_some_iff.1 h).1
  have h' : w.heap[b] = .cells cs t := by simpa [Array.getElem?_eq_getElem hb] using h
  simp [World.setCell, h', hb, Array.getElem_modify]
theorem St.put {b : Nat} {cs : Array Value} {t : TypeId} {j : Nat} {v : Value} (h : St W ((b, .cells cs t) :: L) w) (hb : W.heap.size ≤ b) (hL : ∀ x ∈ L, x.1 ≠ b) : St W ((b, .cells (cs.setIfInBounds j v) t) :: L) (w.setCell ⟨b, j, none⟩ v) := by
  have h1 := row_setCell (h.row (b := b) (o := .cells cs t) (by simp)) j v
  have h2 : St W L (w.setCell ⟨b, j, none⟩ v) := (h.sub (L' := L) (fun x hx => by simp [hx])).set hb hL
  exact ⟨h2.below, fun x hx => by
    rcases List.mem_cons.1 hx with rfl | hx
    · exact h1
    · exact h2.rows x hx⟩
theorem nn {a b A B : Int} (ha : 0 ≤ a ∧ a ≤ A) (hb : 0 ≤ b ∧ b ≤ B) : 0 ≤ a * b ∧ a * b ≤ A * B :=
  ⟨Int.mul_nonneg ha.1 hb.1, Int.mul_le_mul ha.2 hb.2 hb.1 (Int.le_trans ha.1 ha.2)⟩
/-- an int that is small enough for what follows -/
abbrev Md (x : Int) : Prop := 0 ≤ x ∧ x ≤ 4503599627370496
theorem w64m {x : Int} (h : Md x) : IntKind.i64.wrap x = x := IntWalk.i64_in _ ⟨by omega, by omega⟩
theorem rd_between {n d lo hi : Int} (hd : 0 < d) (h1 : lo * d ≤ n) (h2 : n ≤ hi * d) : lo ≤ rd n d ∧ rd n d ≤ hi := by
  unfold rd
  constructor
  · refine Int.le_ediv_of_mul_le (by omega) ?_
    rw [show lo * (2 * d) = 2 * (lo * d) by rw [Int.mul_left_comm]]; omega
  · refine Int.lt_add_one_iff.1 (Int.ediv_lt_of_lt_mul (by omega) ?_)
    rw [Int.add_mul, show hi * (2 * d) = 2 * (hi * d) by rw [Int.mul_left_comm]]; omega
theorem wsum {x y z s t b lo hi : Int} (hx : 0 ≤ x) (hy : 0 ≤ y) (hz : 0 ≤ z) (hs : lo ≤ s ∧ s ≤ hi) (ht : lo ≤ t ∧ t ≤ hi) (hb : lo ≤ b ∧ b ≤ hi) :
    lo * (x + y + z) ≤ x * s + y * t + z * b ∧ x * s + y * t + z * b ≤ hi * (x + y + z) := by
  have a1 := Int.mul_le_mul_of_nonneg_left hs.1 hx
  have a2 := Int.mul_le_mul_of_nonneg_left hs.2 hx
  have b1 := Int.mul_le_mul_of_nonneg_left ht.1 hy
  have b2 := Int.mul_le_mul_of_nonneg_left ht.2 hy
  have c1 := Int.mul_le_mul_of_nonneg_left hb.1 hz
  have c2 := Int.mul_le_mul_of_nonneg_left hb.2 hz
  rw [Int.mul_add, Int.mul_add, Int.mul_add, Int.mul_add, Int.mul_comm lo x, Int.mul_comm lo y, Int.mul_comm lo z, Int.mul_comm hi x, Int.mul_comm hi y, Int.mul_comm hi z]
  omega
/-- the weight of Over, and the sum of a channel -/
def wgt (u v : Int) : Int := 255 * u + 255 * v - u * v
def osum (m u v b s : Int) : Int := u * (255 - v) * s + u * v * bl m b s + (255 - u) * v * b
def och (m u v b s : Int) : Int := rd (osum m u v b s) (wgt u v)
theorem wgt_parts (u v : Int) : wgt u v = u * (255 - v) + u * v + (255 - u) * v := by
  unfold wgt; rw [Int.mul_sub, Int.sub_mul]; omega
theorem wgt_md {u v : Int} (hu : Ch u) (hv : Ch v) : 0 ≤ wgt u v ∧ wgt u v ≤ 130050 := by
  have h := sq_ch hu hv
  have h1 := nn (A := 255) (B := 255) hu (b := 255 - v) ⟨by omega, by omega⟩
  have h2 := nn (A := 255) (B := 255) (a := 255 - u) ⟨by omega, by omega⟩ hv
  constructor
  · rw [wgt_parts]; omega
  · unfold wgt; omega
theorem osum_md (m : Int) {u v b s : Int} (hu : Ch u) (hv : Ch v) (hb : Ch b) (hs : Ch s) : 0 ≤ osum m u v b s ∧ osum m u v b s ≤ 255 * wgt u v := by
  have h := sq_ch hu hv
  have h1 := nn (A := 255) (B := 255) hu (b := 255 - v) ⟨by omega, by omega⟩
  have h2 := nn (A := 255) (B := 255) (a := 255 - u) ⟨by omega, by omega⟩ hv
  have := wsum (lo := 0) (hi := 255) h1.1 h.1 h2.1 hs (bl_ch m hb hs) hb
  rw [Int.zero_mul] at this
  rw [wgt_parts]; exact this
theorem och_ch (m : Int) {u v b s : Int} (hu : Ch u) (hv : Ch v) (hw : 0 < wgt u v) (hb : Ch b) (hs : Ch s) : Ch (och m u v b s) := by
  have h := osum_md m hu hv hb hs
  exact rd_between hw (by rw [Int.zero_mul]; exact h.1) h.2
theorem walp_ch {u v : Int} (hu : Ch u) (hv : Ch v) : Ch (rd (wgt u v) 255) := by
  have h := wgt_md hu hv
  have h1 := nn (A := 255) (B := 255) (a := 255 - u) (b := 255 - v) ⟨by omega, by omega⟩ ⟨by omega, by omega⟩
  rw [Int.mul_sub, Int.sub_mul, Int.sub_mul] at h1
  refine rd_between (by decide) (by omega) ?_
  unfold wgt; omega
def ovr (p q : Px) (m c : Int) : Px :=
  if wgt (mul q.a c) p.a = 0 then zp else
  ⟨och m (mul q.a c) p.a p.r q.r, och m (mul q.a c) p.a p.g q.g, och m (mul q.a c) p.a p.b q.b, rd (wgt (mul q.a c) p.a) 255⟩
/-- what lies between the operations of a channel's sum -/
theorem osum_parts (m : Int) {u v b s : Int} (hu : Ch u) (hv : Ch v) (hb : Ch b) (hs : Ch s) :
    Md (255 - v) ∧ Md (u * (255 - v)) ∧ Md (u * (255 - v) * s) ∧ Md (u * v) ∧ Md (u * v * bl m b s) ∧ Md (u * (255 - v) * s + u * v * bl m b s) ∧ Md (255 - u) ∧ Md ((255 - u) * v) ∧ Md ((255 - u) * v * b) ∧ Md (osum m u v b s) := by
  have h := sq_ch hu hv
  have h1 := nn (A := 255) (B := 255) hu (b := 255 - v) ⟨by omega, by omega⟩
  have h2 := nn (A := 255) (B := 255) (a := 255 - u) ⟨by omega, by omega⟩ hv
  have h3 := nn h1 hs
  have h4 := nn h (bl_ch m hb hs)
  have h5 := nn h2 hb
  unfold osum
  refine ⟨?_, ?_, ?_, ?_, ?_, ?_, ?_, ?_, ?_, ?_⟩ <;> constructor <;> omega
/-- Mix -/
def mp (a t : Int) : Int := a * (255 - t)
def mq (a t : Int) : Int := a * t
def mch (P Q x y : Int) : Int := rd (P * x + Q * y) (P + Q)
def mxx (p q : Px) (t : Int) : Px :=
  if rd (mp p.a (cl t) + mq q.a (cl t)) 255 = 0 then zp else
  ⟨mch (mp p.a (cl t)) (mq q.a (cl t)) p.r q.r, mch (mp p.a (cl t)) (mq q.a (cl t)) p.g q.g, mch (mp p.a (cl t)) (mq q.a (cl t)) p.b q.b, rd (mp p.a (cl t) + mq q.a (cl t)) 255⟩
theorem mpq {a b t : Int} (ha : Ch a) (hb : Ch b) (ht : Ch t) : (0 ≤ mp a t ∧ mp a t ≤ 65025) ∧ (0 ≤ mq b t ∧ mq b t ≤ 65025) ∧ Ch (rd (mp a t + mq b t) 255) := by
  have h1 := nn (A := 255) (B := 255) ha (b := 255 - t) ⟨by omega, by omega⟩
  have h2 := nn (A := 255) (B := 255) hb ht
  have h3 := wsum (x := 255 - t) (y := t) (z := 0) (s := a) (t := b) (b := 0) (lo := 0) (hi := 255) (by omega) (by omega) (by omega) ha hb (by omega)
  unfold mp mq
  refine ⟨h1, h2, rd_between (by decide) (by omega) ?_⟩
  rw [Int.mul_comm (255 - t) a, Int.mul_comm t b] at h3
  omega
theorem msum_md {P Q x y : Int} (hP : 0 ≤ P ∧ P ≤ 65025) (hQ : 0 ≤ Q ∧ Q ≤ 65025) (hx : Ch x) (hy : Ch y) : Md (P * x) ∧ Md (Q * y) ∧ Md (P * x + Q * y) ∧ P * x + Q * y ≤ 255 * (P + Q) := by
  have h1 := nn hP hx
  have h2 := nn hQ hy
  have h3 := wsum (x := P) (y := Q) (z := 0) (s := x) (t := y) (b := 0) (lo := 0) (hi := 255) hP.1 hQ.1 (by omega) hx hy (by omega)
  refine ⟨?_, ?_, ?_, ?_⟩ <;> first | omega | (constructor <;> omega)
theorem mch_ch {P Q x y : Int} (hP : 0 ≤ P ∧ P ≤ 65025) (hQ : 0 ≤ Q ∧ Q ≤ 65025) (h : 0 < P + Q) (hx : Ch x) (hy : Ch y) : Ch (mch P Q x y) := by
  have h1 := msum_md hP hQ hx hy
  exact rd_between h (by rw [Int.zero_mul]; exact h1.2.2.1.1) h1.2.2.2
theorem rd_pos {n : Int} (h0 : 0 ≤ n) (h : rd n 255 ≠ 0) : 0 < n := by
  unfold rd at h
  by_cases hn : n = 0
  · subst hn; exact absurd (by decide) h
  · omega
end Go.Proofs.YtfncldaodbfakaaGreat
