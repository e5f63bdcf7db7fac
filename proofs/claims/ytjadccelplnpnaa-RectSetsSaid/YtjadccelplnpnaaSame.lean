/-
  Lists of rectangles in memory; what Same of the reference returns at equal lists.
-/
import Derived.Test.YtjadccelplnpnaaMinus
namespace Go.Proofs.Ytjadccelplnpnaa
open Go.RowKit

theorem below_appended {W w1 : World} {n₀ e size k : Nat} {v : Value} {xs : List Value} {tmp : Obj} (hrow : W.ownsRow n₀ e size v k xs) (hn : n₀ ≤ W.heap.size) (hg : (W.alloc tmp).grownBy w1 v.ownBlock) : Below n₀ W w1 := by
  refine ((Below.refl n₀ W).alloc hn tmp).grown hg (by simp; omega) fun j ej => ?_
  rcases hrow.2 with ⟨rfl, _⟩ | ⟨g, cap, cur, rfl, hb, _, _⟩
  · simp [Value.ownBlock] at ej
  · obtain rfl : g = j := by simpa [Value.ownBlock] using ej
    exact hb
/-- the slice v holds the rectangles l -/
def RcsAt (w : World) (v : Value) (l : List Rc) : Prop :=
  ∃ po c, v = .slice po l.length c ∧ (l.length : Int) ≤ 1000000 ∧ ∀ i (h : i < l.length), ∃ b, po = some ⟨b, 0, none⟩ ∧ b < w.heap.size ∧
    w.cell? ⟨b, i * 4, none⟩ = some (.int .i64 l[i].x0) ∧ w.cell? ⟨b, i * 4 + 1, none⟩ = some (.int .i64 l[i].y0) ∧ w.cell? ⟨b, i * 4 + 2, none⟩ = some (.int .i64 l[i].x1) ∧ w.cell? ⟨b, i * 4 + 3, none⟩ = some (.int .i64 l[i].y1)
theorem RcsAt.later {w w' : World} {v : Value} {l : List Rc} (h : RcsAt w v l) (hb : Below w.heap.size w w') : RcsAt w' v l := by
  obtain ⟨po, c, hv, hl, hi⟩ := h
  refine ⟨po, c, hv, hl, fun i h => ?_⟩
  obtain ⟨b, hp, hlt, h0, h1, h2, h3⟩ := hi i h
  have hc : ∀ j, w'.cell? ⟨b, j, none⟩ = w.cell? ⟨b, j, none⟩ := fun j => hb.cell (p := ⟨b, j, none⟩) hlt
  exact ⟨b, hp, Nat.lt_of_lt_of_le hlt hb.size, by rw [hc]; exact h0, by rw [hc]; exact h1, by rw [hc]; exact h2, by rw [hc]; exact h3⟩
theorem RcsAt.get {w : World} {B n c : Nat} {l : List Rc} (h : RcsAt w (.slice (some ⟨B, 0, none⟩) n c) l) : n = l.length ∧ ∀ i (h : i < l.length), B < w.heap.size ∧
    w.cell? ⟨B, i * 4, none⟩ = some (.int .i64 l[i].x0) ∧ w.cell? ⟨B, i * 4 + 1, none⟩ = some (.int .i64 l[i].y0) ∧ w.cell? ⟨B, i * 4 + 2, none⟩ = some (.int .i64 l[i].x1) ∧ w.cell? ⟨B, i * 4 + 3, none⟩ = some (.int .i64 l[i].y1) := by
  obtain ⟨po, c', hv, hl, hi⟩ := h
  injection hv with e1 e2 e3
  refine ⟨e2, fun i h => ?_⟩
  obtain ⟨b, hp, rest⟩ := hi i h
  rw [← e1] at hp
  cases hp
  exact rest
theorem rcs_length (l : List Rc) : (rcs l).length = l.length * 4 := by
  induction l with
  | nil => rfl
  | cons x l ih => simp [rcs] at ih ⊢; omega
theorem rcs_get (l : List Rc) (i : Nat) (h : i < l.length) : (rcs l)[i * 4]? = some (.int .i64 l[i].x0) ∧ (rcs l)[i * 4 + 1]? = some (.int .i64 l[i].y0) ∧ (rcs l)[i * 4 + 2]? = some (.int .i64 l[i].x1) ∧ (rcs l)[i * 4 + 3]? = some (.int .i64 l[i].y1) := by
  induction l generalizing i with
  | nil => simp at h
  | cons x l ih =>
    cases i with
    | zero => simp [rcs]
    | succ i =>
      have hi : i < l.length := by simpa using h
      have e : rcs (x :: l) = [.int .i64 x.x0, .int .i64 x.y0, .int .i64 x.x1, .int .i64 x.y1] ++ rcs l := rfl
      have k (j : Nat) : (rcs (x :: l))[(i + 1) * 4 + j]? = (rcs l)[i * 4 + j]? := by
        rw [e, List.getElem?_append_right (by simp; omega)]
        congr 1; simp; omega
      have := ih i hi
      refine ⟨?_, ?_, ?_, ?_⟩
      · have := k 0; simp only [Nat.add_zero] at this; rw [this]; exact (ih i hi).1
      · rw [k 1]; exact this.2.1
      · rw [k 2]; exact this.2.2.1
      · rw [k 3]; exact this.2.2.2
theorem rcsAt_of_owns {w : World} {base : Nat} {v : Value} {l : List Rc} (h : w.ownsRow base 23 4 v l.length (rcs l)) (hl : (l.length : Int) ≤ 1000000) : RcsAt w v l := by
  obtain ⟨_, ⟨rfl, hk⟩ | ⟨g, cap, cur, rfl, hg, hgb, hn, hc, hsz, htk⟩⟩ := h
  · exact ⟨none, 0, by rw [hk], hl, fun i h => by omega⟩
  · refine ⟨some ⟨g, 0, none⟩, cap, rfl, hl, fun i hi => ⟨g, rfl, (Array.getElem?_eq_some_iff.1 hgb).1, ?_⟩⟩
    have hc : ∀ j, j < l.length * 4 → w.cell? ⟨g, j, none⟩ = (rcs l)[j]? := fun j hj => by
      rw [cell_of_row _ _ _ _ _ _ hgb, ← htk, List.getElem?_take, if_pos hj]; simp
    have hx := rcs_get l i hi
    rw [hc _ (by omega), hc _ (by omega), hc _ (by omega), hc _ (by omega)]
    exact hx

theorem rcsAt_block {w : World} {b n c : Nat} {cs : Array Value} {t : TypeId} {fr : Nat × Nat} (l : List Rc) (h : w.heap[b]? = some (.cells cs t fr)) (hcs : cs = (rcs l).toArray) (hn : n = l.length) (hl : (l.length : Int) ≤ 1000000) : RcsAt w (.slice (some ⟨b, 0, none⟩) n c) l := by
  subst hn hcs
  refine ⟨some ⟨b, 0, none⟩, c, rfl, hl, fun i hi => ⟨b, rfl, (Array.getElem?_eq_some_iff.1 h).1, ?_⟩⟩
  have hc : ∀ j, w.cell? ⟨b, j, none⟩ = (rcs l)[j]? := fun j => by rw [cell_of_row _ _ _ _ _ _ h]; simp
  rw [hc, hc, hc, hc]
  exact rcs_get l i hi

set_option maxHeartbeats 1000000 in
theorem same_yes (v1 v2 : Value) (l : List Rc) (w : World) (h1 : RcsAt w v1 l) (h2 : RcsAt w v2 l) : Calls Try.prog 42 #[v1, v2] w fun e w' => e = .returned (.bool true) ∧ Below w.heap.size w w' := by
  obtain ⟨p1, c1, rfl, hl, i1⟩ := h1
  obtain ⟨p2, c2, rfl, _, i2⟩ := h2
  go_enter Try.func42, Try.ntmps42
  go_wp2
  go_loopw [5] (fun i wr => ∃ k : Nat, k ≤ l.length ∧ i = .int .i64 k ∧ ∃ nq, wr = w.drewN nq) (fun i _ => l.length - (intOf i).toNat)
  case atStart => exact ⟨0, Nat.zero_le _, rfl, 0, rfl⟩
  case round =>
    obtain ⟨k, hk, rfl, nq, rfl⟩ := hrel
    by_cases hlt : k < l.length
    · obtain ⟨b1, rfl, _, x0, x1, x2, x3⟩ := i1 k hlt
      obtain ⟨b2, rfl, _, y0, y1, y2, y3⟩ := i2 k hlt
      clear i1 i2
      generalize l[k] = x at x0 x1 x2 x3 y0 y1 y2 y3
      obtain ⟨x0', x1', x2', x3'⟩ := x
      go_upto_region 6 with fail
      go_quiet (fail)
      go_wp2
      go_roundw
      case rel => exact ⟨k + 1, by omega, by go_num, _, rfl⟩
      case measure => simp [intOf]; omega
    · go_wp2
      go_ret
      exact ⟨rfl, ⟨rfl, rfl, rfl, Nat.le_refl _, fun _ _ => rfl⟩⟩
end Go.Proofs.Ytjadccelplnpnaa
