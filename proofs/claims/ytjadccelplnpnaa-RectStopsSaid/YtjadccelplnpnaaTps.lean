/-
  Lists of positions in memory.
-/
import Derived.Test.YtjadccelplnpnaaRefTiles
namespace Go.Proofs.Ytjadccelplnpnaa
open Go.RowKit
/-- the cells of one position of a row -/
abbrev EP (w : World) (B i : Nat) (x0 x1 : Int) : Prop :=
  w.cell? ⟨B, i * 2, none⟩ = some (.int .i64 x0) ∧ w.cell? ⟨B, i * 2 + 1, none⟩ = some (.int .i64 x1)
/-- the slice v holds the positions l -/
def TpsAt (w : World) (v : Value) (l : List (Int × Int)) : Prop :=
  ∃ po c, v = .slice po l.length c ∧ ∀ i (h : i < l.length), ∃ b, po = some ⟨b, 0, none⟩ ∧ b < w.heap.size ∧ EP w b i l[i].1 l[i].2
theorem TpsAt.later {w w' : World} {v : Value} {l : List (Int × Int)} (h : TpsAt w v l) (hb : Below w.heap.size w w') : TpsAt w' v l := by
  obtain ⟨po, c, hv, hi⟩ := h
  refine ⟨po, c, hv, fun i h => ?_⟩
  obtain ⟨b, hp, hlt, h0, h1⟩ := hi i h
  have hc : ∀ j, w'.cell? ⟨b, j, none⟩ = w.cell? ⟨b, j, none⟩ := fun j => hb.cell (p := ⟨b, j, none⟩) hlt
  exact ⟨b, hp, Nat.lt_of_lt_of_le hlt hb.size, by rw [hc]; exact h0, by rw [hc]; exact h1⟩
theorem tcs_length (l : List (Int × Int)) : (tcs l).length = l.length * 2 := by
  induction l with
  | nil => rfl
  | cons x l ih => simp [tcs] at ih ⊢; omega
theorem tcs_get (l : List (Int × Int)) (i : Nat) (h : i < l.length) : (tcs l)[i * 2]? = some (.int .i64 l[i].1) ∧ (tcs l)[i * 2 + 1]? = some (.int .i64 l[i].2) := by
  induction l generalizing i with
  | nil => simp at h
  | cons x l ih =>
    cases i with
    | zero => simp [tcs]
    | succ i =>
      have hi : i < l.length := by simpa using h
      have e : tcs (x :: l) = [.int .i64 x.1, .int .i64 x.2] ++ tcs l := rfl
      have k (j : Nat) : (tcs (x :: l))[(i + 1) * 2 + j]? = (tcs l)[i * 2 + j]? := by
        rw [e, List.getElem?_append_right (by simp; omega)]
        congr 1; simp; omega
      have := ih i hi
      refine ⟨?_, ?_⟩
      · have := k 0; simp only [Nat.add_zero] at this; rw [this]; exact (ih i hi).1
      · rw [k 1]; exact this.2
theorem tpsAt_of_owns {w : World} {base : Nat} {v : Value} {l : List (Int × Int)} (h : w.ownsRow base 30 2 v l.length (tcs l)) : TpsAt w v l := by
  obtain ⟨_, ⟨rfl, hk⟩ | ⟨g, cap, cur, rfl, hg, hgb, hn, hc, hsz, htk⟩⟩ := h
  · exact ⟨none, 0, by rw [hk], fun i h => by omega⟩
  · refine ⟨some ⟨g, 0, none⟩, cap, rfl, fun i hi => ⟨g, rfl, (Array.getElem?_eq_some_iff.1 hgb).1, ?_⟩⟩
    have hc : ∀ j, j < l.length * 2 → w.cell? ⟨g, j, none⟩ = (tcs l)[j]? := fun j hj => by
      rw [cell_of_row _ _ _ _ _ _ hgb, ← htk, List.getElem?_take, if_pos hj]; simp
    have hx := tcs_get l i hi
    unfold EP
    rw [hc _ (by omega), hc _ (by omega)]
    exact hx
/-- one position of the list -/
theorem tps_one {w : World} {po : Option Addr} {n c : Nat} {l : List (Int × Int)} (h : TpsAt w (.slice po n c) l) {k : Nat} (hk : k < l.length) : ∃ B, po = some ⟨B, 0, none⟩ ∧ B < w.heap.size ∧ EP w B k l[k].1 l[k].2 := by
  obtain ⟨po', c', hv, hi⟩ := h
  injection hv with e1 e2 e3
  obtain ⟨b, hp, hb, h0, h1⟩ := hi k hk
  exact ⟨b, by rw [e1, hp], hb, h0, h1⟩
/-- memory of a walk over lists of positions -/
structure Tl (W : World) (L : List (Nat × Obj)) (vs : List Value) (l : List (Int × Int)) (w : World) : Prop where
  st : St W L w
  at_ : ∀ v ∈ vs, TpsAt w v l
variable {W w w' : World} {L : List (Nat × Obj)} {vs : List Value} {l : List (Int × Int)}
theorem Tl.later (h : Tl W L vs l w) (hb : Below w.heap.size w w') : Tl W L vs l w' := ⟨h.st.later hb, fun v hv => (h.at_ v hv).later hb⟩
theorem Tl.drew (h : Tl W L vs l w) : Tl W L vs l w.drew := h.later (Below.refl _ w).drew
theorem Tl.drewN (h : Tl W L vs l w) (n : Nat) : Tl W L vs l (w.drewN n) := h.later ⟨rfl, rfl, rfl, Nat.le_refl _, fun _ _ => rfl⟩
theorem Tl.call {P : Program} {f : FuncId} {args : Array Value} {u : Value} (h : Tl W L vs l w) (hc : Calls P f args w fun e w' => e = .returned u ∧ Below w.heap.size w w') :
    Calls P f args w fun e w' => e = .returned u ∧ Tl W L vs l w' := hc.mono fun _ _ ⟨h1, h2⟩ => ⟨h1, h.later h2⟩
theorem Tl.more {P : Program} {f : FuncId} {args : Array Value} (h : Tl W L vs l w)
    (hc : Calls P f args w fun e w' => ∃ v, e = .returned v ∧ w'.ownsRow w.heap.size 30 2 v l.length (tcs l) ∧ Below w.heap.size w w') :
    Calls P f args w fun e w' => ∃ po c, e = .returned (.slice po l.length c) ∧ Tl W L (.slice po l.length c :: vs) l w' := hc.mono fun _ _ ⟨v, h1, h2, h3⟩ => by
  obtain ⟨po, c, rfl⟩ := ownsRow_slice h2
  exact ⟨po, c, h1, (h.later h3).st, fun u hu => by
    rcases List.mem_cons.1 hu with rfl | hu
    · exact tpsAt_of_owns h2
    · exact (h.later h3).at_ u hu⟩
end Go.Proofs.Ytjadccelplnpnaa
