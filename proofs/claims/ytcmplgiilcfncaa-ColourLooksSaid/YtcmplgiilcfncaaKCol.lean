/-
  Lists of colours in memory, and append to a list of one's own.
-/
import Derived.Test.YtcmplgiilcfncaaKConv
import Derived.Laws.MakeOwn
namespace Go.Proofs.Ytcmplgiilcfncaa.K
open Go.RowKit
variable {W w w' : World} {L : List (Nat × Obj)}

def c30 : C3 := ⟨0, 0, 0⟩
abbrev c3n (l : List C3) (i : Nat) : C3 := l.getD i c30
def clv (l : List C3) : List Value := l.flatMap fun x => [.int .i64 x.r, .int .i64 x.g, .int .i64 x.b]
/-- the cells from off on of block b hold the colours -/
structure CRow (w : World) (b off : Nat) (l : List C3) : Prop where
  lt : b < w.heap.size
  at' : ∀ i, i < l.length → CB3 w b (off + i * 3) (c3n l i)
theorem CRow.later {b off : Nat} {l : List C3} (h : CRow w b off l) (hb : Below w.heap.size w w') : CRow w' b off l :=
  ⟨Nat.lt_of_lt_of_le h.lt hb.size, fun i hi => by
    have hc : ∀ j, w'.cell? ⟨b, j, none⟩ = w.cell? ⟨b, j, none⟩ := fun j => hb.cell (p := ⟨b, j, none⟩) h.lt
    obtain ⟨h0, h1, h2⟩ := h.at' i hi
    exact ⟨(hc _).trans h0, (hc _).trans h1, (hc _).trans h2⟩⟩
/-- v is a list of the colours l -/
def Cls (w : World) (v : Value) (l : List C3) : Prop :=
  ∃ po cap, v = .slice po l.length cap ∧ l.length ≤ cap ∧ cap ≤ 9223372036854775807 ∧ (0 < l.length → ∃ b off, po = some ⟨b, off, none⟩ ∧ CRow w b off l)
theorem Cls.later {v : Value} {l : List C3} (h : Cls w v l) (hb : Below w.heap.size w w') : Cls w' v l := by
  obtain ⟨po, cap, rfl, h1, h2, h3⟩ := h
  refine ⟨po, cap, rfl, h1, h2, fun hp => ?_⟩
  obtain ⟨b, off, h4, h5⟩ := h3 hp
  exact ⟨b, off, h4, h5.later hb⟩
theorem Cls.nil (w : World) : Cls w (.slice none 0 0) [] := ⟨none, 0, rfl, Nat.le_refl _, by omega, fun h => absurd h (Nat.lt_irrefl _)⟩
theorem Cls.row {v : Value} {l : List C3} (h : Cls w v l) (hp : 0 < l.length) : ∃ b off cap, v = .slice (some ⟨b, off, none⟩) l.length cap ∧ l.length ≤ cap ∧ cap ≤ 9223372036854775807 ∧ CRow w b off l := by
  obtain ⟨po, cap, rfl, h1, h2, h3⟩ := h
  obtain ⟨b, off, rfl, h5⟩ := h3 hp
  exact ⟨b, off, cap, rfl, h1, h2, h5⟩
theorem clv_length (l : List C3) : (clv l).length = l.length * 3 := by
  induction l with
  | nil => rfl
  | cons x l ih => simp [clv] at ih ⊢; omega
theorem clv_snoc (l : List C3) (x : C3) : clv (l ++ [x]) = clv l ++ [.int .i64 x.r, .int .i64 x.g, .int .i64 x.b] := by simp [clv]
theorem clv_get (l : List C3) (i : Nat) (h : i < l.length) : (clv l)[i * 3]? = some (.int .i64 (c3n l i).r) ∧ (clv l)[i * 3 + 1]? = some (.int .i64 (c3n l i).g) ∧ (clv l)[i * 3 + 2]? = some (.int .i64 (c3n l i).b) := by
  induction l generalizing i with
  | nil => simp at h
  | cons x l ih =>
    cases i with
    | zero => simp [clv, c3n]
    | succ i =>
      have hi : i < l.length := by simpa using h
      have e : clv (x :: l) = [.int .i64 x.r, .int .i64 x.g, .int .i64 x.b] ++ clv l := rfl
      have k (j : Nat) : (clv (x :: l))[(i + 1) * 3 + j]? = (clv l)[i * 3 + j]? := by
        rw [e, List.getElem?_append_right (by simp; omega)]
        congr 1; simp; omega
      have h2 := ih i hi
      have e2 : c3n (x :: l) (i + 1) = c3n l i := by simp [c3n]
      rw [e2]
      refine ⟨?_, ?_, ?_⟩
      · have := k 0; simp only [Nat.add_zero] at this; rw [this]; exact h2.1
      · rw [k 1]; exact h2.2.1
      · rw [k 2]; exact h2.2.2
/-- the colours l lie at the head of the list v, which the call owns -/
def OwnsC (B : Nat) (w : World) (v : Value) (l : List C3) : Prop := w.ownsRow B 25 3 v l.length (clv l)
theorem OwnsC.later {B : Nat} {v : Value} {l : List C3} (h : OwnsC B w v l) (hb : Below w.heap.size w w') : OwnsC B w' v l := by
  obtain ⟨hl, h | ⟨g, cap, cur, hv, hg, hh, h⟩⟩ := h
  · exact ⟨hl, Or.inl h⟩
  · exact ⟨hl, Or.inr ⟨g, cap, cur, hv, hg, by rw [hb.block g (Array.getElem?_eq_some_iff.1 hh).1]; exact hh, h⟩⟩
theorem OwnsC.cls {B : Nat} {v : Value} {l : List C3} (h : OwnsC B w v l) : Cls w v l := by
  obtain ⟨_, ⟨rfl, hk⟩ | ⟨g, cap, cur, rfl, hg, hgb, hn, hc, hsz, htk⟩⟩ := h
  · have : l = [] := List.eq_nil_of_length_eq_zero hk
    subst this
    exact Cls.nil w
  · refine ⟨some ⟨g, 0, none⟩, cap, rfl, hn, by unfold maxLen at hc; omega, fun _ => ⟨g, 0, rfl, (Array.getElem?_eq_some_iff.1 hgb).1, fun i hi => ?_⟩⟩
    have hcc : ∀ j, j < l.length * 3 → w.cell? ⟨g, j, none⟩ = (clv l)[j]? := fun j hj => by
      rw [cell_of_row _ _ _ _ _ _ hgb, ← htk, List.getElem?_take, if_pos hj]; simp
    have hx := clv_get l i hi
    rw [Nat.zero_add]
    exact ⟨by rw [hcc _ (by omega)]; exact hx.1, by rw [hcc _ (by omega)]; exact hx.2.1, by rw [hcc _ (by omega)]; exact hx.2.2⟩
theorem OwnsC.slice {B : Nat} {v : Value} {l : List C3} (h : OwnsC B w v l) : ∃ po cap, v = .slice po l.length cap := by
  obtain ⟨po, cap, hv, _⟩ := h.cls
  exact ⟨po, cap, hv⟩
theorem Try.infoCol : (Try.prog.info? 25).map (fun i => (i.zero, i.size, i.bytes)) = some (some (ag 0 0 0), 3, 24) := by kernel_rfl
theorem info_parts3 {P : Program} {e : TypeId} {z : Value} {s b : Nat} (h : (P.info? e).map (fun i => (i.zero, i.size, i.bytes)) = some (some z, s, b)) : ∃ i, P.info? e = some i ∧ i.zero = some z ∧ i.size = s ∧ i.bytes = b := by
  cases hi : P.info? e with
  | none => rw [hi] at h; cases h
  | some i => rw [hi] at h; simp at h; exact ⟨i, rfl, h.1, h.2.1, h.2.2⟩
theorem cell3_new (W : World) (a b c : Int) (t : TypeId) : ∀ j u, [Value.int .i64 a, .int .i64 b, .int .i64 c][j]? = some u → (W.alloc (.cells #[.int .i64 a, .int .i64 b, .int .i64 c] t)).cell? ((⟨W.heap.size, 0, none⟩ : Addr).add j) = some u := by
  intro j u hj
  have hadd : (⟨W.heap.size, 0, none⟩ : Addr).add j = ⟨W.heap.size, j, none⟩ := by unfold Addr.add; split <;> simp_all
  rw [hadd, cell_of_row _ _ _ _ t (0, 0) (World.alloc_heap_new W _)]
  rw [← hj]; simp
/-- 'append(v, x)': one colour behind what the call owns -/
theorem wp_appC {ops : Array Oper} {rest : List Oper} {o : Oper} {a : Act} {Q : Exit → Act → World → Prop} (hgd : o.guard = none) (s x : Operand)
    (ho : o.op = .call { callee := .builtin .append, args := #[s, x], argTypes := #[28, 28] }) (B : Nat) (W : World) (v : Value) (l : List C3) (c0 c1 c2 : Int)
    (hs : a.eval s = v) (hown : OwnsC B W v l) (hx : a.eval x = .slice (some ⟨W.heap.size, 0, none⟩) 1 1) (hp : l.length < 1000000000) (hB : B ≤ W.heap.size)
    (h : ∀ v' w', OwnsC B w' v' (l ++ [⟨c0, c1, c2⟩]) → Below B W w' → wpList Try.prog ops Q rest (a.put o.dst v') w') : wpList Try.prog ops Q (o :: rest) a (W.alloc (ac c0 c1 c2)) := by
  obtain ⟨i0, hi, hz0, hz1, hz2⟩ := info_parts3 Try.infoCol
  refine wpList_append_own _ hgd s x 28 ho B 25 i0 (ag 0 0 0) 3 24 Try.underlying28 hi hz0 hz1 hz2 rfl (by decide) v _ _ hs (World.ownsRow.alloc hown _) ⟨W.heap.size, 0, none⟩ 1 1 [.int .i64 c0, .int .i64 c1, .int .i64 c2] hx rfl (cell3_new W _ _ _ _)
    (by intro u hu; simp at hu; rcases hu with rfl | rfl | rfl <;> rfl) (by unfold maxLen; omega) (by omega) (by simp; omega) ?_
  intro v' w' h1 h2 _
  refine h v' w' (by unfold OwnsC; rw [clv_snoc]; simpa using h1) (((Below.refl B W).alloc hB _).grown h2 (by simp; omega) ?_)
  intro k hk
  obtain ⟨_, ⟨rfl, _⟩ | ⟨g, cap, cur, rfl, hg, _⟩⟩ := hown
  · simp [Value.ownBlock] at hk
  · simp [Value.ownBlock] at hk; omega
/-- 'make([]Colour, 0, n)' -/
theorem make_col (w : World) (n : Nat) (hn : n ≤ 1000000000) : ∃ w', (Instr.makeSlice 28 (.int .i64 0) (.int .i64 (n : Int))).run Try.prog w = .ok (.slice (some ⟨w.heap.size, 0, none⟩) 0 n) w' ∧ OwnsC w.heap.size w' (.slice (some ⟨w.heap.size, 0, none⟩) 0 n) [] ∧ Below w.heap.size w w' := by
  obtain ⟨i0, hi, hz0, hz1, hz2⟩ := info_parts3 Try.infoCol
  obtain ⟨w', h1, h2, h3⟩ := run_make_own w w.heap.size 28 25 i0 (ag 0 0 0) 3 Try.underlying28 hi hz0 hz1 .i64 .i64 n (by rw [hz2]; omega) (by unfold maxLen; omega) (Nat.le_refl _)
  exact ⟨w', h1, h2, ⟨h3.os, h3.tape, h3.output, h3.size, fun k hk => h3.block k hk (by simp)⟩⟩
theorem map_take {f : C3 → C3} (l : List C3) (k : Nat) (h : k < l.length) : (l.take (k + 1)).map f = (l.take k).map f ++ [f (c3n l k)] := by
  rw [List.take_add_one, List.getElem?_eq_getElem h, List.map_append]
  simp [c3n, List.getD, h]
end Go.Proofs.Ytcmplgiilcfncaa.K
