/-
  A slice of numbers of one's own: append.
-/
import Derived.Test.YtcmplgiilcfncaaSearch
import Derived.Maps.AppendAt
import Derived.RangeFuncBox
namespace Go.Proofs.Ytcmplgiilcfncaa
open Go.RowKit
variable {w : World}

theorem Try.infoInt : (Try.prog.info? 3).map (fun i => (i.zero, i.size, i.bytes)) = some (some (.int .i64 0), 1, 8) := by kernel_rfl
/-- the numbers p lie at the head of the slice v, which the call owns -/
def OwnsI (B : Nat) (w : World) (v : Value) (p : List Int) : Prop := w.ownsRow B 3 1 v p.length (p.map (Value.int .i64))
theorem OwnsI.later {B : Nat} {w w' : World} {v : Value} {p : List Int} (h : OwnsI B w v p) (hb : Below w.heap.size w w') : OwnsI B w' v p := by
  obtain ⟨hl, h | ⟨g, cap, cur, hv, hg, hh, h⟩⟩ := h
  · exact ⟨hl, Or.inl h⟩
  · exact ⟨hl, Or.inr ⟨g, cap, cur, hv, hg, by rw [hb.block g (Array.getElem?_eq_some_iff.1 hh).1]; exact hh, h⟩⟩
theorem OwnsI.cm {B : Nat} {v : Value} {p : List Int} (h : OwnsI B w v p) : Cm w v p := cm_own h
theorem ownsI_lit (w : World) (B : Nat) (hB : B ≤ w.heap.size) (p : List Int) (n : Nat) (hn : p.length = n) (hl : n ≤ 1000) (cs : Array Value) (hcs : cs = (p.map (Value.int .i64)).toArray) : OwnsI B (w.alloc (.cells cs 3)) (.slice (some ⟨w.heap.size, 0, none⟩) n n) p := by
  subst hn hcs
  have := World.ownsRow_lit (base := B) (e := 3) (size := 1) w (p.map (Value.int .i64)).toArray p.length hB (by unfold maxLen; omega) (by simp)
  simpa [OwnsI] using this
theorem one_cell (W : World) (x : Value) (t : TypeId) : ∀ j u, [x][j]? = some u → (W.alloc (.cells #[x] t)).cell? ((⟨W.heap.size, 0, none⟩ : Addr).add j) = some u := by
  intro j u hj
  cases j with
  | zero => simp at hj; subst hj; exact cell_alloc W x t
  | succ j => simp at hj
/-- 'append(v, x)': one number behind what the call owns -/
theorem wp_appI {ops : Array Oper} {rest : List Oper} {o : Oper} {a : Act} {Q : Exit → Act → World → Prop} (t : TypeId) (ht : Try.prog.underlying t = some (.slice 3)) (hgd : o.guard = none) (s x : Operand)
    (ho : o.op = .call { callee := .builtin .append, args := #[s, x], argTypes := #[t, t] }) (B : Nat) (W : World) (v : Value) (p : List Int) (b : Int)
    (hs : a.eval s = v) (hown : OwnsI B W v p) (hx : a.eval x = .slice (some ⟨W.heap.size, 0, none⟩) 1 1) (hp : p.length < 137438953) (hB : B ≤ W.heap.size)
    (h : ∀ v' w', OwnsI B w' v' (p ++ [b]) → Below B W w' → wpList Try.prog ops Q rest (a.put o.dst v') w') : wpList Try.prog ops Q (o :: rest) a (W.alloc (.cells #[.int .i64 b] 3)) := by
  obtain ⟨i0, hi, hz0, hz1, hz2⟩ := info_parts Try.infoInt
  refine wpList_append_own _ hgd s x t ho B 3 i0 (.int .i64 0) 1 8 ht hi hz0 hz1 hz2 rfl (by decide) v _ _ hs (World.ownsRow.alloc hown _) ⟨W.heap.size, 0, none⟩ 1 1 [.int .i64 b] hx rfl (one_cell W _ _)
    (by intro u hu; simp at hu; subst hu; rfl) (by unfold maxLen; omega) (by omega) (by simp; omega) ?_
  intro v' w' h1 h2 _
  refine h v' w' (by simpa [OwnsI] using h1) (((Below.refl B W).alloc hB _).grown h2 (by simp; omega) ?_)
  intro k hk
  obtain ⟨_, ⟨rfl, _⟩ | ⟨g, cap, cur, rfl, hg, _⟩⟩ := hown
  · simp [Value.ownBlock] at hk
  · simp [Value.ownBlock] at hk; omega
/-- .. where the number's block is told by its place -/
theorem wp_appK {ops : Array Oper} {rest : List Oper} {o : Oper} {a : Act} {Q : Exit → Act → World → Prop} (t : TypeId) (ht : Try.prog.underlying t = some (.slice 3)) (hgd : o.guard = none) (s x : Operand)
    (ho : o.op = .call { callee := .builtin .append, args := #[s, x], argTypes := #[t, t] }) (B : Nat) (W : World) (v : Value) (p : List Int) (b : Int) (k : Nat) (hk : W.heap.size = k)
    (hs : a.eval s = v) (hown : OwnsI B W v p) (hx : a.eval x = .slice (some ⟨k, 0, none⟩) 1 1) (hp : p.length < 137438953) (hB : B ≤ W.heap.size)
    (h : ∀ v' w', OwnsI B w' v' (p ++ [b]) → Below B W w' → wpList Try.prog ops Q rest (a.put o.dst v') w') : wpList Try.prog ops Q (o :: rest) a (W.alloc (.cells #[.int .i64 b] 3)) := by
  subst hk
  exact wp_appI t ht hgd s x ho B W v p b hs hown hx hp hB h
theorem OwnsI.slice {B n : Nat} {v : Value} {p : List Int} (h : OwnsI B w v p) (hl : p.length = n) : ∃ po cap, v = .slice po n cap := by
  obtain ⟨po, cap, hv, _⟩ := h.cm
  exact ⟨po, cap, by rw [← hl]; exact hv⟩
theorem OwnsI.some {B n : Nat} {v : Value} {p : List Int} (h : OwnsI B w v p) (hl : p.length = n) (hn : 0 < n) : ∃ g cap, v = .slice (some ⟨g, 0, none⟩) n cap := by
  obtain ⟨_, ⟨_, h0⟩ | ⟨g, cap, cur, rfl, _⟩⟩ := h
  · omega
  · exact ⟨g, cap, by rw [hl]⟩

theorem belowB {B : Nat} {W w' : World} (hw : Below B w W) (hb : Below B W w') : Below B w w' := hw.trans hb
end Go.Proofs.Ytcmplgiilcfncaa
