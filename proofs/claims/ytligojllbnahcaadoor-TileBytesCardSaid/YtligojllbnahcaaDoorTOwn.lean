/-
  Bytes that a call owns, and four more behind them.
-/
import Derived.Test.YtligojllbnahcaaDoorTRead
import Derived.Laws.CopyOwn
import Derived.Lib.Strings
namespace Go.Proofs.YtligojllbnahcaaDoor.T
open Go.RowKit Go.Shelf

def str (l : List UInt8) : ByteArray := ⟨l.toArray⟩
def bcell (b : UInt8) : Value := .int .u8 (b.toNat : Int)
/-- the bytes p lie at the head of the slice v, which the call owns -/
def OwnsB (B : Nat) (w : World) (v : Value) (p : List UInt8) : Prop := w.ownsRow B 5 1 v p.length (p.map bcell)
theorem owns_conv {B : Nat} {w : World} {v : Value} {p : List UInt8} (h : OwnsB B w v p) : (convert 44 9 v).run Tryd.prog w = .ok (.string (str p)) w := by
  obtain ⟨hl, h | ⟨g, cap, cur, rfl, hg, hh, hn, hc, hs, ht⟩⟩ := h
  · obtain ⟨rfl, h0⟩ := h
    have : p = [] := List.eq_nil_of_length_eq_zero h0
    subst this
    exact run_convert_bytes_nil w _ _ Tryd.underlying44 Tryd.underlying5 _ _ _ Tryd.underlying9
  · refine run_convert_bytes_back w _ _ _ ⟨g, 0, none⟩ cap p Tryd.underlying44 Tryd.underlying5 Tryd.underlying9 fun j hj => ?_
    have hadd : (⟨g, 0, none⟩ : Addr).add j = ⟨g, j, none⟩ := by unfold Addr.add; split <;> simp_all
    rw [hadd, cell_of_row _ _ _ _ _ _ hh]
    have h2 : (cur.toList.take (p.length * 1))[j]? = (p.map bcell)[j]? := by rw [ht]
    rw [List.getElem?_take_of_lt (by omega)] at h2
    rw [← Array.getElem?_toList, h2]; simp [hj, bcell]
theorem infoB : (Tryd.prog.info? 5).map (fun i => (i.zero, i.size, i.bytes)) = some (some (.int .u8 0), 1, 1) := by kernel_rfl
theorem pb_cells (p : Px) (hp : Pc p) : (pb p).map bcell = pl p := by
  have h (x : Int) (hx : Ch x) : bcell (u8 x) = .int .u8 x := congrArg (Value.int .u8) (i8_u8 hx)
  show [bcell (u8 p.r), bcell (u8 p.g), bcell (u8 p.b), bcell (u8 p.a)] = _
  rw [h _ hp.1, h _ hp.2.1, h _ hp.2.2.1, h _ hp.2.2.2]
  rfl
/-- 'append(v, r, g, b, a)': four bytes behind what the call owns -/
theorem wp_app4 {o : Oper} {a : Act} {K : Act → World → Prop} {Q : Exit → Act → World → Prop} (s x : Operand)
    (ho : o.op = .call { callee := .builtin .append, args := #[s, x], argTypes := #[44, 44] }) (B : Nat) (W : World) (v : Value) (l : List UInt8) (p : Px) (hpc : Pc p)
    (hs : a.eval s = v) (hown : OwnsB B W v l) (hx : a.eval x = .slice (some ⟨W.heap.size, 0, none⟩) 4 4) (hl : l.length < 1000) (hB : B ≤ W.heap.size)
    (h : ∀ v' w', OwnsB B w' v' (l ++ pb p) → Below B W w' → K (a.put o.dst v') w') : o.wp Tryd.prog a (W.alloc (.cells (pl p).toArray 5)) K Q := by
  obtain ⟨i0, hi, hz0, hz1, hz2⟩ := info_parts infoB
  refine wp_append_own _ s x 44 ho B 5 i0 (.int .u8 0) 1 1 Tryd.underlying44 hi hz0 hz1 hz2 rfl (by decide) v _ _ hs (World.ownsRow.alloc hown _) ⟨W.heap.size, 0, none⟩ 4 4 ((pb p).map bcell) hx rfl ?_
    (by intro u hu; simp at hu; obtain ⟨b, _, rfl⟩ := hu; rfl) (by unfold maxLen; omega) (by omega) (by simp; omega) ?_
  · intro j u hj
    rw [pb_cells p hpc] at hj
    have hadd : (⟨W.heap.size, 0, none⟩ : Addr).add j = ⟨W.heap.size, j, none⟩ := by unfold Addr.add; split <;> simp_all
    rw [hadd, cell_of_row _ _ j _ _ (0, 0) (World.alloc_heap_new W _)]
    rw [← hj]; exact List.getElem?_toArray
  intro v' w' h1 h2 _
  refine h v' w' (by simpa [OwnsB, pb] using h1) (((Below.refl B W).alloc hB _).grown h2 (by simp; omega) ?_)
  intro k hk
  obtain ⟨_, ⟨rfl, _⟩ | ⟨g, cap, cur, rfl, hg, _⟩⟩ := hown
  · simp [Value.ownBlock] at hk
  · simp [Value.ownBlock] at hk; omega
end Go.Proofs.YtligojllbnahcaaDoor.T
