/-
  The bytes of a string behind a conversion to a slice.
-/
import Derived.Test.YtcpbadldplpedaaDoorLib
import Derived.ArgAppend
namespace Go.Proofs.YtcpbadldplpedaaDoor
open Go.RowKit

/-- the bytes T in a marked block (of a conversion), c room -/
structure Mkd (W : World) (g c : Nat) (T : List UInt8) (w : World) : Prop where
  own : w.heap[g]? = some (.cells (bytesRow (str T) c) 5 ((bytesRow (str T) c).size, (bytesRow (str T) c).size + 1))
  at_ : W.heap.size ≤ g
  below : Below W.heap.size W w
theorem row_size (T : List UInt8) (c : Nat) : T.length ≤ (bytesRow (str T) c).size ∧ c ≤ (bytesRow (str T) c).size := by
  have e : (str T).size = T.length := str_size T
  have e2 : (bytesRow (str T) c).size = T.length + (c - T.length) := by
    unfold bytesRow; rw [Array.size_append, Array.size_map, Array.size_replicate, e]; simp [str]
  omega
theorem heap_setCell_mark (w : World) (g i : Nat) (cs : Array Value) (t : TypeId) (fr : Nat × Nat) (v : Value) (hg : w.heap[g]? = some (.cells cs t fr)) :
    (w.setCell ⟨g, i, none⟩ v).heap[g]? = some (.cells (cs.setIfInBounds i v) t fr) := by
  rw [setCell_eq_setRow w g i cs t fr v hg]
  exact setRow_heap w g cs _ t _ hg
theorem bytesRow_set (T : List UInt8) (c i : Nat) (hi : i < T.length) (b : UInt8) : (bytesRow (str T) c).setIfInBounds i (bcell b) = bytesRow (str (T.set i b)) c := by
  apply Array.ext'
  rw [Array.toList_setIfInBounds]
  simp only [bytesRow, str, Array.toList_append, Array.toList_map, Array.toList_replicate, ByteArray.size, List.size_toArray, List.length_set]
  have e : (fun b : UInt8 => Value.int .u8 (b.toNat : Int)) = bcell := rfl
  rw [List.set_append_left _ _ (by simpa using hi), e, ← List.map_set]
theorem Mkd.cell {W w : World} {g c : Nat} {T : List UInt8} (h : Mkd W g c T w) (i : Nat) (hi : i < T.length) : w.cell? ⟨g, i, none⟩ = some (bcell T[i]) := by
  rw [cell_of_row _ _ _ _ _ _ h.own, bytesRow_at (str T) c i (by simpa [str] using hi)]; rfl
theorem Mkd.free {W w : World} {g c : Nat} {T : List UInt8} (h : Mkd W g c T w) (i : Nat) (hi : i < (bytesRow (str T) c).size) : w.frozen? ⟨g, i, none⟩ = false := by
  simp only [World.frozen?, h.own]; simp; omega
theorem Mkd.set {W w : World} {g c : Nat} {T : List UInt8} (h : Mkd W g c T w) (i : Nat) (hi : i < T.length) (b : UInt8) {v : Value} (hv : v = bcell b) : Mkd W g c (T.set i b) (w.setCell ⟨g, i, none⟩ v) := by
  subst hv
  have e : (bytesRow (str (T.set i b)) c).size = (bytesRow (str T) c).size := by rw [← bytesRow_set T c i hi b]; simp
  refine ⟨?_, h.at_, h.below.setCell h.at_ _⟩
  rw [heap_setCell_mark w g i _ _ _ (bcell b) h.own, bytesRow_set T c i hi b, e]

theorem Mkd.conv {W w : World} {g c : Nat} {T : List UInt8} (h : Mkd W g c T w) (n k : Nat) (hn : n = T.length) (D : TypeId) (hD : Tryd.prog.underlying D = some .string) : (convert 45 D (.slice (some ⟨g, 0, none⟩) n k)).run Tryd.prog w = .ok (.string (str T)) w := by
  subst hn
  refine run_convert_bytes_back w _ _ _ ⟨g, 0, none⟩ k T Tryd.underlying45 Tryd.underlying5 hD fun j hj => ?_
  have hadd : (⟨g, 0, none⟩ : Addr).add j = ⟨g, j, none⟩ := by unfold Addr.add; split <;> simp_all
  rw [hadd, h.cell j hj]; rfl
theorem Mkd.later {W w w' : World} {g c : Nat} {T : List UInt8} (h : Mkd W g c T w) (hb : Below w.heap.size w w') : Mkd W g c T w' :=
  ⟨by rw [hb.block g (Array.getElem?_eq_some_iff.1 h.own).1]; exact h.own, h.at_, h.below.trans (hb.mono h.below.size)⟩
theorem Mkd.drew {W w : World} {g c : Nat} {T : List UInt8} (h : Mkd W g c T w) : Mkd W g c T w.drew := ⟨h.own, h.at_, h.below.drew⟩
theorem Mkd.call {P : Program} {f : FuncId} {args : Array Value} {v : Value} {W w : World} {g c : Nat} {T : List UInt8} (h : Mkd W g c T w) (hc : Calls P f args w fun e w' => e = .returned v ∧ Below w.heap.size w w') :
    Calls P f args w fun e w' => e = .returned v ∧ Mkd W g c T w' := hc.mono fun _ _ ⟨h1, h2⟩ => ⟨h1, h.later h2⟩
end Go.Proofs.YtcpbadldplpedaaDoor
