/-
  The bytes of a string behind a conversion to a slice, as one of the blocks of one's own.
-/
import Derived.Test.YtbfnahclkajahaaCLoop
import Derived.ArgAppend
namespace Go.Proofs.Ytbfnahclkajahaa.C
open Go.RowKit Go.Shelf
set_option maxRecDepth 100000
variable {W w w' : World} {L : List (Nat × Obj)}

/-- the block of a conversion: the bytes T, room cp, marked -/
def mkO (T : List UInt8) (cp : Nat) : Obj := .cells (bytesRow (str T) cp) 5 ((bytesRow (str T) cp).size, (bytesRow (str T) cp).size + 1)
theorem brow_size (T : List UInt8) (c : Nat) : T.length ≤ (bytesRow (str T) c).size := by
  have e : (str T).size = T.length := str_size T
  have e2 : (bytesRow (str T) c).size = T.length + (c - T.length) := by
    unfold bytesRow; rw [Array.size_append, Array.size_map, Array.size_replicate, e]; simp [str]
  omega
theorem heap_setCell_mark (w : World) (g i : Nat) (cs : Array Value) (t : TypeId) (fr : Nat × Nat) (v : Value) (hg : w.heap[g]? = some (.cells cs t fr)) :
    (w.setCell ⟨g, i, none⟩ v).heap[g]? = some (.cells (cs.setIfInBounds i v) t fr) := by
  rw [setCell_eq_setRow w g i cs t fr v hg]
  exact setRow_heap w g cs _ t _ hg
theorem bytesRow_set (T : List UInt8) (c i : Nat) (hi : i < T.length) (b : UInt8) : (bytesRow (str T) c).setIfInBounds i (bcell b) = bytesRow (str (T.set i b)) c := by
  apply Array.ext'
  rw [Array.toList_setIfInBounds]
  simp only [bytesRow, str, Array.toList_append, Array.toList_map, Array.toList_replicate, ByteArray.size, List.size_toArray, List.length_set]
  have e : (fun b : UInt8 => Value.int .u8 (b.toNat : Int)) = bcell := rfl
  rw [List.set_append_left _ _ (by simpa using hi), e, ← List.map_set]
theorem HS.mcell {g cp : Nat} {T : List UInt8} (h : HS W L w) (hm : (g, mkO T cp) ∈ L) (i : Nat) (hi : i < T.length) : w.cell? ⟨g, i, none⟩ = some (bcell T[i]) := by
  rw [cell_of_row _ _ _ _ _ _ (h.row hm), bytesRow_at (str T) cp i (by simpa [str] using hi)]; rfl
theorem HS.mfree {g cp : Nat} {T : List UInt8} (h : HS W L w) (hm : (g, mkO T cp) ∈ L) (i : Nat) (hi : i < T.length) : w.frozen? ⟨g, i, none⟩ = false := by
  have h2 := h.row hm
  unfold mkO at h2
  have h3 := brow_size T cp
  simp only [World.frozen?, h2]; simp; omega
theorem HS.mset {g cp : Nat} {T : List UInt8} (h : HS W ((g, mkO T cp) :: L) w) (i : Nat) (hi : i < T.length) (b : UInt8) : HS W ((g, mkO (T.set i b) cp) :: L) (w.setCell ⟨g, i, none⟩ (bcell b)) := by
  have hL := h.ne
  have hb : W.heap.size ≤ g := h.own (g, mkO T cp) (List.mem_cons_self ..)
  refine ⟨h.below.setCell (p := ⟨g, i, none⟩) hb _, fun x hx => ?_, fun x hx => ?_, h.nd⟩
  · rcases List.mem_cons.1 hx with rfl | hx
    · have e : (bytesRow (str (T.set i b)) cp).size = (bytesRow (str T) cp).size := by rw [← bytesRow_set T cp i hi b]; simp
      show (w.setCell ⟨g, i, none⟩ (bcell b)).heap[g]? = some (mkO (T.set i b) cp)
      rw [heap_setCell_mark w g i _ _ _ (bcell b) h.hd, bytesRow_set T cp i hi b]
      unfold mkO
      rw [e]
    · rw [Below.heap_setCell _ _ _ _ (hL x hx)]
      exact h.rows x (List.mem_cons_of_mem _ hx)
  · rcases List.mem_cons.1 hx with rfl | hx
    · exact hb
    · exact h.own x (List.mem_cons_of_mem _ hx)
theorem HS.mconv {g cp : Nat} {T : List UInt8} (h : HS W L w) (hm : (g, mkO T cp) ∈ L) (j : Nat) (hj : j ≤ T.length) : (convert 33 9 (.slice (some ⟨g, 0, none⟩) j cp)).run Try.prog w = .ok (.string (str (T.take j))) w := by
  have hl : (T.take j).length = j := by rw [List.length_take]; omega
  have h2 := run_convert_bytes_back (P := Try.prog) w 33 9 5 ⟨g, 0, none⟩ cp (T.take j) Try.underlying33 Try.underlying5 Try.underlying9 fun i hi => by
    have hadd : (⟨g, 0, none⟩ : Addr).add i = ⟨g, i, none⟩ := by unfold Addr.add; split <;> simp_all
    have hi2 : i < T.length := by omega
    rw [hadd, h.mcell hm i hi2, List.getElem_take]; rfl
  rw [hl] at h2
  exact h2
theorem HS.mnew {T : List UInt8} {cp : Nat} (h : HS W L w) : HS W ((w.heap.size, mkO T cp) :: L) (w.drew.alloc (mkO T cp)) := h.drew.alloc (mkO T cp)
theorem HS.got {g : Nat} {x : ByteArray} {e : Int} (h : HS W L w) (hm : (g, .cells (gz x e) 31) ∈ L) : w.cell? ⟨g, 0, none⟩ = some (.string x) ∧ w.cell? ⟨g, 1, none⟩ = some (.int .i64 e) := ⟨h.cell hm 0, h.cell hm 1⟩
end Go.Proofs.Ytbfnahclkajahaa.C
