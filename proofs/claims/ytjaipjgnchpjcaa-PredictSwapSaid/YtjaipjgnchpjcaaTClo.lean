/-
  Clean and Fill: the closures and the functions.
-/
import Derived.Test.YtjaipjgnchpjcaaTGen
namespace Go.Proofs.Ytjaipjgnchpjcaa.T
open Go.RowKit Go.Shelf
variable {W w w' : World} {L : List (Nat × Obj)}

/-- a pixel in memory, by its list of cells -/
abbrev pxo (p : Px) : Obj := .cells (pl p).toArray 23
abbrev ptrB (b : Nat) : Value := .pointer (some ⟨b, 0, none⟩)
theorem load_px0 (b : Nat) (p : Px) (w : World) (h : w.heap[b]? = some (pxo p)) : (Instr.loadAt 23 (ptrB b)).run Try.prog w = .ok p.v w :=
  run_loadAt_mid w b 0 23 (pl p) _ (fun j v hv => by rw [Nat.zero_add, cell_of_row w b j _ _ (0, 0) h, ← hv]; exact List.getElem?_toArray) Try.underlying23 rfl (by kernel_rfl)
theorem store_px0 (b : Nat) (p q : Px) (w : World) (h : w.heap[b]? = some (pxo p)) : (Instr.storeAt 23 (ptrB b) q.v).run Try.prog w = .ok () (w.setRow b (pl q).toArray) := by
  have := run_storeVar_row (P := Try.prog) w b _ 23 _ (pl q).toArray h info_px rfl (pl_one q)
  simp only [Instr.storeAt, Instr.sureAddr, Sem.run_bind, Sem.run_pure, Result.andThen_ok]
  exact this
theorem Below.setRow {B g : Nat} {w0 w : World} (hb : Below B w0 w) (hBg : B ≤ g) (cs : Array Value) : Below B w0 (w.setRow g cs) :=
  hb.trans ⟨rfl, rfl, rfl, by simp, fun k hk => setRow_other w g k cs (by omega)⟩
theorem old_row {b : Nat} {o : Obj} (h : w.heap[b]? = some o) (hb : Below w.heap.size w w') : w'.heap[b]? = some o := (hb.block b (Array.getElem?_eq_some_iff.1 h).1).trans h
/-- the call's two blocks behind its place -/
theorem two_new (V : World) (o o' : Obj) : ((V.alloc o).alloc o').heap[V.heap.size + 1]? = some o' ∧ Below V.heap.size V ((V.alloc o).alloc o') ∧ ((V.alloc o).alloc o').heap.size = V.heap.size + 2 :=
  ⟨by have := World.alloc_heap_new (V.alloc o) o'; rwa [World.size_alloc] at this, ((Below.refl _ _).alloc (Nat.le_refl _) _).alloc (by simp) _, by simp⟩
theorem info_pxr : (Try.prog.info? 23).map (·.size) = some 4 := info_px

end Go.Proofs.Ytjaipjgnchpjcaa.T
