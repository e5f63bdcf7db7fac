/-
  Clean and Fill: the closures and the functions.
-/
import Derived.Test.YtkomknhloimhcaaTGen
namespace Go.Proofs.Ytkomknhloimhcaa.T
open Go.RowKit Go.Shelf
variable {W w w' : World} {L : List (Nat × Obj)}

/-- a pixel in memory, by its list of cells -/
abbrev pxo (p : Px) : Obj := .cells (pl p).toArray 23
abbrev pto (i : Nat) : Obj := .cells #[.int .i64 ((i : Int) % 8), .int .i64 ((i : Int) / 8)] 55
abbrev ptrB (b : Nat) : Value := .pointer (some ⟨b, 0, none⟩)
theorem load_px0 (b : Nat) (p : Px) (w : World) (h : w.heap[b]? = some (pxo p)) : (Instr.loadAt 23 (ptrB b)).run Try.prog w = .ok p.v w :=
  run_loadAt_mid w b 0 23 (pl p) _ (fun j v hv => by rw [Nat.zero_add, cell_of_row w b j _ _ (0, 0) h, ← hv]; exact List.getElem?_toArray) Try.underlying23 rfl (by kernel_rfl)
theorem store_px0 (b : Nat) (p q : Px) (w : World) (h : w.heap[b]? = some (pxo p)) : (Instr.storeAt 23 (ptrB b) q.v).run Try.prog w = .ok () (w.setRow b (pl q).toArray) := by
  have := run_storeVar_row (P := Try.prog) w b _ 23 _ (pl q).toArray h info_px rfl (pl_one q)
  simp only [Instr.storeAt, Instr.sureAddr, Sem.run_bind, Sem.run_pure, Result.andThen_ok]
  exact this
theorem Below.setRow {B g : Nat} {w0 w : World} (hb : Below B w0 w) (hBg : B ≤ g) (cs : Array Value) : Below B w0 (w.setRow g cs) :=
  hb.trans ⟨rfl, rfl, rfl, by simp, fun k hk => setRow_other w g k cs (by omega)⟩
theorem old_row {b : Nat} {o : Obj} (h : w.heap[b]? = some o) (hb : Below w.heap.size w w') : w'.heap[b]? = some o := (hb.block b (Array.getElem?_eq_some_iff.1 h).1).trans h
/-- the call's two blocks behind its place -/
theorem two_new (V : World) (o o' : Obj) : ((V.alloc o).alloc o').heap[V.heap.size + 1]? = some o' ∧ Below V.heap.size V ((V.alloc o).alloc o') ∧ ((V.alloc o).alloc o').heap.size = V.heap.size + 2 :=
  ⟨by have := World.alloc_heap_new (V.alloc o) o'; rwa [World.size_alloc] at this, ((Below.refl _ _).alloc (Nat.le_refl _) _).alloc (by simp) _, by simp⟩
theorem info_pxr : (Try.prog.info? 23).map (·.size) = some 4 := info_px

set_option maxRecDepth 100000 in
set_option maxHeartbeats 4000000 in
theorem clean1 (f : Nat → Px) (b i : Nat) (V : World) (hi : i < 64) (h : V.heap[b]? = some (tob f)) :
    Calls Try.prog 39 (#[.int .i64 i, ptv i] ++ #[ptrB b]) V fun e w' => e = .returned (cln (f i)).v ∧ Below V.heap.size V w' := by
  have key : Calls Try.prog 39 #[.int .i64 i, ptv i, ptrB b] V fun e w' => e = .returned (cln (f i)).v ∧ Below V.heap.size V w' := by
    obtain ⟨V2, hV2⟩ : ∃ V2, V2 = (V.alloc (pto i)).alloc (pxo zp) := ⟨_, rfl⟩
    obtain ⟨hr, hB, hz⟩ := two_new V (pto i) (pxo zp)
    rw [← hV2] at hr hB hz
    have hix := index_px b i hi
    have HL := Lib.hid (load_px b f i hi _ (old_row h hB))
    have HR := Lib.hid hr
    have HB := Lib.hid hB
    have HZ := Lib.hid hz
    have HV := Lib.hid hV2
    clear h hr hB hz hV2
    go_enter Try.func39, Try.ntmps39
    go_upto_region 1 with fail
    have e1 : (V.alloc (pto i)).alloc (po 0 0 0 0) = V2 := HV.out.symm
    rw [e1]
    clear e1
    go_wp2_with (first
      | (refine wpList_load_of rfl 23 _ rfl _ HL.out ?_)
      | (refine wpList_store_of rfl 23 _ _ rfl (store_px0 _ _ _ _ HR3.out) ?_)
      | (go_at_call 40; (refine (clean_any _ _ _ _ _).mono ?_); rintro e V3 ⟨rfl, hb3⟩; have HR3 := Lib.hid (old_row HR.out hb3); have HB3 := Lib.hid (HB.out.trans (hb3.mono (by have := HZ.out; omega))); clear hb3))
    exact bodyPost_ret (v := (cln (f i)).v) (results_cell_row rfl _ _ (V.heap.size + 1) _ _ _ _ rfl (setRow_heap _ _ _ _ _ _ HR3.out) Try.underlying23 rfl info_px) rfl ⟨rfl, Below.setRow HB3.out (by omega) _⟩
  exact key
end Go.Proofs.Ytkomknhloimhcaa.T
