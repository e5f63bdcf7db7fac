/-
  A file's methods at a file without tiles, and at no file.
-/
import Derived.Test.YtfncldaodbfakaaGreatZSan
namespace Go.Proofs.YtfncldaodbfakaaGreat.Z
open Go.RowKit Go.Shelf
set_option maxRecDepth 100000
variable {V W w w' : World} {L : List (Nat × Obj)} {b : Nat} {q : Option Addr}

theorem count0 (h : St W L w) (hm : (b, fo0 q) ∈ L) : Calls Tryz.prog 31 #[.pointer (some ⟨b, 0, none⟩)] w fun e w' => e = .returned (.int .i64 0) ∧ w' = w := by
  have c0 : w.cell? ⟨b, 0, none⟩ = some (.slice q 0 0) := h.cell hm 0
  clear h hm
  go_enter Tryz.func31, Tryz.ntmps31
  go_wp2
  go_ret
  exact ⟨rfl, rfl⟩
theorem countN (w : World) : Calls Tryz.prog 31 #[.pointer none] w fun e w' => e = .returned (.int .i64 0) ∧ w' = w := by
  go_enter Tryz.func31, Tryz.ntmps31
  go_wp2
  go_ret
  exact ⟨rfl, rfl⟩
theorem decodedN (w : World) : Calls Tryz.prog 26 #[.pointer none] w fun e w' => e = .returned (.int .i64 0) ∧ w' = w := by
  go_enter Tryz.func26, Tryz.ntmps26
  go_wp2
  go_ret
  exact ⟨rfl, rfl⟩
abbrev rz : Value := .agg #[.int .i64 0, .int .i64 0, .int .i64 0, .int .i64 0]
theorem boundsN (w : World) : Calls Tryz.prog 40 #[.pointer none] w fun e w' => e = .returned rz ∧ Below w.heap.size w w' := by
  go_enter Tryz.func40, Tryz.ntmps40
  go_wp2
  exact bodyPost_ret (v := rz) (by simp [results, Tryz.results40, go_sem, *]) rfl ⟨rfl, ((Below.refl _ w).alloc (Nat.le_refl _) _).alloc (by simp) _⟩
theorem bounds0 (h : St W L w) (hm : (b, fo0 q) ∈ L) : Calls Tryz.prog 40 #[.pointer (some ⟨b, 0, none⟩)] w fun e w' => e = .returned rz ∧ Below w.heap.size w w' := by
  have h2 := (h.alloc (.cells #[.int .i64 0, .int .i64 0, .int .i64 0, .int .i64 0] 49)).alloc (.cells #[.int .i64 0, .int .i64 0, .int .i64 0, .int .i64 0] 49)
  have h3 := ((St.start w).alloc (.cells #[.int .i64 0, .int .i64 0, .int .i64 0, .int .i64 0] 49)).alloc (.cells #[.int .i64 0, .int .i64 0, .int .i64 0, .int .i64 0] 49)
  have c0 := h2.cell (b := b) (cs := #[.slice q 0 0, .int .i64 0]) (t := 127) (by simp [hm]) 0
  rw [World.size_alloc] at h3
  have HB := Lib.hid h3.below
  clear h2 h h3
  go_enter Tryz.func40, Tryz.ntmps40
  go_upto_region 5 with fail
  go_loopw [14] (fun i wr => i = .int .i64 0 ∧ wr = (w.alloc (.cells #[.int .i64 0, .int .i64 0, .int .i64 0, .int .i64 0] 49)).alloc (.cells #[.int .i64 0, .int .i64 0, .int .i64 0, .int .i64 0] 49)) (fun _ _ => 0)
  case atStart => exact ⟨rfl, rfl⟩
  case round =>
    obtain ⟨rfl, rfl⟩ := hrel
    go_wp2
    exact bodyPost_ret (v := rz) (by simp [results, Tryz.results40, go_sem, *]) rfl ⟨rfl, HB.out⟩
end Go.Proofs.YtfncldaodbfakaaGreat.Z
