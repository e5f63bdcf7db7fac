/-
  The closures of Mask and Over.
-/
import Derived.Test.YtjaipjgnchpjcaaTClo
import Derived.Test.YtjaipjgnchpjcaaOver
namespace Go.Proofs.Ytjaipjgnchpjcaa.T
open Go.RowKit Go.Shelf
variable {W w w' : World} {L : List (Nat × Obj)}

end Go.Proofs.Ytjaipjgnchpjcaa.T
namespace Go.Proofs.Ytjaipjgnchpjcaa
open Go.RowKit T
variable {W w w' : World} {L : List (Nat × Obj)}
/-- the cells of the pixel number i of the tile in block b -/
abbrev Q4 (V : World) (b i : Nat) (p : Px) : Prop :=
  V.cell? ⟨b, 4 * i, none⟩ = some (.int .u8 p.r) ∧ V.cell? ⟨b, 4 * i + 1, none⟩ = some (.int .u8 p.g) ∧ V.cell? ⟨b, 4 * i + 2, none⟩ = some (.int .u8 p.b) ∧ V.cell? ⟨b, 4 * i + 3, none⟩ = some (.int .u8 p.a)
theorem St.q4 (h : St W L w) {b : Nat} {f : Nat → Px} (hm : (b, tob f) ∈ L) (i : Nat) (hi : i < 64) : Q4 w b i (f i) :=
  ⟨range_px (h.row hm) hi 0 _ rfl, range_px (h.row hm) hi 1 _ rfl, range_px (h.row hm) hi 2 _ rfl, range_px (h.row hm) hi 3 _ rfl⟩
theorem St.more (h : St W L w) {b : Nat} {o : Obj} (hb : w.heap[b]? = some o) : St W ((b, o) :: L) w := ⟨h.below, fun x hx => by
  rcases List.mem_cons.1 hx with rfl | hx
  · exact hb
  · exact h.rows x hx⟩
end Go.Proofs.Ytjaipjgnchpjcaa
namespace Go.Proofs.Ytjaipjgnchpjcaa.T
open Go.RowKit Go.Shelf
/-- coverages as a value, and in memory -/
def cl64 (k : Nat → Int) : List Value := (List.range 64).map fun i => .int .u8 (k i)
def cvc (k : Nat → Int) : Array Value := (cl64 k).toArray
abbrev cvo (k : Nat → Int) : Obj := .cells (cvc k) 58
theorem cvc_size (k : Nat → Int) : (cvc k).size = 64 := by simp [cvc, cl64]
theorem cvc_get (k : Nat → Int) (i : Nat) (hi : i < 64) : (cvc k)[i]? = some (.int .u8 (k i)) := by
  unfold cvc cl64
  rw [List.getElem?_toArray, List.getElem?_map, List.getElem?_range hi]; rfl
theorem index_cov (b i : Nat) (hi : i < 64) (w : World) : (Instr.indexAt 58 (.pointer (some ⟨b, 0, none⟩)) (.int .i64 i)).run Try.prog w = .ok (.pointer (some ⟨b, i, none⟩)) w := by
  have hs : (sizeOf 5).run Try.prog w = .ok 1 w := by kernel_rfl
  have h2 : 0 ≤ (i : Int) ∧ (i : Int) < (64 : Nat) := ⟨by omega, by omega⟩
  have ha : (⟨b, 0, none⟩ : Addr).add (i * 1) = ⟨b, i, none⟩ := by rw [Addr.add_mid, Nat.zero_add, Nat.mul_one]
  simp only [Instr.indexAt, asIntOf, Instr.sureAddr, Sem.run_bind, Sem.run_pure, Result.andThen_ok, run_underlying Try.underlying58, hs, if_pos h2, Int.toNat_natCast, ha]
end Go.Proofs.Ytjaipjgnchpjcaa.T
