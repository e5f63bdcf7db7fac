/-
  A Mean's Add, of pixel and of the reference (contracts).
-/
import Derived.Test.YtjaipjgnchpjcaaIdent
namespace Go.Proofs.Ytjaipjgnchpjcaa
open Go.RowKit

abbrev C5 (V : World) (b : Nat) (x0 x1 x2 x3 x4 : Int) : Prop :=
  (V.cell? ⟨b, 0, none⟩ = some (.int .i64 x0) ∧ V.cell? ⟨b, 1, none⟩ = some (.int .i64 x1) ∧ V.cell? ⟨b, 2, none⟩ = some (.int .i64 x2) ∧ V.cell? ⟨b, 3, none⟩ = some (.int .i64 x3) ∧ V.cell? ⟨b, 4, none⟩ = some (.int .i64 x4)) ∧ ∀ j, V.frozen? ⟨b, j, none⟩ = false
theorem St.five {W w : World} {L : List (Nat × Obj)} (h : St W L w) {b : Nat} {x0 x1 x2 x3 x4 : Int} {t : TypeId} (hm : (b, .cells #[.int .i64 x0, .int .i64 x1, .int .i64 x2, .int .i64 x3, .int .i64 x4] t) ∈ L) : C5 w b x0 x1 x2 x3 x4 :=
  ⟨⟨h.cell hm 0, h.cell hm 1, h.cell hm 2, h.cell hm 3, h.cell hm 4⟩, fun j => h.frozen hm j⟩
theorem drew_eq (w : World) : ({ heap := w.heap, tape := w.tape, drawn := w.drawn + 1, os := w.os, output := w.output } : World) = w.drew := rfl
/-- how often a pixel is added -/
def cnt (k : Int) : Int := if k < 1 then 0 else if 65536 < k then 65536 else k
theorem cnt_le (k : Int) : 0 ≤ cnt k ∧ cnt k ≤ 65536 := by unfold cnt; (repeat' split) <;> omega
/-- what the sums of a Mean obey -/
def Mb (n a x y z : Int) : Prop := (0 ≤ n ∧ n ≤ 68719476736) ∧ (0 ≤ a ∧ a ≤ 255 * n) ∧ (0 ≤ x ∧ x ≤ 255 * a) ∧ (0 ≤ y ∧ y ≤ 255 * a) ∧ (0 ≤ z ∧ z ≤ 255 * a)
theorem Mb.add {n a x y z k r g b al : Int} (h : Mb n a x y z) (hn : n ≤ 68719411200) (hr : Ch r) (hg : Ch g) (hb : Ch b) (ha : Ch al) :
    Mb (n + cnt k) (a + cnt k * al) (x + cnt k * al * r) (y + cnt k * al * g) (z + cnt k * al * b) := by
  have hc := cnt_le k
  generalize cnt k = c at *
  have h1 := nn hc ha
  have h1' : c * al ≤ 255 * c := by rw [Int.mul_comm 255]; exact Int.mul_le_mul_of_nonneg_left ha.2 hc.1
  have q : ∀ v, Ch v → 0 ≤ c * al * v ∧ c * al * v ≤ 255 * (c * al) := fun v hv => ⟨Int.mul_nonneg h1.1 hv.1, by rw [Int.mul_comm 255]; exact Int.mul_le_mul_of_nonneg_left hv.2 h1.1⟩
  have hr' := q r hr
  have hg' := q g hg
  have hb' := q b hb
  obtain ⟨h2, h3, h4, h5, h6⟩ := h
  refine ⟨?_, ?_, ?_, ?_, ?_⟩ <;> constructor <;> omega

end Go.Proofs.Ytjaipjgnchpjcaa
