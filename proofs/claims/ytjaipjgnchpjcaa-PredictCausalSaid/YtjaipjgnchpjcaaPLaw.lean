/-
  The laws' arguments.
-/
import Derived.Test.YtjaipjgnchpjcaaTLaw
import Derived.Test.YtjaipjgnchpjcaaPSane
namespace Go.Proofs.Ytjaipjgnchpjcaa.P
open Go.ChangeShapes Go.WideShapes Go.ChangeAt Go.RowKit T
set_option maxRecDepth 100000

theorem open_b256 {W : World} {r : Reach} {base : Nat} {v : Value} (hv : Value.okWide Try.prog W r base 26 v) : ∃ f : Nat → Int, v = .agg (qc f) ∧ ∀ i, i < 256 → Ch (f i) := by
  obtain ⟨cs, rfl, hs, h⟩ := agg_cells (by kernel_rfl) (List.replicate 256 5) (by kernel_rfl) (by rw [List.length_replicate]; kernel_rfl) hv
  have hs : cs.size = 256 := hs.trans (by kernel_rfl)
  have hb : Bytes8 cs 0 256 := bytes_of h 0 256 (by omega) (fun i hi => by rw [Nat.zero_add, List.getElem?_replicate, if_pos hi])
  refine ⟨nat8 cs, congrArg Value.agg (Array.ext_getElem? fun i => ?_), fun i hi => ?_⟩
  · by_cases hi : i < 256
    · obtain ⟨a, ha, _⟩ := hb i hi
      rw [Nat.zero_add] at ha
      rw [ha, qc_get _ i hi, nat8_of ha]
    · rw [Array.getElem?_eq_none (by omega), Array.getElem?_eq_none (by rw [qc_size]; omega)]
  · obtain ⟨a, ha, hc⟩ := hb i hi
    rw [Nat.zero_add] at ha
    rw [nat8_of ha]; exact hc
theorem ok_b256 (W : World) (base : Nat) : Value.okWide Try.prog W .any base 26 (.agg (qc zn)) :=
  ok_agg (ts := List.replicate 256 5) (by kernel_rfl) (by kernel_rfl) (by rw [List.length_replicate]; kernel_rfl) (by rw [qc_size, List.length_replicate]) (fun i v u hv hu => .inl ⟨(by
    rw [List.getElem?_replicate] at hu
    by_cases h : i < 256
    · rw [if_pos h] at hu; exact (Option.some.inj hu).symm
    · rw [if_neg h] at hu; cases hu), (by
    have hi : i < 256 := by have := (Array.getElem?_eq_some_iff.1 hv).1; rwa [qc_size] at this
    rw [qc_get zn i hi] at hv; exact (Option.some.inj hv).symm)⟩) W base
theorem ok_str (W : World) (base : Nat) : Value.okWide Try.prog W .any base 9 (.string ByteArray.empty) := by
  unfold Value.okWide Cell.okWide Cell.ok
  rw [Try.underlying9]
  simp
end Go.Proofs.Ytjaipjgnchpjcaa.P
