/-
  Two tiles, a mode and coverages in memory.
-/
import Derived.Test.YtkomknhloimhcaaTLaw
import Derived.Test.YtkomknhloimhcaaTRefOver
import Derived.Test.YtkomknhloimhcaaTRefMask
import Derived.Test.YtkomknhloimhcaaTRefTurn
import Derived.Test.YtkomknhloimhcaaTRefFlip
namespace Go.Proofs.Ytkomknhloimhcaa.T
open Go.RowKit Go.Shelf
abbrev lob (f g : Nat → Px) (m : Int) (c : Nat → Int) : Obj := .cells (lay f g m c) 39
theorem ld_cell {a : Addr} {t : TypeId} {v : Value} (ht : ∀ w, (isAgg t).run Try.prog w = .ok false w) (w : World) (h : w.cell? a = some v) : (Instr.loadAt t (.pointer (some a))).run Try.prog w = .ok v w := by
  simp only [Instr.loadAt, Instr.sureAddr, loadVar, Sem.run_bind, Sem.run_pure, Result.andThen_ok, ht, run_load, h, Bool.false_eq_true, if_false]
theorem agg_int (w : World) : (isAgg 3).run Try.prog w = .ok false w := by kernel_rfl
theorem agg_u8 (w : World) : (isAgg 5).run Try.prog w = .ok false w := by kernel_rfl
theorem info_cov : (Try.prog.info? 37).map (·.size) = some 64 := by kernel_rfl
variable {W V : World} {L : List (Nat × Obj)} {b : Nat} {f g : Nat → Px} {m : Int} {c : Nat → Int}
theorem lay_lo (k : Nat) (hk : k < 512) : (lay f g m c)[k]? = (fc 128 (app 64 f g))[k]? := by
  unfold lay
  rw [Array.getElem?_append_left (by simp [fc_size]; omega), Array.getElem?_append_left (by simp [fc_size]; omega)]
theorem lay_px (i j : Nat) (hi : i < 128) (hj : j < 4) : (lay f g m c)[4 * i + j]? = (pl (app 64 f g i))[j]? := by
  rw [lay_lo _ (by omega), fc_get 128 _ i j hi hj]
theorem lay_m : (lay f g m c)[512]? = some (.int .i64 m) := by
  unfold lay
  rw [Array.getElem?_append_left (by simp [fc_size]), Array.getElem?_append_right (by simp [fc_size])]
  simp [fc_size]
theorem lay_c (i : Nat) (hi : i < 64) : (lay f g m c)[513 + i]? = some (.int .u8 (c i)) := by
  unfold lay
  rw [Array.getElem?_append_right (by simp [fc_size]), show 513 + i - (fc 128 (app 64 f g) ++ #[Value.int .i64 m]).size = i by simp [fc_size], cvc_get c i hi]
theorem lcell (h : St W L V) (hm : (b, lob f g m c) ∈ L) (k : Nat) : V.cell? ⟨b, k, none⟩ = (lay f g m c)[k]? := cell_of_row V b k _ _ (0, 0) (h.row hm)
theorem ld_back (h : St W L V) (hm : (b, lob f g m c) ∈ L) : (Instr.loadAt 25 (.pointer (some ⟨b, 0, none⟩))).run Try.prog V = .ok (tv f) V := by
  have := run_loadAt_mid V b 0 25 (tc f).toList _ (fun j v hv => by
    have hj : j < 256 := by have := (List.getElem?_eq_some_iff.1 hv).1; rwa [Array.length_toList, tc_size] at this
    have e : app 64 f g (j / 4) = f (j / 4) := if_pos (by omega)
    have h1 := lay_px (f := f) (g := g) (m := m) (c := c) (j / 4) (j % 4) (by omega) (by omega)
    have h2 := tc_get f (j / 4) (j % 4) (by omega) (by omega)
    rw [show 4 * (j / 4) + j % 4 = j by omega] at h1 h2
    rw [e] at h1
    rw [lcell h hm, Nat.zero_add, h1, ← h2, ← Array.getElem?_toList]
    exact hv) Try.underlying25 rfl (by rw [info_tile, Array.length_toList, tc_size])
  simpa using this
theorem ld_src (h : St W L V) (hm : (b, lob f g m c) ∈ L) : (Instr.loadAt 25 (.pointer (some ⟨b, 256, none⟩))).run Try.prog V = .ok (tv g) V := by
  have := run_loadAt_mid V b 256 25 (tc g).toList _ (fun j v hv => by
    have hj : j < 256 := by have := (List.getElem?_eq_some_iff.1 hv).1; rwa [Array.length_toList, tc_size] at this
    have e : app 64 f g (64 + j / 4) = g (j / 4) := by unfold app; rw [if_neg (by omega), show 64 + j / 4 - 64 = j / 4 by omega]
    have h1 := lay_px (f := f) (g := g) (m := m) (c := c) (64 + j / 4) (j % 4) (by omega) (by omega)
    have h2 := tc_get g (j / 4) (j % 4) (by omega) (by omega)
    rw [show 4 * (64 + j / 4) + j % 4 = 256 + j by omega] at h1
    rw [show 4 * (j / 4) + j % 4 = j by omega] at h2
    rw [e] at h1
    rw [lcell h hm, h1, ← h2, ← Array.getElem?_toList]
    exact hv) Try.underlying25 rfl (by rw [info_tile, Array.length_toList, tc_size])
  simpa using this
theorem ld_mode (h : St W L V) (hm : (b, lob f g m c) ∈ L) : (Instr.loadAt 3 (.pointer (some ⟨b, 512, none⟩))).run Try.prog V = .ok (.int .i64 m) V :=
  ld_cell agg_int V ((lcell h hm 512).trans lay_m)
theorem ld_cov (h : St W L V) (hm : (b, lob f g m c) ∈ L) : (Instr.loadAt 37 (.pointer (some ⟨b, 513, none⟩))).run Try.prog V = .ok (.agg (cvc c)) V := by
  have := run_loadAt_mid V b 513 37 (cvc c).toList _ (fun j v hv => by
    have hj : j < 64 := by have := (List.getElem?_eq_some_iff.1 hv).1; rwa [Array.length_toList, cvc_size] at this
    rw [lcell h hm, lay_c j hj, ← hv, Array.getElem?_toList, cvc_get c j hj]) Try.underlying37 rfl (by rw [info_cov, Array.length_toList, cvc_size])
  simpa using this
/-- one pixel, one coverage -/
theorem ld_bpx (h : St W L V) (hm : (b, lob f g m c) ∈ L) (i : Nat) (hi : i < 64) : (Instr.loadAt 23 (.pointer (some ⟨b, 4 * i, none⟩))).run Try.prog V = .ok (f i).v V :=
  run_loadAt_mid V b (4 * i) 23 (pl (f i)) _ (fun j v hv => by
    have hj : j < 4 := by have := (List.getElem?_eq_some_iff.1 hv).1; simpa [pl_len] using this
    have e : app 64 f g i = f i := if_pos hi
    rw [lcell h hm, lay_px i j (by omega) hj, e, hv]) Try.underlying23 rfl (by kernel_rfl)
theorem ld_spx (h : St W L V) (hm : (b, lob f g m c) ∈ L) (i : Nat) (hi : i < 64) : (Instr.loadAt 23 (.pointer (some ⟨b, 256 + 4 * i, none⟩))).run Try.prog V = .ok (g i).v V :=
  run_loadAt_mid V b (256 + 4 * i) 23 (pl (g i)) _ (fun j v hv => by
    have hj : j < 4 := by have := (List.getElem?_eq_some_iff.1 hv).1; simpa [pl_len] using this
    have e : app 64 f g (64 + i) = g i := by unfold app; rw [if_neg (by omega), show 64 + i - 64 = i by omega]
    rw [lcell h hm, show 256 + 4 * i + j = 4 * (64 + i) + j by omega, lay_px (64 + i) j (by omega) hj, e, hv]) Try.underlying23 rfl (by kernel_rfl)
theorem ld_salpha (h : St W L V) (hm : (b, lob f g m c) ∈ L) (i : Nat) (hi : i < 64) : (Instr.loadAt 5 (.pointer (some ⟨b, 256 + 4 * i + 3, none⟩))).run Try.prog V = .ok (.int .u8 (g i).a) V := by
  refine ld_cell agg_u8 V ?_
  have e : app 64 f g (64 + i) = g i := by unfold app; rw [if_neg (by omega), show 64 + i - 64 = i by omega]
  rw [lcell h hm, show 256 + 4 * i + 3 = 4 * (64 + i) + 3 by omega, lay_px (64 + i) 3 (by omega) (by omega), e]
  rfl
theorem ld_c1 (h : St W L V) (hm : (b, lob f g m c) ∈ L) (i : Nat) (hi : i < 64) : (Instr.loadAt 5 (.pointer (some ⟨b, 513 + i, none⟩))).run Try.prog V = .ok (.int .u8 (c i)) V :=
  ld_cell agg_u8 V ((lcell h hm (513 + i)).trans (lay_c i hi))
end Go.Proofs.Ytkomknhloimhcaa.T
