/-
  Residuals and their plane are inverse to each other (plain maths).
-/
import Derived.Test.YtjaipjgnchpjcaaPSane
import Derived.Test.YtjaipjgnchpjcaaPUni
namespace Go.Proofs.Ytjaipjgnchpjcaa.P
open Go.RowKit T
set_option maxRecDepth 100000

theorem gs_ext (k : Nat) (f g : Nat → Int) (i : Nat) (h : ∀ j, j < i → f j = g j) : gs k f i = gs k g i := by
  have hL : nL f i = nL g i := by unfold nL; split; exact h _ (by omega); split; exact h _ (by omega); rfl
  have hU : nU f i = nU g i := by unfold nU; split; exact h _ (by omega); split; exact h _ (by omega); rfl
  have hC : nC f i = nC g i := by
    unfold nC
    split
    · split
      · exact h _ (by omega)
      · exact h _ (by omega)
    · split
      · exact h _ (by omega)
      · rfl
  unfold gs
  rw [hL, hU, hC]
theorem vs_keep (k : Nat) (r : Nat → Int) (j n i : Nat) (h : i < j) : vs k r (j + n) i = vs k r j i := by
  induction n with
  | zero => rfl
  | succ n ih =>
    rw [← ih]
    show ups (vs k r (j + n)) (j + n) _ i = _
    unfold ups
    rw [if_neg (by omega)]
theorem vs_at (k : Nat) (r : Nat → Int) (i : Nat) (hi : i < 64) : vs k r 64 i = b8 (r i + gs k (vs k r 64) i) := by
  have h1 : vs k r 64 i = vs k r (i + 1) i := by
    have := vs_keep k r (i + 1) (64 - (i + 1)) i (by omega)
    rwa [show i + 1 + (64 - (i + 1)) = 64 by omega] at this
  have h2 : gs k (vs k r 64) i = gs k (vs k r i) i := gs_ext k _ _ i fun j hj => by
    have := vs_keep k r i (64 - i) j hj
    rwa [show i + (64 - i) = 64 by omega] at this
  rw [h1, h2]
  show ups (vs k r i) i _ i = _
  unfold ups
  rw [if_pos rfl]
theorem vs_ch64 (k : Nat) (r : Nat → Int) : ∀ i, i < 64 → Ch (vs k r 64 i) := vs_ch k r 64
/-- the plane of the residuals of a plane -/
theorem vs_res (k : Nat) (f r : Nat → Int) (hf : ∀ i, i < 64 → Ch (f i)) (hr : ∀ i, i < 64 → r i = res k f i) : ∀ i, i < 64 → vs k r 64 i = f i := by
  intro i
  induction i using Nat.strongRecOn with
  | ind i ih =>
    intro hi
    rw [vs_at k r i hi, gs_ext k (vs k r 64) f i (fun j hj => ih j hj (by omega)), hr i hi]
    have h := hf i hi
    unfold Ch at h
    show b8 (b8 (f i - gs k f i) + gs k f i) = f i
    unfold b8; omega
/-- the residuals of the plane of residuals -/
theorem res_vs (k : Nat) (f r : Nat → Int) (hr : ∀ i, i < 64 → Ch (r i)) (hf : ∀ i, i < 64 → f i = vs k r 64 i) : ∀ i, i < 64 → res k f i = r i := by
  intro i hi
  show b8 (f i - gs k f i) = r i
  rw [hf i hi, gs_ext k f (vs k r 64) i (fun j hj => hf j (by omega)), vs_at k r i hi]
  have h := hr i hi
  unfold Ch at h
  unfold b8; omega
/-- the residuals number n of a list of bytes -/
def rw4 (l : List UInt8) (n : Nat) : Nat → Int := fun i => i8 (l.getD (64 * n + i) 0)
theorem rw4_ch (l : List UInt8) (n i : Nat) : Ch (rw4 l n i) := i8_ch _
/-- the tile of a list of bytes -/
def ivt (k : Nat) (l : List UInt8) : Nat → Px := un (vs k (rw4 l 0) 64) (vs k (rw4 l 1) 64) (vs k (rw4 l 2) 64) (vs k (rw4 l 3) 64)
theorem ivt_pc (k : Nat) (l : List UInt8) (i : Nat) (hi : i < 64) : Pc (ivt k l i) := ⟨b8_ch _, b8_ch _, b8_ch _, vs_ch64 k _ i hi⟩
theorem rw4_bl (G : Nat → Int) (hG : ∀ i, i < 256 → Ch (G i)) (n i : Nat) (hn : n < 4) (hi : i < 64) : rw4 (bl G 256) n i = G (64 * n + i) := by
  unfold rw4
  rw [List.getD_eq_getElem?_getD, bl_get G 256 _ (by omega)]
  exact i8_u8 (hG _ (by omega))
theorem ivt_fwd (k : Nat) (f : Nat → Px) (hf : ∀ i, i < 64 → Pc (f i)) : tc (ivt k (fwd k f)) = tc f := tc_ext fun i hi => by
  have hj : ∀ i, i < 256 → Ch (jn (res k (pY f)) (res k (pU f)) (res k (pV f)) (res k (pA f)) i) := jn_ch (fun _ _ => b8_ch _) (fun _ _ => b8_ch _) (fun _ _ => b8_ch _) (fun _ _ => b8_ch _)
  have e0 : ∀ i, i < 64 → rw4 (fwd k f) 0 i = res k (pY f) i := fun i hi => by
    unfold fwd; rw [rw4_bl _ hj 0 i (by omega) hi]; unfold jn; rw [if_pos (by omega)]; congr 1; omega
  have e1 : ∀ i, i < 64 → rw4 (fwd k f) 1 i = res k (pU f) i := fun i hi => by
    unfold fwd; rw [rw4_bl _ hj 1 i (by omega) hi]; unfold jn; rw [if_neg (by omega), if_pos (by omega)]; congr 1; omega
  have e2 : ∀ i, i < 64 → rw4 (fwd k f) 2 i = res k (pV f) i := fun i hi => by
    unfold fwd; rw [rw4_bl _ hj 2 i (by omega) hi]; unfold jn; rw [if_neg (by omega), if_neg (by omega), if_pos (by omega)]; congr 1; omega
  have e3 : ∀ i, i < 64 → rw4 (fwd k f) 3 i = res k (pA f) i := fun i hi => by
    unfold fwd; rw [rw4_bl _ hj 3 i (by omega) hi]; unfold jn; rw [if_neg (by omega), if_neg (by omega), if_neg (by omega)]; congr 1; omega
  show (⟨kR (vs k _ 64 i) (vs k _ 64 i) (vs k _ 64 i), kG (vs k _ 64 i) (vs k _ 64 i), kB (vs k _ 64 i) (vs k _ 64 i) (vs k _ 64 i), vs k _ 64 i⟩ : Px) = f i
  rw [vs_res k (pY f) _ (fun i _ => pY_ch f i) e0 i hi, vs_res k (pU f) _ (fun i _ => pU_ch f i) e1 i hi, vs_res k (pV f) _ (fun i _ => pV_ch f i) e2 i hi, vs_res k (pA f) _ (fun i hi => (hf i hi).2.2.2) e3 i hi]
  obtain ⟨hr, hg, hb, _⟩ := hf i hi
  obtain ⟨q1, q2, q3⟩ := back_swap hr hg hb
  unfold pY pU pV pA
  rw [q1, q2, q3]
theorem fwd_ivt (k : Nat) (l : List UInt8) (hl : l.length = 256) : fwd k (ivt k l) = l := by
  have y : ∀ i, i < 64 → pY (ivt k l) i = vs k (rw4 l 0) 64 i ∧ pU (ivt k l) i = vs k (rw4 l 1) 64 i ∧ pV (ivt k l) i = vs k (rw4 l 2) 64 i := fun i hi => swap_back (vs_ch64 k _ i hi) (vs_ch64 k _ i hi) (vs_ch64 k _ i hi)
  have r0 := res_vs k (pY (ivt k l)) (rw4 l 0) (fun i _ => rw4_ch l 0 i) (fun i hi => (y i hi).1)
  have r1 := res_vs k (pU (ivt k l)) (rw4 l 1) (fun i _ => rw4_ch l 1 i) (fun i hi => (y i hi).2.1)
  have r2 := res_vs k (pV (ivt k l)) (rw4 l 2) (fun i _ => rw4_ch l 2 i) (fun i hi => (y i hi).2.2)
  have r3 := res_vs k (pA (ivt k l)) (rw4 l 3) (fun i _ => rw4_ch l 3 i) (fun i _ => rfl)
  unfold fwd
  apply List.ext_getElem?
  intro i
  by_cases hi : i < 256
  · rw [bl_get _ 256 i hi, List.getElem?_eq_getElem (by omega)]
    have q : ∀ n m, m < 64 → i = 64 * n + m → u8 (rw4 l n m) = l[i]'(by omega) := fun n m _ e => by
      unfold rw4
      rw [u8_i8, List.getD_eq_getElem?_getD, ← e, List.getElem?_eq_getElem (by omega)]; rfl
    refine congrArg some ?_
    unfold jn
    by_cases h0 : i < 64
    · rw [if_pos h0, r0 i h0]; exact q 0 i h0 (by omega)
    · rw [if_neg h0]
      by_cases h1 : i < 128
      · rw [if_pos h1, r1 _ (by omega)]; exact q 1 (i - 64) (by omega) (by omega)
      · rw [if_neg h1]
        by_cases h2 : i < 192
        · rw [if_pos h2, r2 _ (by omega)]; exact q 2 (i - 128) (by omega) (by omega)
        · rw [if_neg h2, r3 _ (by omega)]; exact q 3 (i - 192) (by omega) (by omega)
  · rw [List.getElem?_eq_none (by rw [bl_len]; omega), List.getElem?_eq_none (by omega)]
end Go.Proofs.Ytjaipjgnchpjcaa.P
