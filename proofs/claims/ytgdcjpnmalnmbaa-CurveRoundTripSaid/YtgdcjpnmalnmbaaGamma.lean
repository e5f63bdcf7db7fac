/-
  exceeds, product, root and Gamma.
-/
import Derived.Test.YtgdcjpnmalnmbaaProd
import Derived.Test.YtgdcjpnmalnmbaaInv
namespace Go.Proofs.Ytgdcjpnmalnmbaa
open Go.RowKit
variable {w : World}

set_option maxRecDepth 100000 in
set_option maxHeartbeats 2000000 in
theorem exceeds_any (v v' : Nat) (w : World) :
    Calls Try.prog 93 #[wV v, wV v'] w fun e w' => e = .returned (.bool (decide (v' < v))) ∧ Below w.heap.size w w' := by
  obtain ⟨W1, hW1⟩ : ∃ W1, W1 = (w.alloc (wo (u0 v) (u1 v) (u2 v))).alloc (wo (u0 v') (u1 v') (u2 v')) := ⟨_, rfl⟩
  have hs := ((St.start w).alloc (wo (u0 v) (u1 v) (u2 v))).alloc (wo (u0 v') (u1 v') (u2 v'))
  rw [World.size_alloc, ← hW1] at hs
  have HC : Hid (∀ q, Calls Try.prog 109 #[.slice (some ⟨w.heap.size, 0, none⟩) 3 3, .slice (some ⟨w.heap.size + 1, 0, none⟩) 3 3] (W1.drewN q) fun e w' => e = .returned (.int .i64 (lex3 (u0 v) (u1 v) (u2 v) (u0 v') (u1 v') (u2 v'))) ∧ w' = W1.drewN q) := fun q => by
    have h := hs.drewN q
    exact (compare_any _ _ _ _ _ _ _ _ (W1.drewN q) (h.row (by simp)) (h.row (by simp))).mono fun _ _ ⟨h, h'⟩ => ⟨h, h'.symm⟩
  have HL := Lib.hid (lex_words v v')
  have HB : Hid (Below w.heap.size w W1) := hs.below
  have HW1 := Lib.hid hW1
  clear hs hW1
  generalize lex3 (u0 v) (u1 v) (u2 v) (u0 v') (u1 v') (u2 v') = r at HC HL
  show Calls Try.prog 93 #[wv (u0 v) (u1 v) (u2 v), wv (u0 v') (u1 v') (u2 v')] w _
  generalize u0 v = a at *
  generalize u1 v = b at *
  generalize u2 v = c at *
  generalize u0 v' = a' at *
  generalize u1 v' = b' at *
  generalize u2 v' = c' at *
  go_enter Try.func93, Try.ntmps93
  go_upto_region 1 with fail
  have e1 : ((w.alloc (Obj.cells #[.int .u64 (a : Nat), .int .u64 (b : Nat), .int .u64 (c : Nat)] 115)).alloc (Obj.cells #[.int .u64 (a' : Nat), .int .u64 (b' : Nat), .int .u64 (c' : Nat)] 115)) = W1 := HW1.out.symm
  rw [e1]
  clear e1
  go_quiet ((go_at_call 109; with_reducible exact Calls.quiet_of_same (HC.out _)))
  go_wp2_with fail
  go_ret
  exact ⟨ret_bool (by first | exact HL.out | simpa using HL.out), HB.out.trans (belowN _ |>.mono HB.out.size)⟩

/-- the cells of a number of three words, free to be written -/
theorem St.wide {W V : World} {b x y z : Nat} {L : List (Nat × Obj)} (h : St W L V) (hm : (b, wo x y z) ∈ L) : (V.cell? ⟨b, 0, none⟩ = some (.int .u64 (x : Nat)) ∧ V.cell? ⟨b, 1, none⟩ = some (.int .u64 (y : Nat)) ∧ V.cell? ⟨b, 2, none⟩ = some (.int .u64 (z : Nat))) ∧ (V.frozen? ⟨b, 0, none⟩ = false ∧ V.frozen? ⟨b, 1, none⟩ = false ∧ V.frozen? ⟨b, 2, none⟩ = false) ∧ b < V.heap.size :=
  ⟨⟨h.cell hm 0, h.cell hm 1, h.cell hm 2⟩, ⟨h.frozen hm 0, h.frozen hm 1, h.frozen hm 2⟩, h.lt hm⟩
theorem St.put3 {W V : World} {b x y z : Nat} {L : List (Nat × Obj)} (h : St W ((b, wo x y z) :: L) V) (hb : W.heap.size ≤ b) (hL : ∀ x ∈ L, x.1 ≠ b) (x' y' z' : Nat) :
    St W ((b, wo x' y' z') :: L) (((V.setCell ⟨b, 0, none⟩ (.int .u64 (x' : Nat))).setCell ⟨b, 1, none⟩ (.int .u64 (y' : Nat))).setCell ⟨b, 2, none⟩ (.int .u64 (z' : Nat))) := by
  have h3 := ((h.put (j := 0) (v := .int .u64 (x' : Nat)) hb hL).put (j := 1) (v := .int .u64 (y' : Nat)) hb hL).put (j := 2) (v := .int .u64 (z' : Nat)) hb hL
  simpa only [List.setIfInBounds_toArray, List.set_cons_zero, List.set_cons_succ] using h3
/-- all the partial products fit -/
def Fits (a b : Nat) : Prop := ∀ k j, k ≤ 8 → j ≤ 8 → Fit (a ^ k * b ^ j)
set_option maxRecDepth 100000 in
set_option maxHeartbeats 4000000 in
theorem product_any (a p b q : Nat) (w : World) (ha : a ≤ 1000000) (hb : b ≤ 1000000) (hp : p ≤ 8) (hq : q ≤ 8) (hf : Fits a b) :
    Calls Try.prog 91 #[.int .i64 a, .int .i64 p, .int .i64 b, .int .i64 q] w fun e w' => e = .returned (wV (a ^ p * b ^ q)) ∧ Below w.heap.size w w' := by
  have HT1 : Hid (∀ k V, k < p → Calls Try.prog 108 #[wV (a ^ k), .int .i64 a] V fun e w' => e = .returned (wV (a ^ (k + 1))) ∧ Below V.heap.size V w') := fun k V hk => by
    have h1 := hf k 0 (by omega) (by omega)
    have h2 := hf (k + 1) 0 (by omega) (by omega)
    rw [Nat.pow_zero, Nat.mul_one] at h1 h2
    rw [Nat.pow_succ] at h2 ⊢
    exact times_v _ a V h1 ha h2
  have HT2 : Hid (∀ k V, k < q → Calls Try.prog 108 #[wV (a ^ p * b ^ k), .int .i64 b] V fun e w' => e = .returned (wV (a ^ p * b ^ (k + 1))) ∧ Below V.heap.size V w') := fun k V hk => by
    have h1 := hf p k (by omega) (by omega)
    have h2 := hf p (k + 1) (by omega) (by omega)
    rw [Nat.pow_succ, ← Nat.mul_assoc] at h2 ⊢
    exact times_v _ b V h1 hb h2
  have H1 : Hid (wo (u0 1) (u1 1) (u2 1) = wo 0 0 1) := by unfold u0 u1 u2; rfl
  clear hf
  have hs := ((St.start w).alloc (wo 0 0 0)).alloc (wo 0 0 1)
  rw [World.size_alloc] at hs
  have HS := Lib.hid hs; clear hs
  go_enter Try.func91, Try.ntmps91
  go_wp2
  go_loopw [12] (fun i wr => ∃ k : Nat, k ≤ p ∧ i = .int .i64 k ∧ Hid (St w [(w.heap.size + 1, wo (u0 (a ^ k)) (u1 (a ^ k)) (u2 (a ^ k))), (w.heap.size, wo 0 0 0)] wr)) (fun i _ => p - (intOf i).toNat)
  case atStart => exact ⟨0, by omega, rfl, by rw [Nat.pow_zero, H1.out]; exact HS⟩
  case round =>
    clear HS
    obtain ⟨k, hk, rfl, HS⟩ := hrel
    by_cases hlt : k < p
    · clear HT2
      have HN : Hid (St w [(w.heap.size + 1, wo (u0 (a ^ k)) (u1 (a ^ k)) (u2 (a ^ k))), (w.heap.size, wo 0 0 0)] wr) := HS
      have HC := Lib.hid (HS.out.call (HT1.out k wr hlt))
      generalize hx : a ^ k = x at HN HC
      generalize hy : a ^ (k + 1) = y at HC
      have HX := Lib.hid (And.intro hx hy)
      clear hx hy
      obtain ⟨⟨c0, c1, c2⟩, -, -⟩ := HN.out.wide (b := w.heap.size + 1) (x := u0 x) (y := u1 x) (z := u2 x) (by simp)
      go_wp2_with (go_at_call 108; (with_reducible refine HC.out.mono ?_); rintro e w2 ⟨rfl, h2⟩; obtain ⟨⟨d0', d1', d2'⟩, ⟨f0, f1, f2⟩, hl⟩ := h2.wide (b := w.heap.size + 1) (x := u0 x) (y := u1 x) (z := u2 x) (by simp); have H2 := Lib.hid h2; clear h2)
      have H3 := Lib.hid (H2.out.put3 (by omega) (by simp) (u0 y) (u1 y) (u2 y))
      go_roundw
      case rel => exact ⟨k + 1, by omega, by go_num, by rw [HX.out.2]; exact H3⟩
      case measure => simp [intOf]; omega
    · obtain rfl : k = p := by omega
      clear HT1 H1
      go_wp2
      go_loopw [19] (fun i wr => ∃ j : Nat, j ≤ q ∧ i = .int .i64 j ∧ Hid (St w [(w.heap.size + 1, wo (u0 (a ^ k * b ^ j)) (u1 (a ^ k * b ^ j)) (u2 (a ^ k * b ^ j))), (w.heap.size, wo 0 0 0)] wr)) (fun i _ => q - (intOf i).toNat)
      case atStart => exact ⟨0, by omega, rfl, by rw [Nat.pow_zero, Nat.mul_one]; exact HS⟩
      case round =>
        clear HS
        obtain ⟨j, hj, rfl, HS⟩ := hrel
        by_cases hlt : j < q
        · have HN : Hid (St w [(w.heap.size + 1, wo (u0 (a ^ k * b ^ j)) (u1 (a ^ k * b ^ j)) (u2 (a ^ k * b ^ j))), (w.heap.size, wo 0 0 0)] wr) := HS
          have HC := Lib.hid (HS.out.call (HT2.out j wr hlt))
          generalize hx : a ^ k * b ^ j = x at HN HC
          generalize hy : a ^ k * b ^ (j + 1) = y at HC
          have HX := Lib.hid (And.intro hx hy)
          clear hx hy
          obtain ⟨⟨c0, c1, c2⟩, -, -⟩ := HN.out.wide (b := w.heap.size + 1) (x := u0 x) (y := u1 x) (z := u2 x) (by simp)
          go_wp2_with (go_at_call 108; (with_reducible refine HC.out.mono ?_); rintro e w2 ⟨rfl, h2⟩; obtain ⟨⟨d0', d1', d2'⟩, ⟨f0, f1, f2⟩, hl⟩ := h2.wide (b := w.heap.size + 1) (x := u0 x) (y := u1 x) (z := u2 x) (by simp); have H2 := Lib.hid h2; clear h2)
          have H3 := Lib.hid (H2.out.put3 (by omega) (by simp) (u0 y) (u1 y) (u2 y))
          go_roundw
          case rel => exact ⟨j + 1, by omega, by go_num, by rw [HX.out.2]; exact H3⟩
          case measure => simp [intOf]; omega
        · obtain rfl : j = q := by omega
          clear HT2
          generalize hx : a ^ k * b ^ j = x at HS ⊢
          have HX := Lib.hid hx; clear hx
          obtain ⟨⟨c0, c1, c2⟩, -, -⟩ := HS.out.wide (b := w.heap.size + 1) (x := u0 x) (y := u1 x) (z := u2 x) (by simp)
          obtain ⟨⟨d0', d1', d2'⟩, ⟨f0, f1, f2⟩, hl⟩ := HS.out.wide (b := w.heap.size) (x := 0) (y := 0) (z := 0) (by simp)
          go_wp2
          have H3 := (HS.out.sub (L' := [(w.heap.size, wo 0 0 0), (w.heap.size + 1, wo (u0 x) (u1 x) (u2 x))]) (by simp)).put3 (Nat.le_refl _) (by simp) (u0 x) (u1 x) (u2 x)
          obtain ⟨⟨g0, g1, g2⟩, -, -⟩ := H3.wide (b := w.heap.size) (x := u0 x) (y := u1 x) (z := u2 x) (by simp)
          have hb3 := H3.below
          clear H3 c0 c1 c2 f0 f1 f2 hl d0' d1' d2'
          rw [HX.out]
          exact bodyPost_ret (v := wV x) (by simp [results, Try.results91, go_sem, *]) rfl ⟨rfl, hb3⟩
end Go.Proofs.Ytgdcjpnmalnmbaa
