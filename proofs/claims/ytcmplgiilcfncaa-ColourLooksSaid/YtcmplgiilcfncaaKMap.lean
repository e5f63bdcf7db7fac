/-
  mapChannels: the channels of a colour by a function.
-/
import Derived.Test.YtcmplgiilcfncaaKSt
namespace Go.Proofs.Ytcmplgiilcfncaa.K
open Go.RowKit
variable {w : World}

set_option maxRecDepth 100000 in
set_option maxHeartbeats 2000000 in
theorem map_any (f : Nat) (cb : Array Value) (c0 c1 c2 d0 d1 d2 : Int) (w : World) (ef : ∀ args w, (callFunc f args).run Try.prog w = .ok (.enter f args) w)
    (h0 : ∀ V, Below w.heap.size w V → Calls Try.prog f (#[.int .i64 0, .int .i64 c0] ++ cb) V fun e w' => e = .returned (.int .i64 d0) ∧ Below V.heap.size V w')
    (h1 : ∀ V, Below w.heap.size w V → Calls Try.prog f (#[.int .i64 1, .int .i64 c1] ++ cb) V fun e w' => e = .returned (.int .i64 d1) ∧ Below V.heap.size V w')
    (h2 : ∀ V, Below w.heap.size w V → Calls Try.prog f (#[.int .i64 2, .int .i64 c2] ++ cb) V fun e w' => e = .returned (.int .i64 d2) ∧ Below V.heap.size V w') :
    Calls Try.prog 24 #[ag c0 c1 c2, .func (.func f) #[] cb] w fun e w' => e = .returned (ag d0 d1 d2) ∧ Below w.heap.size w w' := by
  have H0 := Lib.hid h0; have H1 := Lib.hid h1; have H2 := Lib.hid h2
  clear h0 h1 h2
  go_enter Try.func24, Try.ntmps24
  go_upto_region 1 with fail
  have hs := ((St.start w).alloc (ac c0 c1 c2)).alloc (ac 0 0 0)
  rw [World.size_alloc] at hs
  generalize (w.alloc (ac c0 c1 c2)).alloc (ac 0 0 0) = w1 at hs ⊢
  generalize hb : w.heap.size = b at hs ⊢
  obtain ⟨l0, l1, l2⟩ := hs.col (b := b) (x := c0) (y := c1) (z := c2) (t := 25) (by simp)
  have HS := Lib.hid hs.swap
  clear hs
  go_upto_region 2 with fail
  clear l0 l1 l2
  go_loopw [8] (fun i wr => ∃ k : Nat, k ≤ 3 ∧ i = .int .i64 k ∧ Hid (St w [(b, ac (if 0 < k then d0 else c0) (if 1 < k then d1 else c1) (if 2 < k then d2 else c2)), (b + 1, ac 0 0 0)] wr)) (fun i _ => 3 - (intOf i).toNat)
  case atStart => exact ⟨0, by omega, rfl, HS.out⟩
  case round =>
    obtain ⟨k, hk, rfl, HT⟩ := hrel
    obtain rfl | rfl | rfl | rfl : k = 0 ∨ k = 1 ∨ k = 2 ∨ k = 3 := by omega
    all_goals simp only [Nat.reduceLT, if_true, if_false, Nat.lt_irrefl] at HT
    · have ix := ix0 c0 c1 c2
      go_upto_region 4 with fail
      go_wp2_with fail
      clear ix
      refine (H0.out _ HT.out.below).mono ?_
      rintro e w2 ⟨rfl, hb2⟩
      have h2 := HT.out.later hb2
      obtain ⟨l0, l1, l2⟩ := h2.col (b := b) (x := c0) (y := c1) (z := c2) (t := 25) (by simp)
      obtain ⟨f0, f1, f2⟩ := h2.fro (b := b) (cs := #[.int .i64 c0, .int .i64 c1, .int .i64 c2]) (t := 25) (by simp)
      have h3 : St w [(b, ac d0 c1 c2), (b + 1, ac 0 0 0)] (w2.setCell ⟨b, 0, none⟩ (.int .i64 d0)) := h2.put0 (by omega) (by simp)
      clear h2 hb2 ef HT H0 H1 H2
      go_wp2_with fail
      go_roundw
      case rel => exact ⟨1, by omega, rfl, h3⟩
      case measure => simp [intOf]
    · have ix := ix1 c0 c1 c2
      go_upto_region 4 with fail
      go_wp2_with fail
      clear ix
      refine (H1.out _ HT.out.below).mono ?_
      rintro e w2 ⟨rfl, hb2⟩
      have h2 := HT.out.later hb2
      obtain ⟨l0, l1, l2⟩ := h2.col (b := b) (x := d0) (y := c1) (z := c2) (t := 25) (by simp)
      obtain ⟨f0, f1, f2⟩ := h2.fro (b := b) (cs := #[.int .i64 d0, .int .i64 c1, .int .i64 c2]) (t := 25) (by simp)
      have h3 : St w [(b, ac d0 d1 c2), (b + 1, ac 0 0 0)] (w2.setCell ⟨b, 1, none⟩ (.int .i64 d1)) := h2.put1 (by omega) (by simp)
      clear h2 hb2 ef HT H0 H1 H2
      go_wp2_with fail
      go_roundw
      case rel => exact ⟨2, by omega, rfl, h3⟩
      case measure => simp [intOf]
    · have ix := ix2 c0 c1 c2
      go_upto_region 4 with fail
      go_wp2_with fail
      clear ix
      refine (H2.out _ HT.out.below).mono ?_
      rintro e w2 ⟨rfl, hb2⟩
      have h2 := HT.out.later hb2
      obtain ⟨l0, l1, l2⟩ := h2.col (b := b) (x := d0) (y := d1) (z := c2) (t := 25) (by simp)
      obtain ⟨f0, f1, f2⟩ := h2.fro (b := b) (cs := #[.int .i64 d0, .int .i64 d1, .int .i64 c2]) (t := 25) (by simp)
      have h3 : St w [(b, ac d0 d1 d2), (b + 1, ac 0 0 0)] (w2.setCell ⟨b, 2, none⟩ (.int .i64 d2)) := h2.put2 (by omega) (by simp)
      clear h2 hb2 ef HT H0 H1 H2
      go_wp2_with fail
      go_roundw
      case rel => exact ⟨3, by omega, rfl, h3⟩
      case measure => simp [intOf]
    · have h2 := HT.out
      obtain ⟨l0, l1, l2⟩ := h2.col (b := b) (x := d0) (y := d1) (z := d2) (t := 25) (by simp)
      obtain ⟨m0, m1, m2⟩ := h2.col (b := b + 1) (x := 0) (y := 0) (z := 0) (t := 25) (by simp)
      obtain ⟨f0, f1, f2⟩ := h2.fro (b := b + 1) (cs := #[.int .i64 0, .int .i64 0, .int .i64 0]) (t := 25) (by simp)
      clear ef H0 H1 H2
      go_wp2_with fail
      exact bodyPost_ret (v := ag d0 d1 d2) (by simp [results, Try.results24, go_sem, *]) rfl ⟨rfl, below_set3 h2.below (by omega) _ _ _⟩
end Go.Proofs.Ytcmplgiilcfncaa.K
