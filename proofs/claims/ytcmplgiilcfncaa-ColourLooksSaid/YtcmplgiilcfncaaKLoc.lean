/-
  locate: the cell and the offset along each axis.
-/
import Derived.Test.YtcmplgiilcfncaaKSort
namespace Go.Proofs.Ytcmplgiilcfncaa.K
open Go.RowKit
variable {W w w' : World} {L : List (Nat × Obj)}

/-- the cell of v among n points, and how far v is into it -/
def cel (n v : Int) : Int := min (v * (n - 1) / 65535) (n - 2)
def ofs (n v : Int) : Int := v * (n - 1) - 65535 * cel n v
theorem cel_facts {n v : Int} (h2 : 2 ≤ n) (h17 : n ≤ 17) (hv : Gm v) : ∃ p a f, v * (n - 1) = p ∧ IntKind.i64.wrap (v * (n - 1)) = p ∧ wrap64 (v * (n - 1)) = p ∧ 0 ≤ p ∧ p ≤ 1048560 ∧ cel n v = a ∧ min (p / 65535) (n - 2) = a ∧ 0 ≤ a ∧ a ≤ n - 2 ∧ ofs n v = f ∧ p - 65535 * a = f ∧ 0 ≤ f ∧ f ≤ 65535 := by
  have h := mul_bd hv.1 hv.2 (by omega : 0 ≤ n - 1) (by omega : n - 1 ≤ 16)
  have h3 : v * (n - 1) ≤ 65535 * (n - 1) := Int.mul_le_mul_of_nonneg_right hv.2 (by omega)
  have hc : cel n v = min (v * (n - 1) / 65535) (n - 2) := rfl
  have ho : ofs n v = v * (n - 1) - 65535 * cel n v := rfl
  refine ⟨_, _, _, rfl, wr_in (by omega), wrap_in (by omega), h.1, by omega, rfl, rfl, ?_, ?_, rfl, rfl, ?_, ?_⟩ <;> (first | rw [ho, hc] | rw [hc]) <;> omega
set_option maxRecDepth 100000 in
set_option maxHeartbeats 8000000 in
theorem locate_any (c0 c1 c2 n : Int) (w : World) (h2 : 2 ≤ n) (h17 : n ≤ 17) :
    Calls Try.prog 31 #[ag c0 c1 c2, .int .i64 n] w fun e w' => e = .returned (.tuple #[ag (cel n (clp 0 65535 c0)) (cel n (clp 0 65535 c1)) (cel n (clp 0 65535 c2)), ag (ofs n (clp 0 65535 c0)) (ofs n (clp 0 65535 c1)) (ofs n (clp 0 65535 c2))]) ∧ Below w.heap.size w w' := by
  have HG : Hid (∀ V, Calls Try.prog 26 #[ag c0 c1 c2] V fun e w' => e = .returned (ag (clp 0 65535 c0) (clp 0 65535 c1) (clp 0 65535 c2)) ∧ Below V.heap.size V w') := fun V => clampG_any c0 c1 c2 V
  have k0 : Gm (clp 0 65535 c0) := by unfold Gm clp; omega
  have k1 : Gm (clp 0 65535 c1) := by unfold Gm clp; omega
  have k2 : Gm (clp 0 65535 c2) := by unfold Gm clp; omega
  generalize clp 0 65535 c0 = v0 at HG k0 ⊢
  generalize clp 0 65535 c1 = v1 at HG k1 ⊢
  generalize clp 0 65535 c2 = v2 at HG k2 ⊢
  obtain ⟨p0, a0, f0, hp0, wp0, ws0, p00, p01, ha0, hm0, a00, a01, hf0, hg0, f00, f01⟩ := cel_facts h2 h17 k0
  obtain ⟨p1, a1, f1, hp1, wp1, ws1, p10, p11, ha1, hm1, a10, a11, hf1, hg1, f10, f11⟩ := cel_facts h2 h17 k1
  obtain ⟨p2, a2, f2, hp2, wp2, ws2, p20, p21, ha2, hm2, a20, a21, hf2, hg2, f20, f21⟩ := cel_facts h2 h17 k2
  rw [ha0, ha1, ha2, hf0, hf1, hf2]
  clear hp0 hp1 hp2 ha0 ha1 ha2 hf0 hf1 hf2 k0 k1 k2
  go_enter Try.func31, Try.ntmps31
  go_upto_region 1 with fail
  have hs := (((St.start w).alloc (ac c0 c1 c2)).alloc (tri 0 0 0)).alloc (tri 0 0 0)
  simp only [World.size_alloc] at hs
  generalize ((w.alloc (ac c0 c1 c2)).alloc (tri 0 0 0)).alloc (tri 0 0 0) = w1 at hs ⊢
  generalize hb : w.heap.size = b at hs ⊢
  obtain ⟨l0, l1, l2⟩ := hs.col (b := b) (x := c0) (y := c1) (z := c2) (t := 25) (by simp)
  go_upto_region 2 with (go_at_call 26; (refine (HG.out _).mono ?_); rintro e w2 ⟨rfl, h2⟩)
  have h3 := (hs.later h2).sub (L' := [(b + 1, tri 0 0 0), (b + 1 + 1, tri 0 0 0)]) (by intro z hz; simp at hz ⊢; rcases hz with h | h <;> simp [h])
  have HS := Lib.hid h3
  clear hs h2 h3 l0 l1 l2 HG
  go_loopw [10] (fun i wr => ∃ k : Nat, k ≤ 3 ∧ i = .int .i64 k ∧ Hid (St w [(b + 1, tri (if 0 < k then a0 else 0) (if 1 < k then a1 else 0) (if 2 < k then a2 else 0)), (b + 1 + 1, tri (if 0 < k then f0 else 0) (if 1 < k then f1 else 0) (if 2 < k then f2 else 0))] wr)) (fun i _ => 3 - (intOf i).toNat)
  case atStart => exact ⟨0, by omega, rfl, HS.out⟩
  case round =>
    obtain ⟨k, hk, rfl, HT⟩ := hrel
    obtain rfl | rfl | rfl | rfl : k = 0 ∨ k = 1 ∨ k = 2 ∨ k = 3 := by omega
    all_goals simp only [Nat.reduceLT, if_true, if_false, Nat.lt_irrefl] at HT
    · have ix := ix0 v0 v1 v2
      have h4 := HT.out
      clear HT HS hm1 hg1 wp1 ws1 hm2 hg2 wp2 ws2
      go_upto_region 4 with fail
      obtain ⟨m0, m1, m2⟩ := h4.col (b := b + 1) (x := 0) (y := 0) (z := 0) (t := 24) (by simp)
      obtain ⟨e0, e1, e2⟩ := h4.fro (b := b + 1) (cs := #[.int .i64 0, .int .i64 0, .int .i64 0]) (t := 24) (by simp)
      go_upto_region 5 with fail
      have h5 : St w [(b + 1, tri a0 0 0), (b + 1 + 1, tri 0 0 0)] (wr.setCell ⟨b + 1, 0, none⟩ (.int .i64 a0)) := h4.put0 (by omega) (by simp)
      generalize wr.setCell ⟨b + 1, 0, none⟩ (.int .i64 a0) = w3 at h5 ⊢
      clear h4 m0 m1 m2 e0 e1 e2
      obtain ⟨m0, m1, m2⟩ := h5.col (b := b + 1) (x := a0) (y := 0) (z := 0) (t := 24) (by simp)
      obtain ⟨n0, n1, n2⟩ := h5.col (b := b + 1 + 1) (x := 0) (y := 0) (z := 0) (t := 24) (by simp)
      obtain ⟨e0, e1, e2⟩ := h5.fro (b := b + 1 + 1) (cs := #[.int .i64 0, .int .i64 0, .int .i64 0]) (t := 24) (by simp)
      have h6 : St w [(b + 1, tri a0 0 0), (b + 1 + 1, tri f0 0 0)] (w3.setCell ⟨b + 1 + 1, 0, none⟩ (.int .i64 f0)) := ((h5.swap).put0 (by omega) (by simp)).swap
      have H6 := Lib.hid h6
      clear h5 h6
      go_wp2_with fail
      go_roundw
      case rel => exact ⟨1, by omega, rfl, H6.out⟩
      case measure => simp [intOf]
    · have ix := ix1 v0 v1 v2
      have h4 := HT.out
      clear HT HS hm0 hg0 wp0 ws0 hm2 hg2 wp2 ws2
      go_upto_region 4 with fail
      obtain ⟨m0, m1, m2⟩ := h4.col (b := b + 1) (x := a0) (y := 0) (z := 0) (t := 24) (by simp)
      obtain ⟨e0, e1, e2⟩ := h4.fro (b := b + 1) (cs := #[.int .i64 a0, .int .i64 0, .int .i64 0]) (t := 24) (by simp)
      go_upto_region 5 with fail
      have h5 : St w [(b + 1, tri a0 a1 0), (b + 1 + 1, tri f0 0 0)] (wr.setCell ⟨b + 1, 1, none⟩ (.int .i64 a1)) := h4.put1 (by omega) (by simp)
      generalize wr.setCell ⟨b + 1, 1, none⟩ (.int .i64 a1) = w3 at h5 ⊢
      clear h4 m0 m1 m2 e0 e1 e2
      obtain ⟨m0, m1, m2⟩ := h5.col (b := b + 1) (x := a0) (y := a1) (z := 0) (t := 24) (by simp)
      obtain ⟨n0, n1, n2⟩ := h5.col (b := b + 1 + 1) (x := f0) (y := 0) (z := 0) (t := 24) (by simp)
      obtain ⟨e0, e1, e2⟩ := h5.fro (b := b + 1 + 1) (cs := #[.int .i64 f0, .int .i64 0, .int .i64 0]) (t := 24) (by simp)
      have h6 : St w [(b + 1, tri a0 a1 0), (b + 1 + 1, tri f0 f1 0)] (w3.setCell ⟨b + 1 + 1, 1, none⟩ (.int .i64 f1)) := ((h5.swap).put1 (by omega) (by simp)).swap
      have H6 := Lib.hid h6
      clear h5 h6
      go_wp2_with fail
      go_roundw
      case rel => exact ⟨2, by omega, rfl, H6.out⟩
      case measure => simp [intOf]
    · have ix := ix2 v0 v1 v2
      have h4 := HT.out
      clear HT HS hm0 hg0 wp0 ws0 hm1 hg1 wp1 ws1
      go_upto_region 4 with fail
      obtain ⟨m0, m1, m2⟩ := h4.col (b := b + 1) (x := a0) (y := a1) (z := 0) (t := 24) (by simp)
      obtain ⟨e0, e1, e2⟩ := h4.fro (b := b + 1) (cs := #[.int .i64 a0, .int .i64 a1, .int .i64 0]) (t := 24) (by simp)
      go_upto_region 5 with fail
      have h5 : St w [(b + 1, tri a0 a1 a2), (b + 1 + 1, tri f0 f1 0)] (wr.setCell ⟨b + 1, 2, none⟩ (.int .i64 a2)) := h4.put2 (by omega) (by simp)
      generalize wr.setCell ⟨b + 1, 2, none⟩ (.int .i64 a2) = w3 at h5 ⊢
      clear h4 m0 m1 m2 e0 e1 e2
      obtain ⟨m0, m1, m2⟩ := h5.col (b := b + 1) (x := a0) (y := a1) (z := a2) (t := 24) (by simp)
      obtain ⟨n0, n1, n2⟩ := h5.col (b := b + 1 + 1) (x := f0) (y := f1) (z := 0) (t := 24) (by simp)
      obtain ⟨e0, e1, e2⟩ := h5.fro (b := b + 1 + 1) (cs := #[.int .i64 f0, .int .i64 f1, .int .i64 0]) (t := 24) (by simp)
      have h6 : St w [(b + 1, tri a0 a1 a2), (b + 1 + 1, tri f0 f1 f2)] (w3.setCell ⟨b + 1 + 1, 2, none⟩ (.int .i64 f2)) := ((h5.swap).put2 (by omega) (by simp)).swap
      have H6 := Lib.hid h6
      clear h5 h6
      go_wp2_with fail
      go_roundw
      case rel => exact ⟨3, by omega, rfl, H6.out⟩
      case measure => simp [intOf]
    · have h4 := HT.out
      clear HT HS
      obtain ⟨m0, m1, m2⟩ := h4.col (b := b + 1) (x := a0) (y := a1) (z := a2) (t := 24) (by simp)
      obtain ⟨n0, n1, n2⟩ := h4.col (b := b + 1 + 1) (x := f0) (y := f1) (z := f2) (t := 24) (by simp)
      obtain ⟨e0, e1, e2⟩ := h4.fro (b := b + 1) (cs := #[.int .i64 a0, .int .i64 a1, .int .i64 a2]) (t := 24) (by simp)
      obtain ⟨g0, g1, g2⟩ := h4.fro (b := b + 1 + 1) (cs := #[.int .i64 f0, .int .i64 f1, .int .i64 f2]) (t := 24) (by simp)
      have hbw := h4.below
      clear hm0 hm1 hm2 hg0 hg1 hg2 wp0 wp1 wp2 ws0 ws1 ws2
      go_upto_region 7 with fail
      go_big_region
      have h5 : St w [(b + 1 + 1, tri f0 f1 f2), (b + 1, tri a0 a1 a2)] (((((((wr.setCell ⟨b + 1, 0, none⟩ (.int .i64 a0)).setCell ⟨b + 1, 1, none⟩ (.int .i64 a1)).setCell ⟨b + 1, 2, none⟩ (.int .i64 a2)).setCell ⟨b + 1 + 1, 0, none⟩ (.int .i64 f0)).setCell ⟨b + 1 + 1, 1, none⟩ (.int .i64 f1)).setCell ⟨b + 1 + 1, 2, none⟩ (.int .i64 f2)).drew) :=
        (((((((h4.put0 (by omega) (by simp)).put1 (by omega) (by simp)).put2 (by omega) (by simp)).swap).put0 (by omega) (by simp)).put1 (by omega) (by simp)).put2 (by omega) (by simp)).drew
      generalize ((((((wr.setCell ⟨b + 1, 0, none⟩ (.int .i64 a0)).setCell ⟨b + 1, 1, none⟩ (.int .i64 a1)).setCell ⟨b + 1, 2, none⟩ (.int .i64 a2)).setCell ⟨b + 1 + 1, 0, none⟩ (.int .i64 f0)).setCell ⟨b + 1 + 1, 1, none⟩ (.int .i64 f1)).setCell ⟨b + 1 + 1, 2, none⟩ (.int .i64 f2)).drew = w5 at h5 ⊢
      clear m0 m1 m2 n0 n1 n2 e0 e1 e2 g0 g1 g2 h4
      obtain ⟨m0, m1, m2⟩ := h5.col (b := b + 1) (x := a0) (y := a1) (z := a2) (t := 24) (by simp)
      obtain ⟨n0, n1, n2⟩ := h5.col (b := b + 1 + 1) (x := f0) (y := f1) (z := f2) (t := 24) (by simp)
      have hbw5 := h5.below
      clear h5
      go_wp2_with fail
      subst hb
      exact bodyPost_ret (v := .tuple #[ag a0 a1 a2, ag f0 f1 f2]) (by simp [results, Try.results31, go_sem, *]) rfl ⟨rfl, hbw5⟩
end Go.Proofs.Ytcmplgiilcfncaa.K
