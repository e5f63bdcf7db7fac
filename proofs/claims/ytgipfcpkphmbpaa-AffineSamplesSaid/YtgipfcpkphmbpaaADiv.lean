/-
  Greatest common divisors: of affine and of the reference.
-/
import Derived.Test.YtgipfcpkphmbpaaAVal
namespace Go.Proofs.Ytgipfcpkphmbpaa.F
open Go.RowKit
set_option maxRecDepth 100000

def Lm (v : Int) : Prop := -2000000000000000000 ≤ v ∧ v ≤ 2000000000000000000
theorem Hd.later {w w' : World} {b : Nat} {l : List Int} (h : Hd w b l) (hb : b < w.heap.size) (hB : Below w.heap.size w w') : Hd w' b l := fun i hi => by
  rw [hB.cell (p := ⟨b, i, none⟩) hb]; exact h i hi
theorem belowN' {w : World} (n : Nat) : Below w.heap.size w (w.drewN n) := ⟨rfl, rfl, rfl, Nat.le_refl _, fun _ _ => rfl⟩
theorem lm_tmod {g x : Int} (hx : Lm x) (h0 : x ≠ 0) : Lm (g.tmod x) ∧ (g.tmod x).natAbs < x.natAbs := by
  have h := tmod_bd g x
  unfold Lm at *
  rcases Int.lt_or_gt_of_ne h0 with h1 | h1
  · have := h.2 h1; omega
  · have := h.1 h1; omega
theorem gcd_step (g x : Int) : Nat.gcd x.natAbs (g.tmod x).natAbs = Nat.gcd g.natAbs x.natAbs := by
  rw [Int.natAbs_tmod, Nat.gcd_comm x.natAbs, ← Nat.gcd_rec, Nat.gcd_comm]

set_option maxHeartbeats 2000000 in
theorem divisor_any (l : List Int) (n b : Nat) (w : World) (hn : l.length = n) (hm : n ≤ 1000) (hb : b < w.heap.size) (hr : Hd w b l) (hl : ∀ v ∈ l, Lm v) (g0 : Int) (hg0 : g0 = (gl l : Int)) :
    Calls Try.prog 70 #[.slice (some ⟨b, 0, none⟩) n n] w fun e w' => e = .returned (.int .i64 g0) ∧ Below w.heap.size w w' := by
  have HN := Lib.hid hn; clear hn
  have HR := Lib.hid hr; clear hr
  have HL := Lib.hid hl; clear hl
  have HG := Lib.hid hg0; clear hg0
  have HZ := Lib.hid hb; clear hb
  go_enter Try.func70, Try.ntmps70
  go_wp2
  go_loopw [3, 8] (fun c i wr => ∃ (k : Nat) (g : Int), k ≤ n ∧ i = .int .i64 k ∧ c = .int .i64 g ∧ Hid (g.natAbs = gl (l.take k) ∧ Lm g) ∧ Hid (Below w.heap.size w wr)) (fun _ i _ => n - (intOf i).toNat)
  case atStart => exact ⟨0, 0, by omega, rfl, rfl, ⟨rfl, by unfold Lm; omega⟩, Below.refl _ _⟩
  case round =>
    obtain ⟨k, g, hk, rfl, rfl, HA, HB⟩ := hrel
    by_cases h : k < n
    · have c1 := (HR.out.later HZ.out HB.out) k (by rw [HN.out]; omega)
      have hk' : (k : Int) < n := by omega
      have HS : Hid (gl (l.take (k + 1)) = Nat.gcd g.natAbs (l.getD k 0).natAbs ∧ Lm (l.getD k 0)) := by
        have hlt : k < l.length := by rw [HN.out]; exact h
        have hx : l.getD k 0 = l[k] := by simp [List.getD, hlt]
        show _ ∧ _
        rw [List.take_add_one, List.getElem?_eq_getElem hlt, hx]
        refine ⟨?_, HL.out _ (List.getElem_mem hlt)⟩
        rw [Option.toList_some, gl_snoc, HA.out.1]
      generalize l.getD k 0 = x at c1 HS
      have HI : Hid (Nat.gcd g.natAbs x.natAbs = gl (l.take (k + 1)) ∧ Lm g ∧ Lm x) := ⟨HS.out.1.symm, HA.out.2, HS.out.2⟩
      clear HS HA
      go_wp2_with fail
      go_loopw [3, 5] (fun c v wq => ∃ (g x : Int), c = .int .i64 g ∧ v = .int .i64 x ∧ Hid (Nat.gcd g.natAbs x.natAbs = gl (l.take (k + 1)) ∧ Lm g ∧ Lm x) ∧ Hid (Below w.heap.size w wq)) (fun _ v _ => (intOf v).natAbs)
      case atStart => exact ⟨g, x, rfl, rfl, HI, HB⟩
      case round =>
        clear HB HI c1
        obtain ⟨g', x', rfl, rfl, HI, HB⟩ := hrel
        by_cases hx : x' = 0
        · subst hx
          have HK : Hid (g'.natAbs = gl (l.take (k + 1)) ∧ Lm g') := ⟨by have := HI.out.1; rw [Int.natAbs_zero, Nat.gcd_zero_right] at this; exact this, HI.out.2.1⟩
          clear HI
          go_wp2_with fail
          exact ⟨⟨k + 1, _, by omega, by simp, rfl, HK, HB⟩, by simp [intOf]; omega⟩
        · have hx' : (x' == 0) = false := by simpa using hx
          have hx2 : (x' = 0) = False := by simpa using hx
          have hst := lm_tmod (g := g') HI.out.2.2 hx
          have HJ : Hid (Nat.gcd x'.natAbs (g'.tmod x').natAbs = gl (l.take (k + 1)) ∧ Lm x' ∧ Lm (g'.tmod x')) := ⟨by rw [gcd_step]; exact HI.out.1, HI.out.2.2, hst.1⟩
          go_wp2_with fail
          go_quiet (fail)
          have HB2 : Hid (Below w.heap.size w (wr.drewN nq)) := HB.out.trans ((belowN' nq).mono HB.out.size)
          generalize wr.drewN nq = w2 at HB2 ⊢
          go_wp2_with fail
          exact ⟨⟨_, _, rfl, rfl, HJ, HB2⟩, hst.2⟩
    · obtain rfl : k = n := by omega
      have hA := HA.out
      rw [← HN.out, List.take_length] at hA
      have hng : wrap64 (-g) = -g := by have := hA.2; unfold Lm at this; exact w64 ⟨by omega, by omega⟩
      have HE : Hid (g0 = mx g (-g)) := by
        show _ = _
        rw [HG.out, ← hA.1, mx_eq]; omega
      clear hA HA
      go_wp2_with fail
      all_goals go_ret
      all_goals exact ⟨ret_int (by rw [HE.out]; unfold mx; first | (simp [*]; done) | (simp; omega) | rfl), HB.out⟩

set_option maxHeartbeats 2000000 in
theorem gcd_any (a b : Int) (w : World) (ha : Lm a) (hb : Lm b) (g0 : Int) (hg0 : g0 = (Nat.gcd a.natAbs b.natAbs : Int)) :
    Calls Try.prog 71 #[.int .i64 a, .int .i64 b] w fun e w' => e = .returned (.int .i64 g0) ∧ w = w' := by
  have HG := Lib.hid hg0; clear hg0
  have h1 : wrap64 (0 - a) = -a := by unfold Lm at ha; rw [w64 ⟨by omega, by omega⟩]; omega
  have h2 : wrap64 (0 - b) = -b := by unfold Lm at hb; rw [w64 ⟨by omega, by omega⟩]; omega
  have h3 : wrap64 (-a) = -a := by unfold Lm at ha; rw [w64 ⟨by omega, by omega⟩]
  have h4 : wrap64 (-b) = -b := by unfold Lm at hb; rw [w64 ⟨by omega, by omega⟩]
  have HA := Lib.hid ha; clear ha
  have HB := Lib.hid hb; clear hb
  go_enter Try.func71, Try.ntmps71
  go_upto_region 3 with fail
  all_goals
    go_loopw [0, 1] (fun c v wq => ∃ (g x : Int), c = .int .i64 g ∧ v = .int .i64 x ∧ Hid (Nat.gcd g.natAbs x.natAbs = Nat.gcd a.natAbs b.natAbs ∧ 0 ≤ g ∧ 0 ≤ x ∧ Lm x) ∧ wq = w) (fun _ v _ => (intOf v).natAbs)
    case atStart => exact ⟨_, _, rfl, rfl, ⟨by first | rfl | (simp only [Int.natAbs_neg]), by omega, by omega, by have := HB.out; unfold Lm at *; omega⟩, rfl⟩
    case round =>
      obtain ⟨g, x, rfl, rfl, HI, rfl⟩ := hrel
      by_cases hx : x = 0
      · subst hx
        obtain rfl : g0 = g := by
          have := HI.out.1; rw [Int.natAbs_zero, Nat.gcd_zero_right] at this
          rw [HG.out, ← this]; have := HI.out.2.1; omega
        go_wp2
        go_ret
        exact ⟨rfl, rfl⟩
      · have hx' : (x == 0) = false := by simpa using hx
        have hx2 : (x = 0) = False := by simpa using hx
        have hst := lm_tmod (g := g) HI.out.2.2.2 hx
        have HJ : Hid (Nat.gcd x.natAbs (g.tmod x).natAbs = Nat.gcd a.natAbs b.natAbs ∧ 0 ≤ x ∧ 0 ≤ g.tmod x ∧ Lm (g.tmod x)) := ⟨by rw [gcd_step]; exact HI.out.1, HI.out.2.2.1, (tmod_sign g x).1 HI.out.2.1, hst.1⟩
        go_wp2_with fail
        exact ⟨⟨_, _, rfl, rfl, HJ, trivial⟩, hst.2⟩
end Go.Proofs.Ytgipfcpkphmbpaa.F
