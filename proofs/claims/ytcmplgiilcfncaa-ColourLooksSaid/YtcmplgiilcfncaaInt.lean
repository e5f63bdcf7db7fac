/-
  The value of a valid curve at an argument in range, of curve (interpolate) and of the reference (value); Valid and At of both.
-/
import Derived.Test.YtcmplgiilcfncaaVal
namespace Go.Proofs.Ytcmplgiilcfncaa
open Go.RowKit
variable {w : World}

theorem cn_rng {c : List Int} (h : Cv c) {x : Nat} (hx : x ≤ 65535) : 0 ≤ cn c x ∧ cn c x ≤ 4294836225 := by
  have h1 := val_rng h hx
  have e := val_alt c x
  have h2 := h.two
  have hj := seg_le (c := c) hx
  by_cases hl : (c.length - 1) * x / 65535 = c.length - 1
  · have := cn_last hx hl; have := h.rng (c.length - 1) (by omega); omega
  · have hs := cn_seg h (x := x) (by omega)
    have a := h.rng ((c.length - 1) * x / 65535) (by omega)
    have b := h.rng ((c.length - 1) * x / 65535 + 1) (by omega)
    omega
/-- what a walk over the value wants to know: y the product, i the segment, the numbers at its ends, the two products and their sum -/
theorem seg_facts {c : List Int} {n x : Nat} (h : Cv c) (hn : c.length = n) (hx : x ≤ 65535) : ∃ m y : Nat, n = m + 1 ∧ 1 ≤ m ∧ m ≤ 256 ∧ m * x = y ∧ y ≤ 16776960 ∧ y / 65535 ≤ m ∧
    (y / 65535 = m → val c x = cg c m) ∧
    (y / 65535 < m → ∃ a b p q : Int, cg c (y / 65535) = a ∧ cg c (y / 65535 + 1) = b ∧ (0 ≤ a ∧ a ≤ 65535) ∧ (0 ≤ b ∧ b ≤ 65535) ∧ a * (65535 - ((y : Int) % 65535)) = p ∧ b * ((y : Int) % 65535) = q ∧ (0 ≤ p ∧ p ≤ 4294836225) ∧ (0 ≤ q ∧ q ≤ 4294836225) ∧ p + q ≤ 4294836225 ∧ val c x = (2 * (p + q) + 65535) / 131070) := by
  have h2 := h.two; have h3 := h.max
  have hj := seg_le (c := c) hx
  have hlast := val_last (c := c) hx
  have hr := cn_rng h hx
  have hcn : cn c x = cg c ((c.length - 1) * x / 65535) * (65535 - ((c.length - 1) * x % 65535 : Nat)) + cg c ((c.length - 1) * x / 65535 + 1) * ((c.length - 1) * x % 65535 : Nat) := rfl
  have hv : val c x = (2 * cn c x + 65535) / 131070 := rfl
  have hmx : (c.length - 1) * x ≤ 256 * 65535 := Nat.mul_le_mul (by omega) hx
  refine ⟨n - 1, (n - 1) * x, by omega, by omega, by omega, rfl, by rw [← hn]; exact hmx, by rw [← hn]; exact hj, fun e => ?_, fun e => ?_⟩
  · rw [← hn] at e ⊢; exact hlast e
  · rw [hn] at hcn
    rw [hn] at hj
    have a1 := h.rng ((n - 1) * x / 65535) (by omega)
    have b1 := h.rng ((n - 1) * x / 65535 + 1) (by omega)
    have hm : ((((n - 1) * x : Nat) : Int) % 65535) = (((n - 1) * x % 65535 : Nat) : Int) := by omega
    have hlt : (n - 1) * x % 65535 < 65535 := Nat.mod_lt _ (by decide)
    rw [hm]
    refine ⟨_, _, _, _, rfl, rfl, a1, b1, rfl, rfl, ?_, ?_, ?_, ?_⟩
    · constructor
      · exact Int.mul_nonneg a1.1 (by omega)
      · exact Int.le_trans (Int.mul_le_mul a1.2 (show (65535 - (((n - 1) * x % 65535 : Nat) : Int)) ≤ 65535 by omega) (by omega) (by omega)) (by decide)
    · constructor
      · exact Int.mul_nonneg b1.1 (by omega)
      · exact Int.le_trans (Int.mul_le_mul b1.2 (show (((n - 1) * x % 65535 : Nat) : Int) ≤ 65535 by omega) (by omega) (by omega)) (by decide)
    · rw [← hcn]; exact hr.2
    · rw [hv, hcn]
set_option maxRecDepth 100000 in
set_option maxHeartbeats 2000000 in
theorem inter_row (c : List Int) (n b off cap x : Nat) (w : World) (hv : Cv c) (hn : c.length = n) (hr : Row w b off c) (hx : x ≤ 65535) :
    Calls Try.prog 85 #[.slice (some ⟨b, off, none⟩) n cap, .int .i64 x] w fun e w' => e = .returned (.int .i64 (val c x)) ∧ ∃ q, w' = w.drewN q := by
  obtain ⟨m, y, rfl, h1, h2, hy, hy2, hi, hE, hL⟩ := seg_facts hv hn hx
  have hw : IntKind.i64.wrap ((m : Int) * (x : Int)) = (y : Int) := by
    rw [← Int.natCast_mul, hy]; exact IntWalk.i64_in _ (by omega)
  have hw2 : (m : Int) * (x : Int) = (y : Int) := by rw [← Int.natCast_mul, hy]
  have k0 : ((m : Int) + 1 - 1) = m := by omega
  have ki : ((y : Int) / 65535).toNat = y / 65535 := by omega
  have ki1 : ((y : Int) / 65535 + 1).toNat = y / 65535 + 1 := by omega
  by_cases he : y / 65535 = m
  · have hc := hr.at' m (by omega)
    rw [hE he]
    have hq : (y : Int) / 65535 = m := by omega
    clear hE hL hy hr hv hn ki ki1 he
    generalize cg c m = z at hc ⊢
    go_enter Try.func85, Try.ntmps85
    go_wp2
    go_ret
    exact ⟨rfl, 0, rfl⟩
  · obtain ⟨a, e, p, q, ha, hb, ra, rb, hp, hq, rp, rq, rs, hval⟩ := hL (by omega)
    have c1 := hr.at' (y / 65535) (by omega)
    have c2 := hr.at' (y / 65535 + 1) (by omega)
    rw [ha] at c1; rw [hb] at c2; rw [hval]
    have hne : ((y : Int) / 65535 == (m : Int)) = false := by simp; omega
    have hlt : (y : Int) / 65535 < m := by omega
    have hge : (0 : Int) ≤ (y : Int) / 65535 := by omega
    obtain ⟨f, hf⟩ : ∃ f, f = (y : Int) % 65535 := ⟨_, rfl⟩
    have f1 : 0 ≤ f ∧ f ≤ 65535 := by omega
    rw [← hf] at hp hq
    have HP : Hid (a * (65535 - f) = p) := hp
    have HQ : Hid (e * f = q) := hq
    have w1 : IntKind.i64.wrap (a * (65535 - f)) = p := by rw [hp]; exact IntWalk.i64_in _ (by omega)
    have w2 : IntKind.i64.wrap (e * f) = q := by rw [hq]; exact IntWalk.i64_in _ (by omega)
    have hf' := hf.symm
    obtain ⟨f0, f2⟩ := f1
    clear hE hL hy hr hv hn he ha hb hp hq hf hval
    go_enter Try.func85, Try.ntmps85
    go_upto_region 5 with fail
    go_quiet ((go_at_call 71; exact Calls.quiet_of_same ((nearest_any _ _ _ (by omega) (by omega) (by omega) (by omega)).mono fun _ _ ⟨h, h'⟩ => ⟨h, h'.symm⟩)))
    go_wp2_with fail
    go_ret
    exact ⟨rfl, _, rfl⟩
end Go.Proofs.Ytcmplgiilcfncaa
