/-
  Contexts, the interval's bounds and its middle (contracts of the methods that change nothing).
-/
import Derived.Test.YtbfnahclkajahaaCMem
namespace Go.Proofs.Ytbfnahclkajahaa.C
open Go.RowKit
set_option maxRecDepth 100000
variable {W w w' : World} {L : List (Nat × Obj)}

def ctx (n : Int) : Nat := (n % 256).toNat
def bitn (n : Int) : Nat := (n % 2).toNat
theorem ctx_lt (n : Int) : ctx n < 256 := by unfold ctx; omega
theorem bitn_lt (n : Int) : bitn n ≤ 1 := by unfold bitn; omega
theorem and255 (n : Int) : bits .and .i64 n 255 = (ctx n : Int) := by have := i64_mask 8 (by omega) n; simp at this; rw [this]; unfold ctx; omega
theorem and1 (n : Int) : bits .and .i64 n 1 = (bitn n : Int) := by have := i64_mask 1 (by omega) n; simp at this; rw [this]; unfold bitn; omega
theorem not_u32 {r : Nat} (hr : r < 4294967296) : bits BinOp.xor IntKind.u32 IntKind.u32.max (r : Int) = ((4294967295 - r : Nat) : Int) := by
  have h := u32_xor_nat 4294967295 r (by omega) hr
  have h2 : 4294967295 ^^^ r = 4294967295 - r := by
    apply Nat.eq_of_testBit_eq
    intro i
    rw [Nat.testBit_xor, show 4294967295 - r = 2 ^ 32 - (r + 1) by omega, Nat.testBit_two_pow_sub_succ (by omega), show (4294967295 : Nat) = 2 ^ 32 - 1 by rfl, Nat.testBit_two_pow_sub_one]
    by_cases hi : i < 32
    · simp [hi]
    · have : r.testBit i = false := Nat.testBit_lt_two_pow (Nat.lt_of_lt_of_le hr (show (4294967296 : Nat) ≤ 2 ^ i from Nat.pow_le_pow_right (n := 2) (by omega) (show 32 ≤ i by omega)))
      simp [hi, this]
  rw [← h2, ← h]; rfl
theorem slot_any (n : Int) (w : World) : Calls Try.prog 48 #[.int .i64 n] w fun e w' => e = .returned (.int .u8 (ctx n)) ∧ w = w' := by
  go_enter Try.func48, Try.ntmps48
  go_wp2
  go_ret
  exact ⟨ret_int (by unfold ctx; simp; try omega), rfl⟩
theorem below_any (x b : Nat) (w : World) (hx : x ≤ 1000) (hb : b ≤ 1) : Calls Try.prog 46 #[.int .i64 x, .int .i64 b] w fun e w' => e = .returned (.int .i64 ((2 * x + b : Nat) : Int)) ∧ w = w' := by
  go_enter Try.func46, Try.ntmps46
  go_wp2
  go_ret
  exact ⟨ret_int (by omega), rfl⟩
theorem high_any (b lk hi : Nat) (w : World) (hc : w.cell? ⟨b, 257, none⟩ = some (.int .u32 lk)) (hl : lk + hi = 4294967295) :
    Calls Try.prog 47 #[.pointer (some ⟨b, 256, none⟩)] w fun e w' => e = .returned (.int .u32 hi) ∧ w = w' := by
  have hn : bits BinOp.xor IntKind.u32 IntKind.u32.max (lk : Int) = (hi : Int) := by rw [not_u32 (by omega), show 4294967295 - lk = hi by omega]
  go_enter Try.func47, Try.ntmps47
  go_wp2
  go_ret
  exact ⟨rfl, rfl⟩
set_option maxHeartbeats 1000000 in
theorem mid_any (b lo lk hi p : Nat) (w : World) (hc0 : w.cell? ⟨b, 256, none⟩ = some (.int .u32 lo)) (hc1 : w.cell? ⟨b, 257, none⟩ = some (.int .u32 lk)) (hl : lk + hi = 4294967295) (hle : lo ≤ hi) (hp : p ≤ 4096) :
    Calls Try.prog 35 #[.pointer (some ⟨b, 256, none⟩), .int .i64 p] w fun e w' => e = .returned (.int .u32 ((lo + (hi - lo) / 4096 * p : Nat) : Int)) ∧ ∃ m, w' = w.drewN m := by
  have HH : Hid (∀ V, V.cell? ⟨b, 257, none⟩ = some (.int .u32 lk) → Calls Try.prog 47 #[.pointer (some ⟨b, 256, none⟩)] V fun e w' => e = .returned (.int .u32 hi) ∧ V = w') := fun V hV => high_any b lk hi V hV hl
  have hm : (hi - lo) / 4096 * p ≤ hi - lo := Nat.le_trans (Nat.mul_le_mul_left _ hp) (Nat.div_mul_le_self ..)
  have HM := Lib.hid hm
  clear hm
  go_enter Try.func35, Try.ntmps35
  go_upto_region 1 with fail
  go_quiet (first | (go_at_call 47; exact quiet1 (HH.out _ hc1)))
  go_wp2
  go_ret
  refine ⟨ret_int ?_, nq, rfl⟩
  have h := HM.out
  have e : (((hi - lo) / 4096 * p : Nat) : Int) = ((hi : Int) - lo) / 4096 * p := by rw [Int.natCast_mul, Int.natCast_ediv, Int.natCast_sub hle]; rfl
  rw [← e]
  generalize (hi - lo) / 4096 * p = q at h
  omega

theorem prob_any (b k : Nat) (n d : Int) (w : World) (hk : ctx n = k) (hc : w.cell? ⟨b, k, none⟩ = some (.int .i64 d)) (hd : -4096 ≤ d ∧ d ≤ 4096) :
    Calls Try.prog 36 #[.pointer (some ⟨b, 0, none⟩), .int .i64 n] w fun e w' => e = .returned (.int .i64 (2048 + d)) ∧ ∃ m, w' = w.drewN m := by
  have hk2 := ctx_lt n
  have HS : Hid (∀ V, Calls Try.prog 48 #[.int .i64 n] V fun e w' => e = .returned (.int .u8 k) ∧ V = w') := fun V => hk ▸ slot_any n V
  rw [hk] at hk2
  clear hk
  go_enter Try.func36, Try.ntmps36
  go_upto_region 1 with fail
  go_quiet (first | (go_at_call 48; exact quiet1 (HS.out _)))
  go_wp2
  go_ret
  exact ⟨rfl, nq, rfl⟩
/-- what the code keeps of probabilities -/
def dc (p : Nat → Nat) : Nat → Int := fun i => (p i : Int) - 2048
def pcs (p : Nat → Nat) : Nat → Int := fun i => (p i : Int)
theorem dc_upd (p : Nat → Nat) (k v : Nat) : updI (dc p) k ((v : Int) - 2048) = dc (upd p k v) := by funext i; unfold updI dc upd; split <;> rfl
theorem pcs_upd (p : Nat → Nat) (k v : Nat) : updI (pcs p) k (v : Int) = pcs (upd p k v) := by funext i; unfold updI pcs upd; split <;> rfl
set_option maxHeartbeats 1000000 in
theorem learn_any (b k bit : Nat) (n : Int) (t : TypeId) (p : Nat → Nat) (r : List Value) (w : World) (hk : ctx n = k) (hb : bit ≤ 1) (h : HS W ((b, mob t (dc p) r) :: L) w) (hp : 1 ≤ p k ∧ p k ≤ 4095) :
    Calls Try.prog 37 #[.pointer (some ⟨b, 0, none⟩), .int .i64 n, .int .i64 bit] w fun e w' => e = .returned (.tuple #[]) ∧ HS W ((b, mob t (dc (upd p k (lrn (p k) bit))) r) :: L) w' := by
  have hk2 := ctx_lt n
  have HSl : Hid (∀ V, Calls Try.prog 48 #[.int .i64 n] V fun e w' => e = .returned (.int .u8 k) ∧ V = w') := fun V => hk ▸ slot_any n V
  have HPr : Hid (∀ V, V.cell? ⟨b, k, none⟩ = some (.int .i64 ((p k : Int) - 2048)) → Calls Try.prog 36 #[.pointer (some ⟨b, 0, none⟩), .int .i64 n] V fun e w' => e = .returned (.int .i64 (p k)) ∧ ∃ m, w' = V.drewN m) := fun V hV => by
    have := prob_any b k n _ V hk hV (by omega)
    rwa [show (2048 : Int) + ((p k : Int) - 2048) = p k by omega] at this
  rw [hk] at hk2
  clear hk
  have hc := h.celld (b := b) (t := t) (d := dc p) (r := r) (by simp) k hk2
  have hc1 : w.cell? ⟨b, k, none⟩ = some (.int .i64 ((p k : Int) - 2048)) := hc
  clear hc
  have hbit : bit = 0 ∨ bit = 1 := by omega
  have HH := Lib.hid h
  clear h hb
  generalize hq : p k = q at *
  rcases hbit with rfl | rfl
  · go_enter Try.func37, Try.ntmps37
    go_upto_region 3 with (go_at_call 36; refine (HPr.out _ hc1).mono ?_; rintro e w1 ⟨rfl, m1, rfl⟩)
    have h2 := (HH.out.drewN m1).drew
    refine wp_region_still_tail 13 (by kernel_rfl) (by kernel_rfl) ?_
    rw [drew_eq (w.drewN m1)]
    generalize (w.drewN m1).drew = w2 at h2 ⊢
    have hf := h2.hfro k
    have hc : w2.cell? ⟨b, k, none⟩ = some (.int .i64 ((p k : Int) - 2048)) := h2.hd_d k hk2
    rw [hq] at hc
    clear hc1
    have hk3 : (k : Int) < 256 := by omega
    simp only [List.take_succ_cons, List.take_zero, List.drop_succ_cons, List.drop_zero]
    iterate 2 still_step
    still_call (quiet_sym (HSl.out _))
    repeat still_step
    try refine wpStill_nil ?_
    go_wp2
    refine bodyPost_end (results_none rfl _ _ _) rfl ⟨rfl, ?_⟩
    have e := h2.putd k ((lrn q 0 : Int) - 2048) hk2
    rw [dc_upd] at e
    exact HS.val (by simp only [lrn, show ¬ (0 : Nat) = 1 by omega, if_false]; omega) e
  · go_enter Try.func37, Try.ntmps37
    go_upto_region 2 with (go_at_call 36; refine (HPr.out _ hc1).mono ?_; rintro e w1 ⟨rfl, m1, rfl⟩)
    have h2 := (HH.out.drewN m1).drew
    refine wp_region_still_tail 14 (by kernel_rfl) (by kernel_rfl) ?_
    rw [drew_eq (w.drewN m1)]
    generalize (w.drewN m1).drew = w2 at h2 ⊢
    have hf := h2.hfro k
    have hc : w2.cell? ⟨b, k, none⟩ = some (.int .i64 ((p k : Int) - 2048)) := h2.hd_d k hk2
    rw [hq] at hc
    clear hc1
    have hk3 : (k : Int) < 256 := by omega
    simp only [List.take_succ_cons, List.take_zero, List.drop_succ_cons, List.drop_zero]
    iterate 2 still_step
    still_call (quiet_sym (HSl.out _))
    repeat still_step
    try refine wpStill_nil ?_
    go_wp2
    refine bodyPost_end (results_none rfl _ _ _) rfl ⟨rfl, ?_⟩
    have e := h2.putd k ((lrn q 1 : Int) - 2048) hk2
    rw [dc_upd] at e
    exact HS.val (by simp only [lrn, if_true]; omega) e
theorem narrow_any (b lo hi lk m bit : Nat) (t : TypeId) (d : Nat → Int) (r : List Value) (w : World) (hb : bit ≤ 1) (h : HS W ((b, mob t d (.int .u32 lo :: .int .u32 lk :: r)) :: L) w) (hl : lk + hi = 4294967295) (hm : m < hi) :
    Calls Try.prog 34 #[.pointer (some ⟨b, 256, none⟩), .int .u32 m, .int .i64 bit] w fun e w' => e = .returned (.tuple #[]) ∧
      HS W ((b, mob t d (.int .u32 (if bit = 1 then lo else m + 1 : Nat) :: .int .u32 (4294967295 - (if bit = 1 then m else hi) : Nat) :: r)) :: L) w' := by
  have hbit : bit = 0 ∨ bit = 1 := by omega
  have hf0 := h.hfro 256
  have hf1 := h.hfro 257
  have hc0 : w.cell? ⟨b, 256, none⟩ = some (.int .u32 lo) := h.hd_r 0
  have hc1 : w.cell? ⟨b, 257, none⟩ = some (.int .u32 lk) := h.hd_r 1
  have hn := not_u32 (show m < 4294967296 by omega)
  have e0 : HS W ((b, mob t d (.int .u32 ((m : Int) + 1) :: .int .u32 lk :: r)) :: L) (w.setCell ⟨b, 256, none⟩ (.int .u32 ((m : Int) + 1))) := h.putr 0 _
  have e1 : HS W ((b, mob t d (.int .u32 lo :: .int .u32 ((4294967295 - m : Nat) : Int) :: r)) :: L) (w.setCell ⟨b, 257, none⟩ (.int .u32 ((4294967295 - m : Nat) : Int))) := h.putr 1 _
  have ek : 4294967295 - hi = lk := by omega
  have HH := Lib.hid h
  have E0 := Lib.hid e0
  have E1 := Lib.hid e1
  clear h hb e0 e1
  generalize hq : 4294967295 - m = q at *
  rcases hbit with rfl | rfl
  · go_enter Try.func34, Try.ntmps34
    go_wp2
    refine bodyPost_end (results_none rfl _ _ _) rfl ⟨rfl, ?_⟩
    exact E0.out
  · go_enter Try.func34, Try.ntmps34
    go_wp2
    refine bodyPost_end (results_none rfl _ _ _) rfl ⟨rfl, ?_⟩
    exact E1.out
end Go.Proofs.Ytbfnahclkajahaa.C
