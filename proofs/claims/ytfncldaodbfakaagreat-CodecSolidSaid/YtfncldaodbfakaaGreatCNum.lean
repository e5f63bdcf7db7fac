/-
  Contexts, the interval's bounds and its middle (contracts of the methods that change nothing). The interval's shifts, each byte handed to a closure (contract of shift for any closure). Laws over single operations: slices of one byte, loads and stores with a run equation, values of structs.
-/
import Derived.Test.YtfncldaodbfakaaGreatCSeq
import Derived.Great.BuildSlice
namespace Go.Proofs.YtfncldaodbfakaaGreat.C
open Go.RowKit
set_option maxRecDepth 100000
variable {W w w' : World} {L : List (Nat × Obj)}

def ctx (n : Int) : Nat := (n % 256).toNat
def bitn (n : Int) : Nat := (n % 2).toNat
theorem ctx_lt (n : Int) : ctx n < 256 := by unfold ctx; omega
theorem bitn_lt (n : Int) : bitn n ≤ 1 := by unfold bitn; omega
theorem and255 (n : Int) : bits .and .i64 n 255 = (ctx n : Int) := by have := i64_mask 8 (by omega) n; simp at this; rw [this]; unfold ctx; omega
theorem and1 (n : Int) : bits .and .i64 n 1 = (bitn n : Int) := by have := i64_mask 1 (by omega) n; simp at this; rw [this]; unfold bitn; omega
theorem not_u32 {r : Nat} (hr : r < 4294967296) : bits BinOp.xor IntKind.u32 IntKind.u32.max (r : Int) = ((4294967295 - r : Nat) : Int) := by
  have h := u32_xor_nat 4294967295 r (by omega) hr
  have h2 : 4294967295 ^^^ r = 4294967295 - r := by
    apply Nat.eq_of_testBit_eq
    intro i
    rw [Nat.testBit_xor, show 4294967295 - r = 2 ^ 32 - (r + 1) by omega, Nat.testBit_two_pow_sub_succ (by omega), show (4294967295 : Nat) = 2 ^ 32 - 1 by rfl, Nat.testBit_two_pow_sub_one]
    by_cases hi : i < 32
    · simp [hi]
    · have : r.testBit i = false := Nat.testBit_lt_two_pow (Nat.lt_of_lt_of_le hr (show (4294967296 : Nat) ≤ 2 ^ i from Nat.pow_le_pow_right (n := 2) (by omega) (show 32 ≤ i by omega)))
      simp [hi, this]
  rw [← h2, ← h]; rfl
theorem slot_any (n : Int) (w : World) : Calls Tryz.prog 239 #[.int .i64 n] w fun e w' => e = .returned (.int .u8 (ctx n)) ∧ w = w' := by
  go_enter Tryz.func239, Tryz.ntmps239
  go_wp2
  go_ret
  exact ⟨ret_int (by unfold ctx; simp; try omega), rfl⟩
theorem below_any (x b : Nat) (w : World) (hx : x ≤ 1000) (hb : b ≤ 1) : Calls Tryz.prog 211 #[.int .i64 x, .int .i64 b] w fun e w' => e = .returned (.int .i64 ((2 * x + b : Nat) : Int)) ∧ w = w' := by
  go_enter Tryz.func211, Tryz.ntmps211
  go_wp2
  go_ret
  exact ⟨ret_int (by omega), rfl⟩
theorem high_any (b lk hi : Nat) (w : World) (hc : w.cell? ⟨b, 257, none⟩ = some (.int .u32 lk)) (hl : lk + hi = 4294967295) :
    Calls Tryz.prog 238 #[.pointer (some ⟨b, 256, none⟩)] w fun e w' => e = .returned (.int .u32 hi) ∧ w = w' := by
  have hn : bits BinOp.xor IntKind.u32 IntKind.u32.max (lk : Int) = (hi : Int) := by rw [not_u32 (by omega), show 4294967295 - lk = hi by omega]
  go_enter Tryz.func238, Tryz.ntmps238
  go_wp2
  go_ret
  exact ⟨rfl, rfl⟩
set_option maxHeartbeats 1000000 in
theorem mid_any (b lo lk hi p : Nat) (w : World) (hc0 : w.cell? ⟨b, 256, none⟩ = some (.int .u32 lo)) (hc1 : w.cell? ⟨b, 257, none⟩ = some (.int .u32 lk)) (hl : lk + hi = 4294967295) (hle : lo ≤ hi) (hp : p ≤ 4096) :
    Calls Tryz.prog 223 #[.pointer (some ⟨b, 256, none⟩), .int .i64 p] w fun e w' => e = .returned (.int .u32 ((lo + (hi - lo) / 4096 * p : Nat) : Int)) ∧ ∃ m, w' = w.drewN m := by
  have HH : Hid (∀ V, V.cell? ⟨b, 257, none⟩ = some (.int .u32 lk) → Calls Tryz.prog 238 #[.pointer (some ⟨b, 256, none⟩)] V fun e w' => e = .returned (.int .u32 hi) ∧ V = w') := fun V hV => high_any b lk hi V hV hl
  have hm : (hi - lo) / 4096 * p ≤ hi - lo := Nat.le_trans (Nat.mul_le_mul_left _ hp) (Nat.div_mul_le_self ..)
  have HM := Lib.hid hm
  clear hm
  go_enter Tryz.func223, Tryz.ntmps223
  go_upto_region 1 with fail
  go_quiet (first | (go_at_call 238; exact quiet1 (HH.out _ hc1)))
  go_wp2
  go_ret
  refine ⟨ret_int ?_, nq, rfl⟩
  have h := HM.out
  have e : (((hi - lo) / 4096 * p : Nat) : Int) = ((hi : Int) - lo) / 4096 * p := by rw [Int.natCast_mul, Int.natCast_ediv, Int.natCast_sub hle]; rfl
  rw [← e]
  generalize (hi - lo) / 4096 * p = q at h
  omega

theorem prob_any (b k : Nat) (n d : Int) (w : World) (hk : ctx n = k) (hc : w.cell? ⟨b, k, none⟩ = some (.int .i64 d)) (hd : -4096 ≤ d ∧ d ≤ 4096) :
    Calls Tryz.prog 224 #[.pointer (some ⟨b, 0, none⟩), .int .i64 n] w fun e w' => e = .returned (.int .i64 (2048 + d)) ∧ ∃ m, w' = w.drewN m := by
  have hk2 := ctx_lt n
  have HS : Hid (∀ V, Calls Tryz.prog 239 #[.int .i64 n] V fun e w' => e = .returned (.int .u8 k) ∧ V = w') := fun V => hk ▸ slot_any n V
  rw [hk] at hk2
  clear hk
  go_enter Tryz.func224, Tryz.ntmps224
  go_upto_region 1 with fail
  go_quiet (first | (go_at_call 239; exact quiet1 (HS.out _)))
  go_wp2
  go_ret
  exact ⟨rfl, nq, rfl⟩
/-- what the code keeps of probabilities -/
def dc (p : Nat → Nat) : Nat → Int := fun i => (p i : Int) - 2048
def pcs (p : Nat → Nat) : Nat → Int := fun i => (p i : Int)
theorem dc_upd (p : Nat → Nat) (k v : Nat) : updI (dc p) k ((v : Int) - 2048) = dc (upd p k v) := by funext i; unfold updI dc upd; split <;> rfl
theorem pcs_upd (p : Nat → Nat) (k v : Nat) : updI (pcs p) k (v : Int) = pcs (upd p k v) := by funext i; unfold updI pcs upd; split <;> rfl
set_option maxHeartbeats 1000000 in
theorem learn_any (b k bit : Nat) (n : Int) (t : TypeId) (p : Nat → Nat) (r : List Value) (w : World) (hk : ctx n = k) (hb : bit ≤ 1) (h : HS W ((b, mob t (dc p) r) :: L) w) (hp : 1 ≤ p k ∧ p k ≤ 4095) :
    Calls Tryz.prog 225 #[.pointer (some ⟨b, 0, none⟩), .int .i64 n, .int .i64 bit] w fun e w' => e = .returned (.tuple #[]) ∧ HS W ((b, mob t (dc (upd p k (lrn (p k) bit))) r) :: L) w' := by
  have hk2 := ctx_lt n
  have HSl : Hid (∀ V, Calls Tryz.prog 239 #[.int .i64 n] V fun e w' => e = .returned (.int .u8 k) ∧ V = w') := fun V => hk ▸ slot_any n V
  have HPr : Hid (∀ V, V.cell? ⟨b, k, none⟩ = some (.int .i64 ((p k : Int) - 2048)) → Calls Tryz.prog 224 #[.pointer (some ⟨b, 0, none⟩), .int .i64 n] V fun e w' => e = .returned (.int .i64 (p k)) ∧ ∃ m, w' = V.drewN m) := fun V hV => by
    have := prob_any b k n _ V hk hV (by omega)
    rwa [show (2048 : Int) + ((p k : Int) - 2048) = p k by omega] at this
  rw [hk] at hk2
  clear hk
  have hc := h.celld (b := b) (t := t) (d := dc p) (r := r) (by simp) k hk2
  have hc1 : w.cell? ⟨b, k, none⟩ = some (.int .i64 ((p k : Int) - 2048)) := hc
  clear hc
  have hbit : bit = 0 ∨ bit = 1 := by omega
  have HH := Lib.hid h
  clear h hb
  generalize hq : p k = q at *
  rcases hbit with rfl | rfl
  · go_enter Tryz.func225, Tryz.ntmps225
    go_upto_region 3 with (go_at_call 224; refine (HPr.out _ hc1).mono ?_; rintro e w1 ⟨rfl, m1, rfl⟩)
    have h2 := (HH.out.drewN m1).drew
    refine wp_region_still_tail 13 (by kernel_rfl) (by kernel_rfl) ?_
    rw [drew_eq (w.drewN m1)]
    generalize (w.drewN m1).drew = w2 at h2 ⊢
    have hf := h2.hfro k
    have hc : w2.cell? ⟨b, k, none⟩ = some (.int .i64 ((p k : Int) - 2048)) := h2.hd_d k hk2
    rw [hq] at hc
    clear hc1
    have hk3 : (k : Int) < 256 := by omega
    simp only [List.take_succ_cons, List.take_zero, List.drop_succ_cons, List.drop_zero]
    iterate 2 still_step
    still_call (quiet_sym (HSl.out _))
    repeat still_step
    try refine wpStill_nil ?_
    go_wp2
    refine bodyPost_end (results_none rfl _ _ _) rfl ⟨rfl, ?_⟩
    have e := h2.putd k ((lrn q 0 : Int) - 2048) hk2
    rw [dc_upd] at e
    exact HS.val (by simp only [lrn, show ¬ (0 : Nat) = 1 by omega, if_false]; omega) e
  · go_enter Tryz.func225, Tryz.ntmps225
    go_upto_region 2 with (go_at_call 224; refine (HPr.out _ hc1).mono ?_; rintro e w1 ⟨rfl, m1, rfl⟩)
    have h2 := (HH.out.drewN m1).drew
    refine wp_region_still_tail 14 (by kernel_rfl) (by kernel_rfl) ?_
    rw [drew_eq (w.drewN m1)]
    generalize (w.drewN m1).drew = w2 at h2 ⊢
    have hf := h2.hfro k
    have hc : w2.cell? ⟨b, k, none⟩ = some (.int .i64 ((p k : Int) - 2048)) := h2.hd_d k hk2
    rw [hq] at hc
    clear hc1
    have hk3 : (k : Int) < 256 := by omega
    simp only [List.take_succ_cons, List.take_zero, List.drop_succ_cons, List.drop_zero]
    iterate 2 still_step
    still_call (quiet_sym (HSl.out _))
    repeat still_step
    try refine wpStill_nil ?_
    go_wp2
    refine bodyPost_end (results_none rfl _ _ _) rfl ⟨rfl, ?_⟩
    have e := h2.putd k ((lrn q 1 : Int) - 2048) hk2
    rw [dc_upd] at e
    exact HS.val (by simp only [lrn, if_true]; omega) e
theorem narrow_any (b lo hi lk m bit : Nat) (t : TypeId) (d : Nat → Int) (r : List Value) (w : World) (hb : bit ≤ 1) (h : HS W ((b, mob t d (.int .u32 lo :: .int .u32 lk :: r)) :: L) w) (hl : lk + hi = 4294967295) (hm : m < hi) :
    Calls Tryz.prog 222 #[.pointer (some ⟨b, 256, none⟩), .int .u32 m, .int .i64 bit] w fun e w' => e = .returned (.tuple #[]) ∧
      HS W ((b, mob t d (.int .u32 (if bit = 1 then lo else m + 1 : Nat) :: .int .u32 (4294967295 - (if bit = 1 then m else hi) : Nat) :: r)) :: L) w' := by
  have hbit : bit = 0 ∨ bit = 1 := by omega
  have hf0 := h.hfro 256
  have hf1 := h.hfro 257
  have hc0 : w.cell? ⟨b, 256, none⟩ = some (.int .u32 lo) := h.hd_r 0
  have hc1 : w.cell? ⟨b, 257, none⟩ = some (.int .u32 lk) := h.hd_r 1
  have hn := not_u32 (show m < 4294967296 by omega)
  have e0 : HS W ((b, mob t d (.int .u32 ((m : Int) + 1) :: .int .u32 lk :: r)) :: L) (w.setCell ⟨b, 256, none⟩ (.int .u32 ((m : Int) + 1))) := h.putr 0 _
  have e1 : HS W ((b, mob t d (.int .u32 lo :: .int .u32 ((4294967295 - m : Nat) : Int) :: r)) :: L) (w.setCell ⟨b, 257, none⟩ (.int .u32 ((4294967295 - m : Nat) : Int))) := h.putr 1 _
  have ek : 4294967295 - hi = lk := by omega
  have HH := Lib.hid h
  have E0 := Lib.hid e0
  have E1 := Lib.hid e1
  clear h hb e0 e1
  generalize hq : 4294967295 - m = q at *
  rcases hbit with rfl | rfl
  · go_enter Tryz.func222, Tryz.ntmps222
    go_wp2
    refine bodyPost_end (results_none rfl _ _ _) rfl ⟨rfl, ?_⟩
    exact E0.out
  · go_enter Tryz.func222, Tryz.ntmps222
    go_wp2
    refine bodyPost_end (results_none rfl _ _ _) rfl ⟨rfl, ?_⟩
    exact E1.out
end Go.Proofs.YtfncldaodbfakaaGreat.C

namespace Go.Proofs.YtfncldaodbfakaaGreat.C
open Go.RowKit
set_option maxRecDepth 100000
variable {W w w' : World} {L : List (Nat × Obj)}

/-- what the bounds in memory leave to shift -/
def mzr (b : Nat) (w : World) : Nat := match w.cell? ⟨b, 256, none⟩, w.cell? ⟨b, 257, none⟩ with
  | some (.int _ l), some (.int _ k) => (l + k).toNat
  | _, _ => 0
theorem mzr_of {b : Nat} {w : World} {l k : Nat} (h0 : w.cell? ⟨b, 256, none⟩ = some (.int .u32 l)) (h1 : w.cell? ⟨b, 257, none⟩ = some (.int .u32 k)) : mzr b w = l + k := by
  unfold mzr; rw [h0, h1]; show ((l : Int) + k).toNat = l + k; omega
theorem lack_shl {hi : Nat} (h : hi < 4294967296) : (4294967295 - hi) * 256 % 4294967296 = 4294967295 - (hi * 256 + 255) % 4294967296 := by omega
set_option maxHeartbeats 2000000 in
theorem shift_any (b fn : Nat) (cb : Array Value) (I : List UInt8 → Nat → Nat → World → Prop) (hE : ∀ args w, (callFunc fn args).run Tryz.prog w = .ok (.enter fn args) w)
    (hc : ∀ bs lo hi V, I bs lo hi V → V.cell? ⟨b, 256, none⟩ = some (.int .u32 lo) ∧ V.cell? ⟨b, 257, none⟩ = some (.int .u32 ((4294967295 - hi : Nat) : Int)) ∧ (∀ j, V.frozen? ⟨b, j, none⟩ = false))
    (hd : ∀ bs lo hi V n, I bs lo hi V → I bs lo hi (V.drewN n))
    (hcall : ∀ bs lo hi V, I bs lo hi V → bs.length ≤ 4 → lo / 16777216 = hi / 16777216 → lo ≤ hi → hi < 4294967296 → Calls Tryz.prog fn (#[.int .u8 ((lo / 16777216 : Nat) : Int)] ++ cb) ((V.setCell ⟨b, 256, none⟩ (.int .u32 ((lo * 256 % 4294967296 : Nat) : Int))).setCell ⟨b, 257, none⟩ (.int .u32 ((4294967295 - (hi * 256 + 255) % 4294967296 : Nat) : Int)))
      fun e w' => e = .returned (.tuple #[]) ∧ I (bs ++ [UInt8.ofNat (lo / 16777216)]) (lo * 256 % 4294967296) ((hi * 256 + 255) % 4294967296) w')
    (w : World) (lo0 hi0 : Nat) (h0 : I [] lo0 hi0 w) (hs : Sh 4 lo0 hi0) :
    Calls Tryz.prog 226 #[.pointer (some ⟨b, 256, none⟩), .func (.func fn) #[] cb] w fun e w' => e = .returned (.tuple #[]) ∧ I (shf 4 lo0 hi0).1 (shf 4 lo0 hi0).2.1 (shf 4 lo0 hi0).2.2 w' := by
  have HC := Lib.hid hc
  have HD := Lib.hid hd
  have HCALL := Lib.hid hcall
  have HS := Lib.hid hs
  have H0 := Lib.hid h0
  clear hc hd hcall hs h0
  go_enter Tryz.func226, Tryz.ntmps226
  go_wp2_with fail
  go_loopw [4] (fun _ wr => ∃ n lo hi bs, bs.length + n = 4 ∧ Hid (Sh n lo hi) ∧ Hid (shf 4 lo0 hi0 = (bs ++ (shf n lo hi).1, (shf n lo hi).2)) ∧ Hid (I bs lo hi wr)) (fun _ wr => mzr b wr)
  case atStart => exact ⟨4, lo0, hi0, [], rfl, HS, rfl, H0⟩
  case round =>
    obtain ⟨n, lo, hi, bs, hlen, HN, HEQ, HI⟩ := hrel
    have HL := Lib.hid hlen
    clear hlen
    obtain ⟨hc0, hc1, hf⟩ := HC.out _ _ _ _ HI.out
    have hle := HN.out.le
    have hlt := HN.out.hi
    have hmz := mzr_of hc0 hc1
    have hlk : ∃ lk, lk + hi = 4294967295 ∧ 4294967295 - hi = lk := ⟨4294967295 - hi, by omega, rfl⟩
    obtain ⟨lk, hlk1, hlk2⟩ := hlk
    rw [hlk2] at hc1
    have HH : Hid (∀ V, V.cell? ⟨b, 257, none⟩ = some (.int .u32 lk) → Calls Tryz.prog 238 #[.pointer (some ⟨b, 256, none⟩)] V fun e w' => e = .returned (.int .u32 hi) ∧ V = w') := fun V hV => high_any b lk hi V hV hlk1
    have HMZ := Lib.hid hmz
    have HK := Lib.hid hlk2
    clear hmz hlk2
    go_upto_region 0 with fail
    go_quiet (first | (go_at_call 238; exact quiet1 (HH.out _ hc1)))
    have HI2 := Lib.hid (HD.out _ _ _ _ nq HI.out)
    have hmz2 : mzr b (wr.drewN nq) = mzr b wr := rfl
    have HMZ2 := Lib.hid hmz2
    clear HI hmz2 hc0 hc1 hf HH
    generalize wr.drewN nq = V at HI2 HMZ2 ⊢
    obtain ⟨hc0, hc1, hf⟩ := HC.out _ _ _ _ HI2.out
    rw [HK.out] at hc1
    by_cases htop : lo / 16777216 = hi / 16777216
    · have ht : ((lo : Int) / 16777216 == (hi : Int) / 16777216) = true := by simp only [beq_iff_eq]; omega
      have HTOP := Lib.hid htop
      clear htop
      go_wp2_with fail
      have h := HCALL.out _ _ _ _ HI2.out (by have := HL.out; omega) HTOP.out hle hlt
      have hb := HTOP.out
      have e1 : ((lo / 16777216 : Nat) : Int) = (lo : Int) / 16777216 := by omega
      have e2 : ((lo * 256 % 4294967296 : Nat) : Int) = (lo : Int) * 256 % 4294967296 := by omega
      have e3 : ((4294967295 - (hi * 256 + 255) % 4294967296 : Nat) : Int) = (lk : Int) * 256 % 4294967296 := by omega
      rw [e1, e2, e3] at h
      clear e1 e2 e3 hb ht
      refine h.mono ?_
      clear h
      rintro e w' ⟨rfl, h4⟩
      have H4 := Lib.hid h4
      clear h4
      go_wp2_with fail
      go_roundw
      case rel =>
        obtain ⟨m, rfl⟩ := HN.out.pos HTOP.out
        refine ⟨m, lo * 256 % 4294967296, (hi * 256 + 255) % 4294967296, bs ++ [UInt8.ofNat (lo / 16777216)], by have := HL.out; rw [List.length_append]; simp only [List.length_cons, List.length_nil]; omega, HN.out.next HTOP.out, ?_, H4.out⟩
        show shf 4 lo0 hi0 = _
        rw [HEQ.out, shf_eq m HTOP.out, List.append_assoc]; rfl
      case measure =>
        obtain ⟨m, rfl⟩ := HN.out.pos HTOP.out
        obtain ⟨k0, k1, _⟩ := HC.out _ _ _ _ H4.out
        rw [mzr_of k0 k1, HMZ.out]
        have h5 := HN.out.grows HTOP.out
        have h6 := (HN.out.next HTOP.out).hi
        have h7 := (HN.out.next HTOP.out).le
        omega
    · have ht : ((lo : Int) / 16777216 == (hi : Int) / 16777216) = false := by simp only [beq_eq_false_iff_ne]; omega
      have HTOP := Lib.hid htop
      clear htop
      go_wp2_with fail
      refine bodyPost_end (results_none rfl _ _ _) rfl ⟨rfl, ?_⟩
      have h := HEQ.out
      rw [shf_ne n HTOP.out, List.append_nil] at h
      rw [h]
      exact HI2.out
end Go.Proofs.YtfncldaodbfakaaGreat.C

namespace Go.Proofs.YtfncldaodbfakaaGreat.C
open Go.RowKit
set_option maxRecDepth 100000
variable {W w w' : World} {L : List (Nat × Obj)}
section
variable {P : Program} {ops : Array Oper} {rest : List Oper} {o : Oper} {a : Act} {K : Act → World → Prop} {Q : Exit → Act → World → Prop}
theorem wp_load_of (ty : TypeId) (x : Operand) (ho : o.op = .load ty x) (v : Value)
    (hl : (Instr.loadAt ty (a.eval x)).run P w = .ok v w) (h : K (a.put o.dst v) w) : o.wp P a w K Q := by
  unfold Oper.wp execOp
  simp only [ho, Sem.run_bind, hl, Result.andThen_ok, Sem.run_pure]
  exact h
theorem wp_store_of (ty : TypeId) (x y : Operand) (ho : o.op = .store ty x y)
    (hl : (Instr.storeAt ty (a.eval x) (a.eval y)).run P w = .ok () w') (h : K (a.put o.dst undef) w') : o.wp P a w K Q := by
  unfold Oper.wp execOp
  simp only [ho, Sem.run_bind, hl, Result.andThen_ok, Sem.run_pure]
  exact h
theorem wp_sl1 {y : Int} (x : Operand) (ho : o.op = .buildSlice 84 1 #[(0, x)]) (hx : a.eval x = .int .u8 y) (h : K (a.put o.dst (.slice (some ⟨w.heap.size, 0, none⟩) 1 1)) (w.alloc (.cells #[.int .u8 y] 5))) : o.wp Tryz.prog a w K Q := by
  obtain ⟨i0, hi, hz0, hz1, hz2⟩ := info_parts infoB
  refine wp_buildSlice 84 5 1 _ ho #[.int .u8 y] i0 (.int .u8 0) Tryz.underlying84 hi hz0 (by rw [hz1]; omega) (by rw [hz1]; omega) ?_ h
  simp only [List.map_toArray, List.map_cons, List.map_nil, hx, hz1]
  first | kernel_rfl | (simp [Instr.fill]; done)
end
theorem isAggSl (w : World) : (isAgg 84).run Tryz.prog w = .ok false w := by kernel_rfl
theorem sizeSl (w : World) : (sizeOf 84).run Tryz.prog w = .ok 1 w := by kernel_rfl
theorem load_sl {g j : Nat} {v : Value} (h : w.cell? ⟨g, j, none⟩ = some v) : (Instr.loadAt 84 (.pointer (some ⟨g, j, none⟩))).run Tryz.prog w = .ok v w := by
  simp only [Instr.loadAt, Instr.sureAddr, Sem.run_bind, Sem.run_pure, Result.andThen_ok, loadVar, isAggSl, Bool.false_eq_true, if_false]
  have hr := run_load (P := Tryz.prog) (w := w) ⟨g, j, none⟩ .plain
  rw [h] at hr
  exact hr
theorem store_sl {g j : Nat} {v u : Value} (h : w.cell? ⟨g, j, none⟩ = some u) (hf : w.frozen? ⟨g, j, none⟩ = false) (hv : v.oneCell' = true) : (Instr.storeAt 84 (.pointer (some ⟨g, j, none⟩)) v).run Tryz.prog w = .ok () (w.setCell ⟨g, j, none⟩ v) := by
  simp only [Instr.storeAt, Instr.sureAddr, Sem.run_bind, Sem.run_pure, Result.andThen_ok, storeVar]
  have hc : v.cells = #[v] := by cases v <;> first | rfl | cases hv
  have ha : (⟨g, j, none⟩ : Addr).add 0 = ⟨g, j, none⟩ := by unfold Addr.add; split <;> simp_all
  have hr := run_store Tryz.prog w ⟨g, j, none⟩ v .plain hv
  rw [h] at hr
  simp only [hf, Bool.false_eq_true, if_false] at hr
  simp [hc, storeCells, ha]
  exact hr
theorem SL.one {v : Value} {bs : List UInt8} {l : List (Nat × Obj)} (h : SL v bs l) : v.oneCell' = true := by
  rcases h with ⟨rfl, _⟩ | ⟨g, cap, cur, rfl, _⟩ <;> rfl
theorem HS.in2 {l R : List (Nat × Obj)} {x y : Nat × Obj} (h : HS W (x :: y :: (l ++ R)) w) : HS W (l ++ x :: y :: R) w :=
  h.perm (List.perm_middle.trans (List.Perm.cons _ List.perm_middle))
theorem HS.out2 {l R : List (Nat × Obj)} {x y : Nat × Obj} (h : HS W (l ++ x :: y :: R) w) : HS W (y :: (l ++ R)) w :=
  (h.perm (L' := x :: y :: (l ++ R)) ((List.perm_middle.trans (List.Perm.cons _ List.perm_middle)).symm)).tl
theorem HS.swap {R : List (Nat × Obj)} {x y : Nat × Obj} (h : HS W (x :: y :: R) w) : HS W (y :: x :: R) w := h.perm (List.Perm.swap ..)
/-- a variable that holds a pointer to a writer or a reader -/
abbrev bxo (t : TypeId) (b : Nat) : Obj := .cells #[.pointer (some ⟨b, 0, none⟩)] t
theorem HS.bx {q b : Nat} {t : TypeId} (h : HS W L w) (hm : (q, bxo t b) ∈ L) : w.cell? ⟨q, 0, none⟩ = some (.pointer (some ⟨b, 0, none⟩)) := h.cell hm 0
end Go.Proofs.YtfncldaodbfakaaGreat.C
