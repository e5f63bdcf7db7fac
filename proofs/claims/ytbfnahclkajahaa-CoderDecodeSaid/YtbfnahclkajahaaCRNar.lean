/-
  The reference's mid and narrow (contracts).
-/
import Derived.Test.YtbfnahclkajahaaCRow
namespace Go.Proofs.Ytbfnahclkajahaa.C
open Go.RowKit Go.Shelf
set_option maxRecDepth 100000
variable {W w w' : World} {L : List (Nat × Obj)}

set_option maxHeartbeats 1000000 in
theorem rmid_any {b : Nat} {t : TypeId} {r : List Value} (c : Cd) (n : Int) (ok : Ok c) (h : HS W ((b, mob t (pcs c.p) (cr c r)) :: L) w) :
    Calls Try.prog 45 #[.pointer (some ⟨b, 0, none⟩), .int .i64 n] w fun e w' => e = .returned (.int .u32 (mid c (ctx n) : Int)) ∧ ∃ m, w' = w.drewN m := by
  have hc0 : w.cell? ⟨b, 256, none⟩ = some (.int .u32 (c.lo : Int)) := h.hd_r 0
  have hc1 : w.cell? ⟨b, 257, none⟩ = some (.int .u32 (c.hi : Int)) := h.hd_r 1
  have hk := ctx_lt n
  have hk2 : ((ctx n : Nat) : Int) < 256 := by omega
  have hcp : w.cell? ⟨b, ctx n, none⟩ = some (.int .i64 (c.p (ctx n) : Int)) := h.hd_d (ctx n) hk
  have ha := and255 n
  have hle := Nat.le_of_lt ok.lt
  have hhi := ok.hi
  have hp := (ok.pr (ctx n)).2
  have hm : (c.hi - c.lo) / 4096 * c.p (ctx n) ≤ c.hi - c.lo := Nat.le_trans (Nat.mul_le_mul_left _ (Nat.le_trans hp (by omega))) (Nat.div_mul_le_self ..)
  have HM := Lib.hid hm
  rw [show mid c (ctx n) = c.lo + (c.hi - c.lo) / 4096 * c.p (ctx n) from rfl]
  clear hm h ok
  generalize c.p (ctx n) = p at *
  generalize ctx n = k at *
  generalize c.lo = lo at *
  generalize c.hi = hi at *
  go_enter Try.func45, Try.ntmps45
  go_upto_region 1 with fail
  go_quiet (fail)
  go_wp2
  go_ret
  refine ⟨ret_int ?_, nq, rfl⟩
  have h := HM.out
  have e : (((hi - lo) / 4096 * p : Nat) : Int) = ((hi : Int) - lo) / 4096 * p := by rw [Int.natCast_mul, Int.natCast_ediv, Int.natCast_sub hle]; rfl
  rw [← e]
  generalize (hi - lo) / 4096 * p = q at h
  omega
/-- what the bounds in memory leave to shift, as the reference keeps them -/
def mzh (b : Nat) (w : World) : Nat := match w.cell? ⟨b, 256, none⟩, w.cell? ⟨b, 257, none⟩ with
  | some (.int _ l), some (.int _ k) => (4294967296 - (k - l)).toNat
  | _, _ => 0
theorem mzh_of {b : Nat} {w : World} {l k : Nat} (h0 : w.cell? ⟨b, 256, none⟩ = some (.int .u32 l)) (h1 : w.cell? ⟨b, 257, none⟩ = some (.int .u32 k)) (hle : l ≤ k) (hk : k < 4294967296) : mzh b w = 4294967296 - (k - l) := by
  unfold mzh; rw [h0, h1]; show ((4294967296 : Int) - (k - l)).toNat = _; omega
/-- the reference's bounds stored anew -/
def cb (lo hi : Nat) (r : List Value) : List Value := .int .u32 (lo : Int) :: .int .u32 (hi : Int) :: r
set_option maxHeartbeats 4000000 in
theorem rnarrow_any {b : Nat} {t : TypeId} {r : List Value} (c : Cd) (n m : Int) (ok : Ok c) (h : HS W ((b, mob t (pcs c.p) (cr c r)) :: L) w) :
    Calls Try.prog 40 #[.pointer (some ⟨b, 0, none⟩), .int .i64 n, .int .i64 m] w fun e w' => ∃ v l, e = .returned v ∧ SL v (out c (ctx n) (bitn m)) l ∧
      HS W (l ++ (b, mob t (pcs (stp c (ctx n) (bitn m)).p) (cr (stp c (ctx n) (bitn m)) r)) :: L) w' := by
  have hk := ctx_lt n
  have hk2 : ((ctx n : Nat) : Int) < 256 := by omega
  have ha := and255 n
  have hb := and1 m
  have hp := ok.pr (ctx n)
  have hmb := mid_btw ok (ctx n)
  have hhi := ok.hi
  have hcp : ∀ q, (w.drewN q).cell? ⟨b, ctx n, none⟩ = some (.int .i64 (c.p (ctx n) : Int)) := fun q => (h.drewN q).hd_d (ctx n) hk
  have HMID := Lib.hid (rmid_any c n ok h)
  have HS0 := Lib.hid h
  have HSH := Lib.hid (nar_sh ok (ctx n) (bitn m))
  have HOUT : Hid (out c (ctx n) (bitn m) = (shf 4 (nl c (ctx n) (bitn m)) (nh c (ctx n) (bitn m))).1) := Lib.hid rfl
  have HSTP : Hid (∀ r, mob t (pcs (stp c (ctx n) (bitn m)).p) (cr (stp c (ctx n) (bitn m)) r) = mob t (pcs (upd c.p (ctx n) (lrn (c.p (ctx n)) (bitn m)))) (cb (shf 4 (nl c (ctx n) (bitn m)) (nh c (ctx n) (bitn m))).2.1 (shf 4 (nl c (ctx n) (bitn m)) (nh c (ctx n) (bitn m))).2.2 r)) := Lib.hid fun _ => rfl
  have hbit := bitn_lt m
  have hbit2 : bitn m = 0 ∨ bitn m = 1 := by omega
  clear h
  rcases hbit2 with hb0 | hb0
  · rw [hb0] at HSH HOUT HSTP hb ⊢
    go_enter Try.func40, Try.ntmps40
    go_upto_region 3 with (go_at_call 45; refine HMID.out.mono ?_; rintro e w1 ⟨rfl, m1, rfl⟩; have hcp1 := hcp m1)
    have hf := (HS0.out.drewN m1).hfro 256
    have hcs : ∃ u, (w.drewN m1).cell? ⟨b, 256, none⟩ = some u := ⟨_, (HS0.out.drewN m1).hd_r 0⟩
    obtain ⟨u, hcs⟩ := hcs
    have H1 : Hid (HS W ((b, mob t (pcs c.p) (Value.int .u32 ((mid c (ctx n) : Int) + 1) :: Value.int .u32 (c.hi : Int) :: r)) :: L) ((w.drewN m1).setCell ⟨b, 256, none⟩ (.int .u32 ((mid c (ctx n) : Int) + 1)))) := (HS0.out.drewN m1).putr 0 (.int .u32 ((mid c (ctx n) : Int) + 1))
    go_upto_region 8 with fail
    clear hf hcs hcp1
    generalize (w.drewN m1).setCell ⟨b, 256, none⟩ (.int .u32 ((mid c (ctx n) : Int) + 1)) = w2 at H1 ⊢
    have hcp2 := H1.out.hd_d (ctx n) hk
    have hf := H1.out.hfro (ctx n)
    have H2 := Lib.hid (H1.out.putd (ctx n) ((c.p (ctx n) : Int) - (c.p (ctx n) : Int) / 32) hk)
    go_upto_region 9 with fail
    clear hf hcp2 H1
    generalize w2.setCell ⟨b, ctx n, none⟩ (.int .i64 ((c.p (ctx n) : Int) - (c.p (ctx n) : Int) / 32)) = w3 at H2 ⊢
    have H3 : Hid (HS W ((b, mob t (pcs (upd c.p (ctx n) (lrn (c.p (ctx n)) 0))) (cb (nl c (ctx n) 0) (nh c (ctx n) 0) r)) :: L) w3) := by
      have h := H2.out
      rw [show (c.p (ctx n) : Int) - (c.p (ctx n) : Int) / 32 = ((lrn (c.p (ctx n)) 0 : Nat) : Int) by (simp only [lrn, show ¬ (0 : Nat) = 1 by omega, if_false]; omega), pcs_upd] at h
      exact h
    clear H2 hcp
    go_wp2_with (refine wpList_sl0 rfl rfl H3.out ?_; intro k1 k2)
    have K1 := Lib.hid k1
    have K2 := Lib.hid k2
    clear k1 k2
    generalize upd c.p (ctx n) (lrn (c.p (ctx n)) 0) = pp at *
    generalize nl c (ctx n) 0 = lo0 at *
    generalize nh c (ctx n) 0 = hi0 at *
    go_loopw [9] (fun x V => ∃ f lo hi bs l, bs.length + f = 4 ∧ Hid (Sh f lo hi) ∧ Hid (shf 4 lo0 hi0 = (bs ++ (shf f lo hi).1, (shf f lo hi).2)) ∧ Hid (SL x bs l ∧ HS W (l ++ (b, mob t (pcs pp) (cb lo hi r)) :: L) V)) (fun _ V => mzh b V)
    case atStart => exact ⟨4, lo0, hi0, [], _, rfl, HSH, rfl, Lib.hid ⟨K1.out, K2.out⟩⟩
    case round =>
      obtain ⟨f, lo, hi, bs, l, hlen, HN, HEQ, HI⟩ := hrel
      have HL := Lib.hid hlen
      have hle := HN.out.le
      have hlt := HN.out.hi
      have hI := HI.out.2.mid
      have hc0 : wr.cell? ⟨b, 256, none⟩ = some (.int .u32 (lo : Int)) := hI.hd_r 0
      have hc1 : wr.cell? ⟨b, 257, none⟩ = some (.int .u32 (hi : Int)) := hI.hd_r 1
      have HMZ := Lib.hid (mzh_of hc0 hc1 hle hlt)
      clear hlen K1 K2 hI
      go_upto_region 10 with fail
      go_quiet (fail)
      have HI2 : Hid (HS W ((b, mob t (pcs pp) (cb lo hi r)) :: (l ++ L)) (wr.drewN nq)) := HI.out.2.mid.drewN nq
      have HSLx := Lib.hid HI.out.1
      have hmz2 : mzh b (wr.drewN nq) = mzh b wr := rfl
      have HMZ2 := Lib.hid hmz2
      clear HI hmz2 hc0 hc1
      generalize wr.drewN nq = V at HI2 HMZ2 ⊢
      have hc0 : V.cell? ⟨b, 256, none⟩ = some (.int .u32 (lo : Int)) := HI2.out.hd_r 0
      by_cases htop : lo / 16777216 = hi / 16777216
      · have ht : ((lo : Int) / 16777216 == (hi : Int) / 16777216) = true := by simp only [beq_iff_eq]; omega
        have hu := u8_of (lo / 16777216)
        have HTOP := Lib.hid htop
        have HU := Lib.hid hu
        clear htop hu
        go_upto_region 12 with (first
          | (refine wpList_app rfl (.tmp 60) (.tmp 67) rfl _ _ _ [UInt8.ofNat (lo / 16777216)] l rfl rfl HSLx.out ((HI2.out.alloc _).in2) (Src.one' _ _ (by have := HU.out; omega) (heap_alloc_new _ _)) (by have := HL.out; simp only [List.length_cons, List.length_nil]; omega) ?_; intro v4 w4 l4 k4 k5; have K4 := Lib.hid k4; have k6 := k5.out2; have K6 := Lib.hid k6; clear k4 k5 k6))
        have hc0 : w4.cell? ⟨b, 256, none⟩ = some (.int .u32 (lo : Int)) := K6.out.hd_r 0
        have hf := K6.out.hfro 256
        have H7 : Hid (HS W ((b, mob t (pcs pp) (Value.int .u32 ((lo : Int) * 256 % 4294967296) :: Value.int .u32 (hi : Int) :: r)) :: (l4 ++ L)) (w4.setCell ⟨b, 256, none⟩ (.int .u32 ((lo : Int) * 256 % 4294967296)))) := K6.out.putr 0 _
        go_upto_region 13 with fail
        clear hf hc0 K6
        generalize w4.setCell ⟨b, 256, none⟩ (.int .u32 ((lo : Int) * 256 % 4294967296)) = w5 at H7 ⊢
        have hc1 : w5.cell? ⟨b, 257, none⟩ = some (.int .u32 (hi : Int)) := H7.out.hd_r 1
        have hf := H7.out.hfro 257
        have e2 : ((lo * 256 % 4294967296 : Nat) : Int) = (lo : Int) * 256 % 4294967296 := by omega
        have e3 : (((hi * 256 + 255) % 4294967296 : Nat) : Int) = (hi : Int) * 256 % 4294967296 + 255 := by omega
        have H8 : Hid (HS W ((b, mob t (pcs pp) (cb (lo * 256 % 4294967296) ((hi * 256 + 255) % 4294967296) r)) :: (l4 ++ L)) (w5.setCell ⟨b, 257, none⟩ (.int .u32 ((hi : Int) * 256 % 4294967296 + 255)))) := by
          have h := H7.out.putr 1 (.int .u32 ((hi : Int) * 256 % 4294967296 + 255))
          unfold cb
          rw [e2, e3]
          exact h
        clear e2 e3
        have hh : ((hi : Int) * 256 % 4294967296 + 255) < 4294967296 := by omega
        go_wp2_with fail
        clear hf hc1 H7 ht
        go_roundw
        case rel =>
          obtain ⟨g, rfl⟩ := HN.out.pos HTOP.out
          have h8 := H8.out
          refine ⟨g, lo * 256 % 4294967296, (hi * 256 + 255) % 4294967296, bs ++ [UInt8.ofNat (lo / 16777216)], l4, by have := HL.out; rw [List.length_append]; simp only [List.length_cons, List.length_nil]; omega, HN.out.next HTOP.out, ?_, Lib.hid ⟨K4.out, ?_⟩⟩
          · show shf 4 lo0 hi0 = _
            rw [HEQ.out, shf_eq g HTOP.out, List.append_assoc]; rfl
          · exact h8.unmid
        case measure =>
          obtain ⟨g, rfl⟩ := HN.out.pos HTOP.out
          have h5 := HN.out.grows HTOP.out
          have h6 := (HN.out.next HTOP.out).hi
          have h7 := (HN.out.next HTOP.out).le
          have h8 := H8.out
          rw [mzh_of (h8.hd_r 0) (h8.hd_r 1) h7 h6, HMZ.out]
          omega
      · have ht : ((lo : Int) / 16777216 == (hi : Int) / 16777216) = false := by simp only [beq_eq_false_iff_ne]; omega
        have HTOP := Lib.hid htop
        clear htop
        go_wp2_with fail
        go_ret
        have h := HEQ.out
        rw [shf_ne f HTOP.out, List.append_nil] at h
        refine ⟨_, l, rfl, ?_, ?_⟩
        · rw [HOUT.out, h]; exact HSLx.out
        · rw [HSTP.out, h]; exact HI2.out.unmid
  · rw [hb0] at HSH HOUT HSTP hb ⊢
    go_enter Try.func40, Try.ntmps40
    go_upto_region 3 with (go_at_call 45; refine HMID.out.mono ?_; rintro e w1 ⟨rfl, m1, rfl⟩; have hcp1 := hcp m1)
    have hf := (HS0.out.drewN m1).hfro 257
    have hcs : ∃ u, (w.drewN m1).cell? ⟨b, 257, none⟩ = some u := ⟨_, (HS0.out.drewN m1).hd_r 1⟩
    obtain ⟨u, hcs⟩ := hcs
    have H1 : Hid (HS W ((b, mob t (pcs c.p) (Value.int .u32 (c.lo : Int) :: Value.int .u32 (mid c (ctx n) : Int) :: r)) :: L) ((w.drewN m1).setCell ⟨b, 257, none⟩ (.int .u32 (mid c (ctx n) : Int)))) := (HS0.out.drewN m1).putr 1 (.int .u32 (mid c (ctx n) : Int))
    go_upto_region 8 with fail
    clear hf hcs hcp1
    generalize (w.drewN m1).setCell ⟨b, 257, none⟩ (.int .u32 (mid c (ctx n) : Int)) = w2 at H1 ⊢
    have hcp2 := H1.out.hd_d (ctx n) hk
    have hf := H1.out.hfro (ctx n)
    have H2 := Lib.hid (H1.out.putd (ctx n) ((c.p (ctx n) : Int) + (4096 - (c.p (ctx n) : Int)) / 32) hk)
    go_upto_region 9 with fail
    clear hf hcp2 H1
    generalize w2.setCell ⟨b, ctx n, none⟩ (.int .i64 ((c.p (ctx n) : Int) + (4096 - (c.p (ctx n) : Int)) / 32)) = w3 at H2 ⊢
    have H3 : Hid (HS W ((b, mob t (pcs (upd c.p (ctx n) (lrn (c.p (ctx n)) 1))) (cb (nl c (ctx n) 1) (nh c (ctx n) 1) r)) :: L) w3) := by
      have h := H2.out
      rw [show (c.p (ctx n) : Int) + (4096 - (c.p (ctx n) : Int)) / 32 = ((lrn (c.p (ctx n)) 1 : Nat) : Int) by (simp only [lrn, if_true]; omega), pcs_upd] at h
      exact h
    clear H2 hcp
    go_wp2_with (refine wpList_sl0 rfl rfl H3.out ?_; intro k1 k2)
    have K1 := Lib.hid k1
    have K2 := Lib.hid k2
    clear k1 k2
    generalize upd c.p (ctx n) (lrn (c.p (ctx n)) 1) = pp at *
    generalize nl c (ctx n) 1 = lo0 at *
    generalize nh c (ctx n) 1 = hi0 at *
    go_loopw [9] (fun x V => ∃ f lo hi bs l, bs.length + f = 4 ∧ Hid (Sh f lo hi) ∧ Hid (shf 4 lo0 hi0 = (bs ++ (shf f lo hi).1, (shf f lo hi).2)) ∧ Hid (SL x bs l ∧ HS W (l ++ (b, mob t (pcs pp) (cb lo hi r)) :: L) V)) (fun _ V => mzh b V)
    case atStart => exact ⟨4, lo0, hi0, [], _, rfl, HSH, rfl, Lib.hid ⟨K1.out, K2.out⟩⟩
    case round =>
      obtain ⟨f, lo, hi, bs, l, hlen, HN, HEQ, HI⟩ := hrel
      have HL := Lib.hid hlen
      have hle := HN.out.le
      have hlt := HN.out.hi
      have hI := HI.out.2.mid
      have hc0 : wr.cell? ⟨b, 256, none⟩ = some (.int .u32 (lo : Int)) := hI.hd_r 0
      have hc1 : wr.cell? ⟨b, 257, none⟩ = some (.int .u32 (hi : Int)) := hI.hd_r 1
      have HMZ := Lib.hid (mzh_of hc0 hc1 hle hlt)
      clear hlen K1 K2 hI
      go_upto_region 10 with fail
      go_quiet (fail)
      have HI2 : Hid (HS W ((b, mob t (pcs pp) (cb lo hi r)) :: (l ++ L)) (wr.drewN nq)) := HI.out.2.mid.drewN nq
      have HSLx := Lib.hid HI.out.1
      have hmz2 : mzh b (wr.drewN nq) = mzh b wr := rfl
      have HMZ2 := Lib.hid hmz2
      clear HI hmz2 hc0 hc1
      generalize wr.drewN nq = V at HI2 HMZ2 ⊢
      have hc0 : V.cell? ⟨b, 256, none⟩ = some (.int .u32 (lo : Int)) := HI2.out.hd_r 0
      by_cases htop : lo / 16777216 = hi / 16777216
      · have ht : ((lo : Int) / 16777216 == (hi : Int) / 16777216) = true := by simp only [beq_iff_eq]; omega
        have hu := u8_of (lo / 16777216)
        have HTOP := Lib.hid htop
        have HU := Lib.hid hu
        clear htop hu
        go_upto_region 12 with (first
          | (refine wpList_app rfl (.tmp 60) (.tmp 67) rfl _ _ _ [UInt8.ofNat (lo / 16777216)] l rfl rfl HSLx.out ((HI2.out.alloc _).in2) (Src.one' _ _ (by have := HU.out; omega) (heap_alloc_new _ _)) (by have := HL.out; simp only [List.length_cons, List.length_nil]; omega) ?_; intro v4 w4 l4 k4 k5; have K4 := Lib.hid k4; have k6 := k5.out2; have K6 := Lib.hid k6; clear k4 k5 k6))
        have hc0 : w4.cell? ⟨b, 256, none⟩ = some (.int .u32 (lo : Int)) := K6.out.hd_r 0
        have hf := K6.out.hfro 256
        have H7 : Hid (HS W ((b, mob t (pcs pp) (Value.int .u32 ((lo : Int) * 256 % 4294967296) :: Value.int .u32 (hi : Int) :: r)) :: (l4 ++ L)) (w4.setCell ⟨b, 256, none⟩ (.int .u32 ((lo : Int) * 256 % 4294967296)))) := K6.out.putr 0 _
        go_upto_region 13 with fail
        clear hf hc0 K6
        generalize w4.setCell ⟨b, 256, none⟩ (.int .u32 ((lo : Int) * 256 % 4294967296)) = w5 at H7 ⊢
        have hc1 : w5.cell? ⟨b, 257, none⟩ = some (.int .u32 (hi : Int)) := H7.out.hd_r 1
        have hf := H7.out.hfro 257
        have e2 : ((lo * 256 % 4294967296 : Nat) : Int) = (lo : Int) * 256 % 4294967296 := by omega
        have e3 : (((hi * 256 + 255) % 4294967296 : Nat) : Int) = (hi : Int) * 256 % 4294967296 + 255 := by omega
        have H8 : Hid (HS W ((b, mob t (pcs pp) (cb (lo * 256 % 4294967296) ((hi * 256 + 255) % 4294967296) r)) :: (l4 ++ L)) (w5.setCell ⟨b, 257, none⟩ (.int .u32 ((hi : Int) * 256 % 4294967296 + 255)))) := by
          have h := H7.out.putr 1 (.int .u32 ((hi : Int) * 256 % 4294967296 + 255))
          unfold cb
          rw [e2, e3]
          exact h
        clear e2 e3
        have hh : ((hi : Int) * 256 % 4294967296 + 255) < 4294967296 := by omega
        go_wp2_with fail
        clear hf hc1 H7 ht
        go_roundw
        case rel =>
          obtain ⟨g, rfl⟩ := HN.out.pos HTOP.out
          have h8 := H8.out
          refine ⟨g, lo * 256 % 4294967296, (hi * 256 + 255) % 4294967296, bs ++ [UInt8.ofNat (lo / 16777216)], l4, by have := HL.out; rw [List.length_append]; simp only [List.length_cons, List.length_nil]; omega, HN.out.next HTOP.out, ?_, Lib.hid ⟨K4.out, ?_⟩⟩
          · show shf 4 lo0 hi0 = _
            rw [HEQ.out, shf_eq g HTOP.out, List.append_assoc]; rfl
          · exact h8.unmid
        case measure =>
          obtain ⟨g, rfl⟩ := HN.out.pos HTOP.out
          have h5 := HN.out.grows HTOP.out
          have h6 := (HN.out.next HTOP.out).hi
          have h7 := (HN.out.next HTOP.out).le
          have h8 := H8.out
          rw [mzh_of (h8.hd_r 0) (h8.hd_r 1) h7 h6, HMZ.out]
          omega
      · have ht : ((lo : Int) / 16777216 == (hi : Int) / 16777216) = false := by simp only [beq_eq_false_iff_ne]; omega
        have HTOP := Lib.hid htop
        clear htop
        go_wp2_with fail
        go_ret
        have h := HEQ.out
        rw [shf_ne f HTOP.out, List.append_nil] at h
        refine ⟨_, l, rfl, ?_, ?_⟩
        · rw [HOUT.out, h]; exact HSLx.out
        · rw [HSTP.out, h]; exact HI2.out.unmid
end Go.Proofs.Ytbfnahclkajahaa.C
