/-
  The interval's shifts, each byte handed to a closure (contract of shift for any closure).
-/
import Derived.Test.YtbfnahclkajahaaCNum
namespace Go.Proofs.Ytbfnahclkajahaa.C
open Go.RowKit
set_option maxRecDepth 100000
variable {W w w' : World} {L : List (Nat × Obj)}

/-- what the bounds in memory leave to shift -/
def mzr (b : Nat) (w : World) : Nat := match w.cell? ⟨b, 256, none⟩, w.cell? ⟨b, 257, none⟩ with
  | some (.int _ l), some (.int _ k) => (l + k).toNat
  | _, _ => 0
theorem mzr_of {b : Nat} {w : World} {l k : Nat} (h0 : w.cell? ⟨b, 256, none⟩ = some (.int .u32 l)) (h1 : w.cell? ⟨b, 257, none⟩ = some (.int .u32 k)) : mzr b w = l + k := by
  unfold mzr; rw [h0, h1]; show ((l : Int) + k).toNat = l + k; omega
theorem lack_shl {hi : Nat} (h : hi < 4294967296) : (4294967295 - hi) * 256 % 4294967296 = 4294967295 - (hi * 256 + 255) % 4294967296 := by omega
set_option maxHeartbeats 2000000 in
theorem shift_any (b fn : Nat) (cb : Array Value) (I : List UInt8 → Nat → Nat → World → Prop) (hE : ∀ args w, (callFunc fn args).run Try.prog w = .ok (.enter fn args) w)
    (hc : ∀ bs lo hi V, I bs lo hi V → V.cell? ⟨b, 256, none⟩ = some (.int .u32 lo) ∧ V.cell? ⟨b, 257, none⟩ = some (.int .u32 ((4294967295 - hi : Nat) : Int)) ∧ (∀ j, V.frozen? ⟨b, j, none⟩ = false))
    (hd : ∀ bs lo hi V n, I bs lo hi V → I bs lo hi (V.drewN n))
    (hcall : ∀ bs lo hi V, I bs lo hi V → bs.length ≤ 4 → lo / 16777216 = hi / 16777216 → lo ≤ hi → hi < 4294967296 → Calls Try.prog fn (#[.int .u8 ((lo / 16777216 : Nat) : Int)] ++ cb) ((V.setCell ⟨b, 256, none⟩ (.int .u32 ((lo * 256 % 4294967296 : Nat) : Int))).setCell ⟨b, 257, none⟩ (.int .u32 ((4294967295 - (hi * 256 + 255) % 4294967296 : Nat) : Int)))
      fun e w' => e = .returned (.tuple #[]) ∧ I (bs ++ [UInt8.ofNat (lo / 16777216)]) (lo * 256 % 4294967296) ((hi * 256 + 255) % 4294967296) w')
    (w : World) (lo0 hi0 : Nat) (h0 : I [] lo0 hi0 w) (hs : Sh 4 lo0 hi0) :
    Calls Try.prog 38 #[.pointer (some ⟨b, 256, none⟩), .func (.func fn) #[] cb] w fun e w' => e = .returned (.tuple #[]) ∧ I (shf 4 lo0 hi0).1 (shf 4 lo0 hi0).2.1 (shf 4 lo0 hi0).2.2 w' := by
  have HC := Lib.hid hc
  have HD := Lib.hid hd
  have HCALL := Lib.hid hcall
  have HS := Lib.hid hs
  have H0 := Lib.hid h0
  clear hc hd hcall hs h0
  go_enter Try.func38, Try.ntmps38
  go_wp2_with fail
  go_loopw [4] (fun _ wr => ∃ n lo hi bs, bs.length + n = 4 ∧ Hid (Sh n lo hi) ∧ Hid (shf 4 lo0 hi0 = (bs ++ (shf n lo hi).1, (shf n lo hi).2)) ∧ Hid (I bs lo hi wr)) (fun _ wr => mzr b wr)
  case atStart => exact ⟨4, lo0, hi0, [], rfl, HS, rfl, H0⟩
  case round =>
    obtain ⟨n, lo, hi, bs, hlen, HN, HEQ, HI⟩ := hrel
    have HL := Lib.hid hlen
    clear hlen
    obtain ⟨hc0, hc1, hf⟩ := HC.out _ _ _ _ HI.out
    have hle := HN.out.le
    have hlt := HN.out.hi
    have hmz := mzr_of hc0 hc1
    have hlk : ∃ lk, lk + hi = 4294967295 ∧ 4294967295 - hi = lk := ⟨4294967295 - hi, by omega, rfl⟩
    obtain ⟨lk, hlk1, hlk2⟩ := hlk
    rw [hlk2] at hc1
    have HH : Hid (∀ V, V.cell? ⟨b, 257, none⟩ = some (.int .u32 lk) → Calls Try.prog 47 #[.pointer (some ⟨b, 256, none⟩)] V fun e w' => e = .returned (.int .u32 hi) ∧ V = w') := fun V hV => high_any b lk hi V hV hlk1
    have HMZ := Lib.hid hmz
    have HK := Lib.hid hlk2
    clear hmz hlk2
    go_upto_region 0 with fail
    go_quiet (first | (go_at_call 47; exact quiet1 (HH.out _ hc1)))
    have HI2 := Lib.hid (HD.out _ _ _ _ nq HI.out)
    have hmz2 : mzr b (wr.drewN nq) = mzr b wr := rfl
    have HMZ2 := Lib.hid hmz2
    clear HI hmz2 hc0 hc1 hf HH
    generalize wr.drewN nq = V at HI2 HMZ2 ⊢
    obtain ⟨hc0, hc1, hf⟩ := HC.out _ _ _ _ HI2.out
    rw [HK.out] at hc1
    by_cases htop : lo / 16777216 = hi / 16777216
    · have ht : ((lo : Int) / 16777216 == (hi : Int) / 16777216) = true := by simp only [beq_iff_eq]; omega
      have HTOP := Lib.hid htop
      clear htop
      go_wp2_with fail
      have h := HCALL.out _ _ _ _ HI2.out (by have := HL.out; omega) HTOP.out hle hlt
      have hb := HTOP.out
      have e1 : ((lo / 16777216 : Nat) : Int) = (lo : Int) / 16777216 := by omega
      have e2 : ((lo * 256 % 4294967296 : Nat) : Int) = (lo : Int) * 256 % 4294967296 := by omega
      have e3 : ((4294967295 - (hi * 256 + 255) % 4294967296 : Nat) : Int) = (lk : Int) * 256 % 4294967296 := by omega
      rw [e1, e2, e3] at h
      clear e1 e2 e3 hb ht
      refine h.mono ?_
      clear h
      rintro e w' ⟨rfl, h4⟩
      have H4 := Lib.hid h4
      clear h4
      go_wp2_with fail
      go_roundw
      case rel =>
        obtain ⟨m, rfl⟩ := HN.out.pos HTOP.out
        refine ⟨m, lo * 256 % 4294967296, (hi * 256 + 255) % 4294967296, bs ++ [UInt8.ofNat (lo / 16777216)], by have := HL.out; rw [List.length_append]; simp only [List.length_cons, List.length_nil]; omega, HN.out.next HTOP.out, ?_, H4.out⟩
        show shf 4 lo0 hi0 = _
        rw [HEQ.out, shf_eq m HTOP.out, List.append_assoc]; rfl
      case measure =>
        obtain ⟨m, rfl⟩ := HN.out.pos HTOP.out
        obtain ⟨k0, k1, _⟩ := HC.out _ _ _ _ H4.out
        rw [mzr_of k0 k1, HMZ.out]
        have h5 := HN.out.grows HTOP.out
        have h6 := (HN.out.next HTOP.out).hi
        have h7 := (HN.out.next HTOP.out).le
        omega
    · have ht : ((lo : Int) / 16777216 == (hi : Int) / 16777216) = false := by simp only [beq_eq_false_iff_ne]; omega
      have HTOP := Lib.hid htop
      clear htop
      go_wp2_with fail
      refine bodyPost_end (results_none rfl _ _ _) rfl ⟨rfl, ?_⟩
      have h := HEQ.out
      rw [shf_ne n HTOP.out, List.append_nil] at h
      rw [h]
      exact HI2.out
end Go.Proofs.Ytbfnahclkajahaa.C
