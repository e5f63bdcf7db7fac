/-
  The contracts of the methods of the reference's Reader: the same functions on lists of bytes as octet's Reader.
-/
import Derived.Test.YtgalkcfcpkkjgaaRead2
namespace Go.Proofs.Ytgalkcfcpkkjgaa
open Go.RowKit

/-- the reference's reader in block b of memory -/
def RdR (w : World) (b : Nat) (s : ByteArray) (p : Nat) (f : Bool) : Prop := w.heap[b]? = some (.cells #[.string s, .int .i64 p, .bool f] 34 (0, 0))
theorem RdR.cells {w : World} {b : Nat} {s : ByteArray} {p : Nat} {f : Bool} (h : RdR w b s p f) :
    w.cell? ⟨b, 0, none⟩ = some (.string s) ∧ w.cell? ⟨b, 1, none⟩ = some (.int .i64 p) ∧ w.cell? ⟨b, 2, none⟩ = some (.bool f) ∧ w.frozen? ⟨b, 1, none⟩ = false ∧ w.frozen? ⟨b, 2, none⟩ = false :=
  ⟨by rw [cell_of_row _ _ _ _ _ _ h]; rfl, by rw [cell_of_row _ _ _ _ _ _ h]; rfl, by rw [cell_of_row _ _ _ _ _ _ h]; rfl, frozen_of_row _ _ _ _ _ h, frozen_of_row _ _ _ _ _ h⟩
theorem RdR.setAt {w : World} {b : Nat} {s : ByteArray} {p : Nat} {f : Bool} (h : RdR w b s p f) (q : Nat) {v : Value} (hv : v = .int .i64 q) : RdR (w.setCell ⟨b, 1, none⟩ v) b s q f := by
  subst hv; unfold RdR; rw [heap_setCell_same _ _ _ _ _ _ h]; rfl
theorem RdR.setFailed {w : World} {b : Nat} {s : ByteArray} {p : Nat} {f : Bool} (h : RdR w b s p f) : RdR (w.setCell ⟨b, 2, none⟩ (.bool true)) b s p true := by
  unfold RdR; rw [heap_setCell_same _ _ _ _ _ _ h]; rfl
theorem RdR.drewN {w : World} {b : Nat} {s : ByteArray} {p : Nat} {f : Bool} (h : RdR w b s p f) (n : Nat) : RdR (w.drewN n) b s p f := h
theorem RdR.kept {w w' : World} {b c : Nat} {s : ByteArray} {p : Nat} {f : Bool} (h : RdR w b s p f) (hg : w.grownBy w' (some c)) (hne : b ≠ c) : RdR w' b s p f := by
  unfold RdR at *; rw [hg.block b ?_ (by intro e; injection e with e; exact hne e)]
  · exact h
  · exact (Array.getElem?_eq_some_iff.1 h).1
theorem RdR.keptB {w w' : World} {b B : Nat} {s : ByteArray} {p : Nat} {f : Bool} (h : RdR w b s p f) (hg : Below B w w') (hne : b < B) : RdR w' b s p f := by
  unfold RdR at *; rw [hg.block b hne]; exact h

set_option maxHeartbeats 400000 in
theorem refTake (b : Nat) (s : ByteArray) (p : Nat) (f : Bool) (n : Int) (w : World) (h : RdR w b s p f) (hp : p ≤ s.size) (hs : s.size ≤ 9223372036854775807) :
    Calls Try.prog 30 #[.pointer (some ⟨b, 0, none⟩), .int .i64 n] w fun e w' => e = .returned (.string (str (tk s.data.toList p f n).1)) ∧ RdR w' b s (tk s.data.toList p f n).2.1 (tk s.data.toList p f n).2.2 ∧ w.grownBy w' (some b) := by
  have hlen : s.data.toList.length = s.size := Array.length_toList
  obtain ⟨c0, c1, c2, f1, f2⟩ := h.cells
  by_cases hf : f = true
  · subst hf
    have e : tk s.data.toList p true n = ([], p, true) := by unfold tk; simp
    rw [e]
    have HR := Lib.hid h; clear h hlen e
    go_enter Try.func30, Try.ntmps30
    go_wp2
    go_quiet (fail)
    go_wp2
    go_ret
    exact ⟨rfl, (HR.out.drewN _).setFailed, grown_trans (grown_drewN _ _ _) (grown_setCell _ _ _ _)⟩
  · have hf : f = false := by simpa using hf
    subst hf
    by_cases hneg : n < 0
    · have e : tk s.data.toList p false n = ([], p, true) := by unfold tk; rw [if_pos (by simp [hneg])]
      rw [e]
      have HR := Lib.hid h; clear h hlen e
      go_enter Try.func30, Try.ntmps30
      go_wp2
      go_quiet (fail)
      go_wp2
      go_ret
      exact ⟨rfl, (HR.out.drewN _).setFailed, grown_trans (grown_drewN _ _ _) (grown_setCell _ _ _ _)⟩
    · have hd : decide (n < 0) = false := by simpa using hneg
      by_cases hbig : (s.size : Int) - p < n
      · have e : tk s.data.toList p false n = ([], p, true) := by unfold tk; rw [if_pos (by rw [hlen]; simp [hbig])]
        rw [e]
        have HR := Lib.hid h; clear h hlen e
        go_enter Try.func30, Try.ntmps30
        go_wp2
        go_quiet (fail)
        go_wp2
        go_ret
        exact ⟨rfl, (HR.out.drewN _).setFailed, grown_trans (grown_drewN _ _ _) (grown_setCell _ _ _ _)⟩
      · have e : tk s.data.toList p false n = ((s.data.toList.drop p).take n.toNat, p + n.toNat, false) := by unfold tk; rw [if_neg (by rw [hlen]; simp [hneg, hbig])]
        rw [e]
        have HR := Lib.hid h; clear h hlen e
        have hd2 : decide ((s.size : Int) - p < n) = false := by simpa using hbig
        go_enter Try.func30, Try.ntmps30
        go_wp2
        go_quiet (fail)
        go_wp2
        go_quiet (fail)
        go_wp2
        go_ret
        obtain ⟨m, rfl⟩ := Int.eq_ofNat_of_zero_le hneg
        refine ⟨ret_str ?_, (RdR.setAt (HR.out.drewN _) (p + m) (val_int (by omega))).drewN _, grown_trans (grown_trans (grown_drewN _ _ _) (grown_setCell _ _ _ _)) (grown_drewN _ _ _)⟩
        rw [show ((p : Int) + (m : Int)).toNat = p + m from by omega, extract_str]; rfl

theorem refBe_step {n b k : Nat} (hn : n < 256 ^ k) (hk : k < 8) (hb : b < 256) : n * 256 + b < 18446744073709551616 := by
  have h1 : 256 ^ k ≤ 256 ^ 7 := Nat.pow_le_pow_right (by omega) (by omega)
  rw [show (256 : Nat) ^ 7 = 72057594037927936 from rfl] at h1
  omega

set_option maxHeartbeats 400000 in
set_option maxRecDepth 100000 in
theorem refNum (b : Nat) (s : ByteArray) (p : Nat) (f : Bool) (z : Int) (w : World) (h : RdR w b s p f) (hp : p ≤ s.size) (hs : s.size ≤ 9223372036854775807) :
    Calls Try.prog 24 #[.pointer (some ⟨b, 0, none⟩), .int .i64 z] w fun e w' => e = .returned (.int .i64 (nm s.data.toList p f z).1) ∧ RdR w' b s (nm s.data.toList p f z).2.1 (nm s.data.toList p f z).2.2 ∧ w.grownBy w' (some b) := by
  unfold nm
  have hl8 : (tk s.data.toList p f (clampI z)).1.length ≤ 8 := by
    have hz := clampI_bd z
    unfold tk; split
    · exact Nat.zero_le _
    · show (List.take _ _).length ≤ 8
      have := List.length_take_le (clampI z).toNat (s.data.toList.drop p); omega
  have HT := Lib.hid (refTake b s p f (clampI z) w h hp hs)
  have HR := Lib.hid h; clear h
  generalize tk s.data.toList p f (clampI z) = t at HT hl8 ⊢
  obtain ⟨l, q, f'⟩ := t
  simp only at HT hl8 ⊢
  have HSZ := Lib.hid (str_size l)
  have HBY : Hid (∀ (k : Nat) (h : k < (str l).size) (h' : k < l.length), ((str l)[k]'h) = l[k]) := fun k h h' => by simp [str, ByteArray.getElem_eq_getElem_data]
  generalize str l = sl at HT HSZ HBY
  have hsl : sl.size ≤ 8 := by rw [HSZ.out]; exact hl8
  go_enter Try.func24, Try.ntmps24
  go_wp2_with (first | (go_at_call 35; refine (size_any _ _).mono ?_; rintro e w1 ⟨rfl, rfl⟩) | (go_at_call 30; refine HT.out.mono ?_; rintro e w1 ⟨rfl, hr1, hg1⟩; have HR1 := Lib.hid hr1; clear hr1))
  go_loop [6, 7] (fun n i => ∃ k : Nat, k ≤ sl.size ∧ i = .int .i64 k ∧ n = .int .u64 (Leb.be (l.take k) : Nat)) (fun _ i => sl.size - (intOf i).toNat)
  case atStart => exact ⟨0, Nat.zero_le _, rfl, rfl⟩
  case round =>
    obtain ⟨k, hk, rfl, rfl⟩ := hrel
    by_cases hlt : k < sl.size
    · have hlt' : k < l.length := by rw [← HSZ.out]; exact hlt
      have hbe : Leb.be (l.take k) < 256 ^ k := by
        have := Leb.be_lt (l.take k); rw [List.length_take_of_le (by omega)] at this; exact this
      have hst := refBe_step hbe (by omega) (Leb.u8lt l[k])
      rw [← HBY.out k hlt hlt'] at hst
      have HST : Hid (Leb.be (l.take (k + 1)) = Leb.be (l.take k) * 256 + (sl[k]).toNat) := by rw [be_take l k hlt', HBY.out k hlt hlt']; rfl
      clear hbe
      go_wp2
      go_round
      case rel => exact ⟨k + 1, by omega, by go_num, val_int (by rw [HST.out]; omega)⟩
      case measure => simp [intOf]; omega
    · obtain rfl : k = sl.size := by omega
      have hbe : Leb.be l < 256 ^ l.length := Leb.be_lt l
      rw [List.take_of_length_le (by rw [HSZ.out]; exact Nat.le_refl _)]
      have hn : Leb.be l < 18446744073709551616 := Nat.lt_of_lt_of_le hbe (Nat.le_trans (Nat.pow_le_pow_right (by omega) hl8) (by decide))
      clear hbe
      go_wp2
      go_ret
      exact ⟨ret_int (by rw [← i64of_wrap hn]; exact (IntWalk.i64_left _).symm), HR1.out, hg1⟩

theorem below_grown {w w' : World} (h : Below w.heap.size w w') : w.grownBy w' none := ⟨h.os, h.tape, h.output, h.size, fun k hk _ => h.block k hk⟩
theorem u64of_wrap64 {y : Nat} (h : y < 18446744073709551616) : u64of (wrap64 (y : Int)) = y := by
  rw [show wrap64 (y : Int) = IntKind.i64.wrap (y : Int) from (IntWalk.i64_left _).symm, i64of_wrap h]; unfold i64of u64of; split <;> omega
theorem str_same {a : List UInt8} {s : ByteArray} {p j : Nat} : ((str a).toList == (s.extract p (p + j)).toList) = decide (a = (s.data.toList.drop p).take j) := by
  rw [extract_str, ByteArray.toList_eq, ByteArray.toList_eq, str_toList, str_toList, Bool.eq_iff_iff]; simp
theorem pow_mod_step {j k : Nat} (h : 128 ^ j % 2 ^ 64 = k) : (k : Int) * 128 % 18446744073709551616 = ((128 ^ (j + 1) % 2 ^ 64 : Nat) : Int) := by
  have e : 128 ^ (j + 1) % 2 ^ 64 = k * 128 % 18446744073709551616 := by
    rw [← h, Nat.pow_add, show (2 : Nat) ^ 64 = 18446744073709551616 from rfl, Nat.mul_mod (128 ^ j)]
  rw [e]; omega
theorem idx_str (s : ByteArray) (p j : Nat) (h : p + j < s.size) (w : World) : (Instr.index 9 (.string s) (.int .i64 ((p : Int) + j))).run Try.prog w = .ok (.int .u8 ((s[p + j]).toNat : Int)) w := by
  rw [run_index_string w _ s .i64 _ Try.underlying9, dif_pos (by omega)]
  have e : ((p : Int) + j).toNat = p + j := by omega
  simp [e]

set_option maxHeartbeats 1000000 in
set_option maxRecDepth 100000 in
theorem refVar (b : Nat) (s : ByteArray) (p : Nat) (f : Bool) (w : World) (h : RdR w b s p f) (hp : p ≤ s.size) (hs : s.size ≤ 9223372036854775807) :
    Calls Try.prog 26 #[.pointer (some ⟨b, 0, none⟩)] w fun e w' => e = .returned (.int .i64 (vr s.data.toList p f).1) ∧ RdR w' b s (vr s.data.toList p f).2.1 (vr s.data.toList p f).2.2 ∧ w.grownBy w' (some b) := by
  obtain ⟨c0, c1, c2, f1, f2⟩ := h.cells
  by_cases hf : f = true
  · subst hf
    have HR := Lib.hid h; clear h
    go_enter Try.func26, Try.ntmps26
    go_wp2
    refine wp_loop_rounds 1 ?_
    rw [rounds_succ]
    go_wp2_with fail
    go_quiet (fail)
    go_wp2
    go_ret
    exact ⟨rfl, (HR.out.drewN _).setFailed, grown_trans (grown_drewN _ _ _) (grown_setCell _ _ _ _)⟩
  · have hf : f = false := by simpa using hf
    subst hf
    have HV : Hid (vr s.data.toList p false = vrGo p (Leb.refG (s.data.toList.drop p) 0 0 (s.data.toList.drop p))) := by
      rw [Leb.refG_dec]; rfl
    have HR := Lib.hid h; clear h
    go_enter Try.func26, Try.ntmps26
    go_wp2
    go_loopw [3, 4, 5] (fun u k i wr => ∃ (j acc m : Nat), wr = w.drewN m ∧ i = .int .i64 j ∧ u = .int .u64 acc ∧ k = .int .u64 (128 ^ j % 2 ^ 64 : Nat) ∧ j ≤ 10 ∧ p + j ≤ s.size ∧ acc < 18446744073709551616 ∧ Hid (Leb.refG (s.data.toList.drop p) 0 0 (s.data.toList.drop p) = Leb.refG (s.data.toList.drop p) j acc ((s.data.toList.drop p).drop j))) (fun _ _ i _ => 10 - (intOf i).toNat)
    case atStart => exact ⟨0, 0, 0, rfl, rfl, rfl, rfl, by omega, by omega, by omega, rfl⟩
    case round =>
      obtain ⟨j, acc, m, rfl, rfl, rfl, rfl, hj, hpj, hacc, H1⟩ := hrel
      by_cases hlt : p + j < s.size
      · have hltd : decide ((p : Int) + j < s.size) = true := by simp; omega
        have hw : IntKind.i64.wrap ((p : Int) + j) = (p : Int) + j := IntWalk.i64_in _ ⟨by omega, by omega⟩
        by_cases hj10 : j < 10
        · have hkb : 128 ^ j % 2 ^ 64 < 18446744073709551616 := Nat.mod_lt _ (by decide)
          generalize hk : 128 ^ j % 2 ^ 64 = k at hkb ⊢
          have HK := Lib.hid hk; clear hk
          have hj10d : decide ((j : Int) < 10) = true := by simp; omega
          have hltI : (p : Int) + j < s.size := by omega
          have hidx := idx_str s p j hlt
          have hx8 := Leb.u8lt s[p + j]
          generalize hx : (s[p + j]).toNat = x at hidx hx8
          have HX := Lib.hid hx; clear hx
          have hy : IntKind.u64.wrap ((acc : Int) + IntKind.u64.wrap ((x : Int) % 128 * (k : Int))) = (((acc + x % 128 * k) % 18446744073709551616 : Nat) : Int) := by
            rw [IntKind.wrap_u64, IntKind.wrap_u64]; rw [show (x : Int) % 128 * (k : Int) = ((x % 128 * k : Nat) : Int) from by rw [Int.natCast_mul]; rfl]; omega
          have hk2 : IntKind.u64.wrap ((k : Int) * 128) = ((k * 128 % 18446744073709551616 : Nat) : Int) := by rw [IntKind.wrap_u64]; omega
          have hyl : (acc + x % 128 * k) % 18446744073709551616 < 18446744073709551616 := Nat.mod_lt _ (by decide)
          have HD : Hid ((s.data.toList.drop p).drop j = s[p + j] :: (s.data.toList.drop p).drop (j + 1)) := by
            rw [List.drop_drop, List.drop_drop, dec_cons s (p + j) hlt]; rfl
          have HY : Hid (Leb.refG (s.data.toList.drop p) 0 0 (s.data.toList.drop p) = if x < 128 then (if Leb.varN ((acc + x % 128 * k) % 18446744073709551616) = (s.data.toList.drop p).take (j + 1) then some ((acc + x % 128 * k) % 18446744073709551616, j + 1) else none) else Leb.refG (s.data.toList.drop p) (j + 1) ((acc + x % 128 * k) % 18446744073709551616) ((s.data.toList.drop p).drop (j + 1))) := by
            rw [H1.out, HD.out]; simp only [Leb.refG]; rw [if_neg (by omega), HX.out, HK.out]; rfl
          clear hacc
          generalize hyy : (acc + x % 128 * k) % 18446744073709551616 = y at hy hyl HY
          clear hyy
          by_cases hb : x < 128
          · have HY2 := HY.out
            rw [if_pos hb] at HY2
            have H2 := Lib.hid HY2; clear HY2
            have HU : Hid (u64of (wrap64 (y : Int)) = y) := u64of_wrap64 hyl
            go_wp2_with fail
            go_quiet (fail)
            go_wp2_with fail
            go_quiet (fail)
            go_wp2_with (go_at_call 17; refine (refVar_any _ _).mono ?_; rintro e w2 ⟨rfl, hb2⟩; rw [HU.out])
            have HR2 : Hid (RdR w2 b s p false) := (HR.out.drewN _).keptB hb2 (Array.getElem?_eq_some_iff.1 HR.out).1
            obtain ⟨d0, d1, d2, g1, g2⟩ := HR2.out.cells
            have hw1 : IntKind.i64.wrap ((p : Int) + j + 1) = (p : Int) + j + 1 := IntWalk.i64_in _ ⟨by omega, by omega⟩
            go_quiet (fail)
            go_wp2_with fail
            · have hv : Leb.varN y = (s.data.toList.drop p).take (j + 1) := by
                have ht : ((str (Leb.varN y)).toList == (s.extract p (p + (j + 1))).toList) = true := by assumption
                rw [str_same] at ht; exact of_decide_eq_true ht
              have hn : vr s.data.toList p false = (i64of y, p + (j + 1), false) := by rw [HV.out, H2.out, if_pos hv]; rfl
              go_ret
              rw [hn]
              exact ⟨ret_int (by rw [← i64of_wrap hyl]; exact (IntWalk.i64_left _).symm), (HR2.out.drewN _).setAt (p + (j + 1)) (val_int (by omega)),
                grown_trans (grown_drewN _ _ _) (grown_trans (grown_none (below_grown hb2)) (grown_trans (grown_drewN _ _ _) (grown_setCell _ _ _ _)))⟩
            · have hv : ¬ Leb.varN y = (s.data.toList.drop p).take (j + 1) := by
                have ht : ((str (Leb.varN y)).toList == (s.extract p (p + (j + 1))).toList) = false := by assumption
                rw [str_same] at ht; exact of_decide_eq_false ht
              have hn : vr s.data.toList p false = (0, p, true) := by rw [HV.out, H2.out, if_neg hv]; rfl
              go_ret
              rw [hn]
              exact ⟨rfl, (HR2.out.drewN _).setFailed,
                grown_trans (grown_drewN _ _ _) (grown_trans (grown_none (below_grown hb2)) (grown_trans (grown_drewN _ _ _) (grown_setCell _ _ _ _)))⟩
          · go_wp2_with fail
            go_quiet (fail)
            go_wp2_with fail
            go_quiet (fail)
            go_wp2_with fail
            go_roundw
            case rel =>
              have HY2 := HY.out
              rw [if_neg hb] at HY2
              refine ⟨j + 1, y, _, rfl, by go_num, rfl, val_int ?_, by omega, by omega, hyl, HY2⟩
              have := pow_mod_step HK.out; first | exact this | (rw [← this]; omega)
            case measure => simp [intOf]; omega
        · have hd : decide ((j : Int) < 10) = false := by simp; omega
          go_wp2_with fail
          go_quiet (fail)
          go_wp2
          go_ret
          have hn : vr s.data.toList p false = (0, p, true) := by
            obtain rfl : j = 10 := by omega
            rw [HV.out, H1.out]
            cases (s.data.toList.drop p).drop 10 with
            | nil => rfl
            | cons x l => simp [Leb.refG, vrGo]
          rw [hn]
          exact ⟨rfl, (HR.out.drewN _).setFailed, grown_trans (grown_drewN _ _ _) (grown_setCell _ _ _ _)⟩
      · have hd : decide ((p : Int) + j < s.size) = false := by simp; omega
        go_wp2_with fail
        go_quiet (fail)
        go_wp2
        go_ret
        have hn : vr s.data.toList p false = (0, p, true) := by
          have e0 : (s.data.toList.drop p).drop j = [] := List.drop_eq_nil_of_le (by rw [List.length_drop, Array.length_toList]; have e : s.data.size = s.size := rfl; omega)
          rw [HV.out, H1.out, e0]; rfl
        rw [hn]
        exact ⟨rfl, (HR.out.drewN _).setFailed, grown_trans (grown_drewN _ _ _) (grown_setCell _ _ _ _)⟩

set_option maxHeartbeats 400000 in
set_option maxRecDepth 100000 in
theorem refText (b : Nat) (s : ByteArray) (p : Nat) (f : Bool) (w : World) (h : RdR w b s p f) (hp : p ≤ s.size) (hs : s.size ≤ 9223372036854775807) :
    Calls Try.prog 28 #[.pointer (some ⟨b, 0, none⟩)] w fun e w' => e = .returned (.string (str (tx s.data.toList p f).1)) ∧ RdR w' b s (tx s.data.toList p f).2.1 (tx s.data.toList p f).2.2 ∧ w.grownBy w' (some b) := by
  obtain ⟨c0, c1, c2, f1, f2⟩ := h.cells
  have HV := Lib.hid (refVar b s p f w h hp hs)
  have hq : (vr s.data.toList p f).2.1 ≤ s.size := by have := vr_bd f (S := s.data.toList) (p := p) (by rw [Array.length_toList]; exact hp); rw [Array.length_toList] at this; exact this
  have HR := Lib.hid h; clear h
  have HT : Hid (tx s.data.toList p f = if (tk s.data.toList (vr s.data.toList p f).2.1 (vr s.data.toList p f).2.2 (vr s.data.toList p f).1).2.2 = true then ([], p, true) else tk s.data.toList (vr s.data.toList p f).2.1 (vr s.data.toList p f).2.2 (vr s.data.toList p f).1) := rfl
  rw [HT.out]; clear HT
  generalize vr s.data.toList p f = v at HV hq ⊢
  obtain ⟨n, q, f1⟩ := v
  simp only at HV hq ⊢
  have HK : Hid (∀ w', RdR w' b s q f1 → Calls Try.prog 30 #[.pointer (some ⟨b, 0, none⟩), .int .i64 n] w' fun e w'' => e = .returned (.string (str (tk s.data.toList q f1 n).1)) ∧ RdR w'' b s (tk s.data.toList q f1 n).2.1 (tk s.data.toList q f1 n).2.2 ∧ w'.grownBy w'' (some b)) :=
    fun w' h' => refTake b s q f1 n w' h' hq hs
  have HF := Lib.hid (tk_fail (S := s.data.toList) (p := q) (f := f1) (n := n))
  generalize tk s.data.toList q f1 n = t at HK HF ⊢
  obtain ⟨l, q2, f'⟩ := t
  simp only at HK HF ⊢
  by_cases hf' : f' = true
  · subst hf'
    obtain rfl := HF.out rfl
    rw [if_pos rfl]
    go_enter Try.func28, Try.ntmps28
    go_wp2_with (first | (go_at_call 26; refine HV.out.mono ?_; rintro e w1 ⟨rfl, hr1, hg1⟩; have HR1 := Lib.hid hr1; clear hr1) | (go_at_call 30; refine (HK.out _ HR1.out).mono ?_; rintro e w2 ⟨rfl, hr2, hg2⟩; obtain ⟨d0, d1, d2, g1, g2⟩ := hr2.cells; have HR2 := Lib.hid hr2; clear hr2))
    go_ret
    exact ⟨rfl, HR2.out.setAt p rfl, grown_trans hg1 (grown_trans hg2 (grown_setCell _ _ _ _))⟩
  · have hf' : f' = false := by simpa using hf'
    subst hf'
    rw [if_neg (by simp)]
    go_enter Try.func28, Try.ntmps28
    go_wp2_with (first | (go_at_call 26; refine HV.out.mono ?_; rintro e w1 ⟨rfl, hr1, hg1⟩; have HR1 := Lib.hid hr1; clear hr1) | (go_at_call 30; refine (HK.out _ HR1.out).mono ?_; rintro e w2 ⟨rfl, hr2, hg2⟩; obtain ⟨d0, d1, d2, g1, g2⟩ := hr2.cells; have HR2 := Lib.hid hr2; clear hr2))
    go_ret
    exact ⟨rfl, HR2.out, grown_trans hg1 hg2⟩
end Go.Proofs.Ytgalkcfcpkkjgaa
