/-
  The contracts of the methods Var, Text and Num of octet's Reader.
-/
import Derived.Test.YtfncldaodbfakaaGreatORead
namespace Go.Proofs.YtfncldaodbfakaaGreat.O
open Go.RowKit
set_option maxRecDepth 100000

theorem quiet_same {P : Program} {f : FuncId} {args : Array Value} {w : World} {n : Nat} {v : Value}
    (h : Calls P f args (w.drewN n) fun e w' => e = .returned v ∧ w.drewN n = w') : Calls P f args (w.drewN n) fun e w'' => e = .returned v ∧ ∃ m, w'' = w.drewN m :=
  h.mono fun _ _ ⟨he, hm⟩ => ⟨he, n, hm.symm⟩
theorem quiet_draw {P : Program} {f : FuncId} {args : Array Value} {w : World} {n : Nat} {v : Value}
    (h : Calls P f args (w.drewN n) fun e w' => e = .returned v ∧ ∃ m, w' = (w.drewN n).drewN m) : Calls P f args (w.drewN n) fun e w'' => e = .returned v ∧ ∃ m, w'' = w.drewN m :=
  Calls.quiet_of h

theorem extract_end (s : ByteArray) (p : Nat) : (s.extract p s.size).data.toList = s.data.toList.drop p := by
  have e : (s.extract p s.size).data.toList = List.take (s.size - p) (List.drop p s.data.toList) := by simp [ByteArray.data_extract]
  rw [e, List.take_of_length_le (by rw [List.length_drop, Array.length_toList]; exact Nat.le_refl _)]

theorem var_read_nil (w : World) : Calls Tryz.prog 116 #[.pointer none] w fun e w' => e = .returned (.int .i64 0) ∧ w = w' := by
  go_enter Tryz.func116, Tryz.ntmps116
  go_wp2_with (go_at_call 62; refine (failed_nil _).mono ?_; rintro e w1 ⟨rfl, rfl⟩)
  go_ret
  exact ⟨rfl, rfl⟩

theorem i64of_wrap {n : Nat} (h : n < 18446744073709551616) : IntKind.i64.wrap (n : Int) = i64of n := by
  rw [IntKind.wrap_i64]; unfold i64of; split <;> omega

set_option maxHeartbeats 400000 in
set_option maxRecDepth 100000 in
theorem var_read (b : Nat) (s : ByteArray) (p : Nat) (f : Bool) (w : World) (h : Rd w b s p f) (hp : p ≤ s.size) (hs : s.size ≤ 9223372036854775807) :
    Calls Tryz.prog 116 #[.pointer (some ⟨b, 0, none⟩)] w fun e w' => e = .returned (.int .i64 (vr s.data.toList p f).1) ∧ Rd w' b s (vr s.data.toList p f).2.1 (vr s.data.toList p f).2.2 ∧ w.grownBy w' (some b) := by
  by_cases hf : f = true
  · subst hf
    have HR := Lib.hid h; clear h
    go_enter Tryz.func116, Tryz.ntmps116
    go_wp2_with (go_at_call 62; refine (failed_any _ _ _ _ _ HR.out).mono ?_; rintro e w1 ⟨rfl, rfl⟩)
    go_ret
    exact ⟨rfl, HR.out, World.grownBy.refl _ _⟩
  · have hf : f = false := by simpa using hf
    subst hf
    obtain ⟨c0, c1, c2, f1, f2⟩ := h.cells
    have hsz : (s.extract p s.size).size ≤ 9223372036854775807 := by
      have : (s.extract p s.size).size ≤ s.size := by rw [ByteArray.size_extract]; omega
      omega
    cases hd : Leb.dec (s.data.toList.drop p) with
    | none =>
      have HC : Hid (∀ w, Calls Tryz.prog 156 #[.string (s.extract p s.size)] w fun e w' => e = .returned (.tuple #[.int .u64 0, .int .i64 0, .bool false]) ∧ w = w') := fun w => by
        have := dec_any (s.extract p s.size) w hsz
        rw [extract_end, hd] at this; exact this
      have e : vr s.data.toList p false = (0, p, true) := by unfold vr; rw [if_neg (by simp), hd]; rfl
      rw [e]
      have HR := Lib.hid h; clear h e hd hsz
      go_enter Tryz.func116, Tryz.ntmps116
      go_wp2_with (go_at_call 62; refine (failed_any _ _ _ _ _ HR.out).mono ?_; rintro e w1 ⟨rfl, rfl⟩)
      go_quiet ((go_at_call 156; exact quiet_same (HC.out _)))
      go_wp2
      go_ret
      exact ⟨rfl, (HR.out.drewN _).setFailed, grown_trans (grown_drewN _ _ _) (grown_setCell _ _ _ _)⟩
    | some ng =>
      obtain ⟨n, g⟩ := ng
      obtain ⟨hn, hg, rest, hr⟩ := Leb.dec_some hd
      have hpg : p + g ≤ s.size := by
        have := congrArg List.length hr
        rw [List.length_drop, List.length_append, Array.length_toList] at this
        have e : s.data.size = s.size := rfl
        omega
      have hn' : n < 18446744073709551616 := hn
      clear hg rest hr hn
      have HC : Hid (∀ w, Calls Tryz.prog 156 #[.string (s.extract p s.size)] w fun e w' => e = .returned (.tuple #[.int .u64 n, .int .i64 g, .bool true]) ∧ w = w') := fun w => by
        have := dec_any (s.extract p s.size) w hsz
        rw [extract_end, hd] at this; exact this
      have e : vr s.data.toList p false = (i64of n, p + g, false) := by unfold vr; rw [if_neg (by simp), hd]; rfl
      rw [e]
      have HR := Lib.hid h; clear h e hd hsz
      go_enter Tryz.func116, Tryz.ntmps116
      go_wp2_with (go_at_call 62; refine (failed_any _ _ _ _ _ HR.out).mono ?_; rintro e w1 ⟨rfl, rfl⟩)
      go_quiet ((go_at_call 156; exact quiet_same (HC.out _)))
      go_wp2
      go_ret
      refine ⟨ret_int (by rw [← i64of_wrap hn']; exact (IntWalk.i64_left _).symm), Rd.setAt (HR.out.drewN _) (p + g) (val_int (by omega)), grown_trans (grown_drewN _ _ _) (grown_setCell _ _ _ _)⟩

theorem tk_bd {S : List UInt8} {p : Nat} (f : Bool) (n : Int) (h : p ≤ S.length) : (tk S p f n).2.1 ≤ S.length := by
  unfold tk; split
  · exact h
  · next h2 => simp only [not_or, Int.not_lt] at h2; show p + n.toNat ≤ _; omega
theorem vr_bd {S : List UInt8} {p : Nat} (f : Bool) (h : p ≤ S.length) : (vr S p f).2.1 ≤ S.length := by
  unfold vr; split
  · exact h
  · cases hd : Leb.dec (S.drop p) with
    | none => exact h
    | some ng =>
      obtain ⟨n, g⟩ := ng
      obtain ⟨hn, hg, rest, hr⟩ := Leb.dec_some hd
      have := congrArg List.length hr
      rw [List.length_drop, List.length_append] at this
      show p + g ≤ _; omega

theorem text_read_nil (w : World) : Calls Tryz.prog 60 #[.pointer none] w fun e w' => e = .returned (.string (str [])) ∧ w = w' := by
  go_enter Tryz.func60, Tryz.ntmps60
  go_wp2_with (go_at_call 62; refine (failed_nil _).mono ?_; rintro e w1 ⟨rfl, rfl⟩)
  go_ret
  exact ⟨rfl, rfl⟩

theorem tk_fail {S : List UInt8} {p : Nat} {f : Bool} {n : Int} (h : (tk S p f n).2.2 = true) : (tk S p f n).1 = [] := by
  unfold tk at *; split at h
  · next hc => rw [if_pos hc]
  · simp at h

theorem sized_any (b : Nat) (s : ByteArray) (p : Nat) (f : Bool) (w : World) (h : Rd w b s p f) (hp : p ≤ s.size) (hs : s.size ≤ 9223372036854775807) :
    Calls Tryz.prog 115 #[.pointer (some ⟨b, 0, none⟩), .func (Fn.func 116) #[.pointer (some ⟨b, 0, none⟩)] #[]] w fun e w' =>
      e = .returned (.string (str (tk s.data.toList (vr s.data.toList p f).2.1 (vr s.data.toList p f).2.2 (vr s.data.toList p f).1).1)) ∧
      Rd w' b s (tk s.data.toList (vr s.data.toList p f).2.1 (vr s.data.toList p f).2.2 (vr s.data.toList p f).1).2.1 (tk s.data.toList (vr s.data.toList p f).2.1 (vr s.data.toList p f).2.2 (vr s.data.toList p f).1).2.2 ∧ w.grownBy w' (some b) := by
  have HV := Lib.hid (var_read b s p f w h hp hs)
  have hq : (vr s.data.toList p f).2.1 ≤ s.size := by have := vr_bd f (S := s.data.toList) (p := p) (by rw [Array.length_toList]; exact hp); rw [Array.length_toList] at this; exact this
  have HR := Lib.hid h; clear h
  generalize vr s.data.toList p f = v at HV hq ⊢
  obtain ⟨n, q, f1⟩ := v
  simp only at HV hq ⊢
  go_enter Tryz.func115, Tryz.ntmps115
  go_wp2_with (first | (go_at_call 116; refine HV.out.mono ?_; rintro e w1 ⟨rfl, hr1, hg1⟩; have HR1 := Lib.hid hr1; clear hr1) | (go_at_call 61; refine (take_any _ _ _ _ _ _ HR1.out hq hs).mono ?_; rintro e w2 ⟨rfl, hr2, hg2⟩))
  go_ret
  exact ⟨rfl, hr2, grown_trans hg1 hg2⟩

set_option maxHeartbeats 400000 in
set_option maxRecDepth 100000 in
theorem text_read (b : Nat) (s : ByteArray) (p : Nat) (f : Bool) (w : World) (h : Rd w b s p f) (hp : p ≤ s.size) (hs : s.size ≤ 9223372036854775807) :
    Calls Tryz.prog 60 #[.pointer (some ⟨b, 0, none⟩)] w fun e w' => e = .returned (.string (str (tx s.data.toList p f).1)) ∧ Rd w' b s (tx s.data.toList p f).2.1 (tx s.data.toList p f).2.2 ∧ w.grownBy w' (some b) := by
  by_cases hf : f = true
  · subst hf
    have HR := Lib.hid h; clear h
    have e : tx s.data.toList p true = ([], p, true) := by unfold tx; simp [vr, tk]
    rw [e]; clear e
    go_enter Tryz.func60, Tryz.ntmps60
    go_wp2_with (go_at_call 62; refine (failed_any _ _ _ _ _ HR.out).mono ?_; rintro e w1 ⟨rfl, rfl⟩)
    go_ret
    exact ⟨rfl, HR.out, World.grownBy.refl _ _⟩
  · have hf : f = false := by simpa using hf
    subst hf
    obtain ⟨c0, c1, c2, f1, f2⟩ := h.cells
    have HS := Lib.hid (sized_any b s p false w h hp hs)
    have HR := Lib.hid h; clear h
    have HT : Hid (tx s.data.toList p false = if (tk s.data.toList (vr s.data.toList p false).2.1 (vr s.data.toList p false).2.2 (vr s.data.toList p false).1).2.2 = true then ([], p, true) else tk s.data.toList (vr s.data.toList p false).2.1 (vr s.data.toList p false).2.2 (vr s.data.toList p false).1) := rfl
    have HF := Lib.hid (tk_fail (S := s.data.toList) (p := (vr s.data.toList p false).2.1) (f := (vr s.data.toList p false).2.2) (n := (vr s.data.toList p false).1))
    rw [HT.out]; clear HT
    generalize tk s.data.toList (vr s.data.toList p false).2.1 (vr s.data.toList p false).2.2 (vr s.data.toList p false).1 = t at HS HF ⊢
    obtain ⟨l, q, f'⟩ := t
    simp only at HS HF ⊢
    by_cases hf' : f' = true
    · subst hf'
      obtain rfl := HF.out rfl
      rw [if_pos rfl]
      go_enter Tryz.func60, Tryz.ntmps60
      go_wp2_with (first | (go_at_call 62; refine (failed_any _ _ _ _ _ HR.out).mono ?_; rintro e w1 ⟨rfl, rfl⟩) | (go_at_call 115; refine HS.out.mono ?_; rintro e w2 ⟨rfl, hr2, hg2⟩; obtain ⟨d0, d1, d2, g1, g2⟩ := hr2.cells; have HR2 := Lib.hid hr2; clear hr2))
      go_ret
      exact ⟨rfl, HR2.out.setAt p rfl, grown_trans hg2 (grown_setCell _ _ _ _)⟩
    · have hf' : f' = false := by simpa using hf'
      subst hf'
      rw [if_neg (by simp)]
      go_enter Tryz.func60, Tryz.ntmps60
      go_wp2_with (first | (go_at_call 62; refine (failed_any _ _ _ _ _ HR.out).mono ?_; rintro e w1 ⟨rfl, rfl⟩) | (go_at_call 115; refine HS.out.mono ?_; rintro e w2 ⟨rfl, hr2, hg2⟩; obtain ⟨d0, d1, d2, g1, g2⟩ := hr2.cells; have HR2 := Lib.hid hr2; clear hr2))
      go_ret
      exact ⟨rfl, HR2.out, hg2⟩

theorem num_read_nil (z : Int) (w : World) : Calls Tryz.prog 158 #[.pointer none, .int .i64 z] w fun e w' => e = .returned (.int .i64 0) ∧ Below w.heap.size w w' := by
  have hcb := run_bytes_of_string w 9 84 5 (str []) Tryz.underlying9 Tryz.underlying84 Tryz.underlying5
  have hz : (str []).size = 0 := rfl
  rw [hz] at hcb; clear hz
  go_enter Tryz.func158, Tryz.ntmps158
  go_wp2_with (first | (go_at_call 153; refine (clamp_any _ _).mono ?_; rintro e w1 ⟨rfl, rfl⟩) | (go_at_call 61; refine (take_nil _ _).mono ?_; rintro e w1 ⟨rfl, rfl⟩))
  refine wp_loop_rounds 1 ?_
  rw [rounds_succ]
  go_wp2
  go_ret
  exact ⟨rfl, ((Below.refl _ _).alloc (Nat.le_refl _) _).drew⟩

theorem be_step {n b k : Nat} (hn : n < 256 ^ k) (hk : k < 8) (hb : b < 256) : n < 72057594037927936 ∧ bits BinOp.or IntKind.u64 ((n : Int) * 256) (b : Int) = ((n * 256 + b : Nat) : Int) := by
  have h1 : 256 ^ k ≤ 256 ^ 7 := Nat.pow_le_pow_right (by omega) (by omega)
  rw [show (256 : Nat) ^ 7 = 72057594037927936 from rfl] at h1
  refine ⟨by omega, ?_⟩
  have e := u64_or_nat (n * 256) b (by omega) (by omega)
  have e2 : n * 256 ||| b = n * 256 + b := by
    have := Nat.two_pow_add_eq_or_of_lt (i := 8) (b := b) hb n
    rw [show (2 : Nat) ^ 8 * n = n * 256 from by rw [Nat.mul_comm]] at this
    rw [this]
  rw [e2] at e
  rw [← e, Int.natCast_mul]; rfl

theorem bytes_at (w : World) (l : List UInt8) (c : Nat) (m : Nat × Nat) (j : Nat) (hj : j < l.length) : ((w.alloc (.cells (bytesRow (str l) c) 5 m)).drew).cell? ⟨w.heap.size, j, none⟩ = some (.int .u8 ((l[j]).toNat : Int)) := by
  have h := World.cell?_alloc_mark w (bytesRow (str l) c) 5 m j
  have h2 := bytesRow_at (str l) c j (by simpa [str] using hj)
  rw [h2] at h
  exact h
theorem be_take (l : List UInt8) (k : Nat) (h : k < l.length) : Leb.be (l.take (k + 1)) = Leb.be (l.take k) * 256 + (l[k]).toNat := by
  rw [List.take_succ_eq_append_getElem h, Leb.be_snoc]

set_option maxHeartbeats 400000 in
set_option maxRecDepth 100000 in
theorem num_read (b : Nat) (s : ByteArray) (p : Nat) (f : Bool) (z : Int) (w : World) (h : Rd w b s p f) (hp : p ≤ s.size) (hs : s.size ≤ 9223372036854775807) :
    Calls Tryz.prog 158 #[.pointer (some ⟨b, 0, none⟩), .int .i64 z] w fun e w' => e = .returned (.int .i64 (nm s.data.toList p f z).1) ∧ Rd w' b s (nm s.data.toList p f z).2.1 (nm s.data.toList p f z).2.2 ∧ w.grownBy w' (some b) := by
  unfold nm
  have hl8 : (tk s.data.toList p f (clampI z)).1.length ≤ 8 := by
    have hz := clampI_bd z
    unfold tk; split
    · exact Nat.zero_le _
    · show (List.take _ _).length ≤ 8
      have := List.length_take_le (clampI z).toNat (s.data.toList.drop p); omega
  have HT := Lib.hid (take_any b s p f (clampI z) w h hp hs)
  have HR := Lib.hid h; clear h
  generalize tk s.data.toList p f (clampI z) = t at HT hl8 ⊢
  obtain ⟨l, q, f'⟩ := t
  simp only at HT hl8 ⊢
  go_enter Tryz.func158, Tryz.ntmps158
  go_wp2_with (first | (go_at_call 153; refine (clamp_any _ _).mono ?_; rintro e w1 ⟨rfl, rfl⟩) | (go_at_call 61; refine HT.out.mono ?_; rintro e w1 ⟨rfl, hr1, hg1⟩; have hcb := run_bytes_of_string w1 9 84 5 (str l) Tryz.underlying9 Tryz.underlying84 Tryz.underlying5; rw [str_size] at hcb; have HR1 := Lib.hid hr1; clear hr1))
  have HRN : Hid (Rd (w1.alloc (Obj.cells (bytesRow (str l) (grownCap w1 l.length 0 5)) 5 ((bytesRow (str l) (grownCap w1 l.length 0 5)).size, (bytesRow (str l) (grownCap w1 l.length 0 5)).size + 1))).drew b s q f') :=
    HR1.out.keptB (((Below.refl _ _).alloc (Nat.le_refl _) _).drew) (Array.getElem?_eq_some_iff.1 HR1.out).1
  have HG : Hid (w.grownBy (w1.alloc (Obj.cells (bytesRow (str l) (grownCap w1 l.length 0 5)) 5 ((bytesRow (str l) (grownCap w1 l.length 0 5)).size, (bytesRow (str l) (grownCap w1 l.length 0 5)).size + 1))).drew (some b)) :=
    grown_trans hg1 (grown_trans (World.grownBy_alloc _ _ _) (grown_drewN _ 1 _))
  have HB := Lib.hid (bytes_at w1 l (grownCap w1 l.length 0 5) ((bytesRow (str l) (grownCap w1 l.length 0 5)).size, (bytesRow (str l) (grownCap w1 l.length 0 5)).size + 1))
  clear hcb
  generalize (w1.alloc (Obj.cells (bytesRow (str l) (grownCap w1 l.length 0 5)) 5 ((bytesRow (str l) (grownCap w1 l.length 0 5)).size, (bytesRow (str l) (grownCap w1 l.length 0 5)).size + 1))).drew = w2 at HRN HG HB ⊢
  generalize w1.heap.size = b1 at HB ⊢
  clear hg1
  go_loop [5, 14] (fun n i => ∃ k : Nat, k ≤ l.length ∧ i = .int .i64 k ∧ n = .int .u64 (Leb.be (l.take k) : Nat)) (fun _ i => l.length - (intOf i).toNat)
  case atStart => exact ⟨0, Nat.zero_le _, rfl, rfl⟩
  case round =>
    obtain ⟨k, hk, rfl, rfl⟩ := hrel
    by_cases hlt : k < l.length
    · have hbe : Leb.be (l.take k) < 256 ^ k := by
        have := Leb.be_lt (l.take k); rw [List.length_take_of_le hk] at this; exact this
      obtain ⟨hn, hst⟩ := be_step hbe (by omega) (Leb.u8lt l[k])
      have HST : Hid (bits BinOp.or IntKind.u64 ((Leb.be (l.take k) : Int) * 256) ((l[k]).toNat : Int) = (Leb.be (l.take (k + 1)) : Nat)) := by rw [be_take l k hlt]; exact hst
      have hc := HB.out k hlt
      clear hbe hst
      go_wp2
      go_round
      case rel => exact ⟨k + 1, by omega, by go_num, val_int (by rw [← HST.out, IntWalk.u64_in _ ⟨by omega, by have := Leb.u8lt l[k]; omega⟩])⟩
      case measure => simp [intOf]; omega
    · obtain rfl : k = l.length := by omega
      have hbe : Leb.be l < 256 ^ l.length := Leb.be_lt l
      rw [List.take_of_length_le (Nat.le_refl _)]
      have hn : Leb.be l < 18446744073709551616 := Nat.lt_of_lt_of_le hbe (Nat.le_trans (Nat.pow_le_pow_right (by omega) hl8) (by decide))
      clear hbe
      go_wp2
      go_ret
      exact ⟨ret_int (by rw [← i64of_wrap hn]; exact (IntWalk.i64_left _).symm), HRN.out, HG.out⟩
end Go.Proofs.YtfncldaodbfakaaGreat.O
