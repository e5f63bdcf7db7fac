/-
  The reference's reader (contracts).
-/
import Derived.Test.YtbfnahclkajahaaCREnc
namespace Go.Proofs.Ytbfnahclkajahaa.C
open Go.RowKit Go.Shelf
set_option maxRecDepth 100000
variable {W w w' : World} {L : List (Nat × Obj)}

abbrev rq (s : ByteArray) (q v : Nat) : List Value := [.string s, .int .i64 (q : Int), .int .u32 (v : Int)]
abbrev rrmob (d : Nat → Int) (lo hi : Nat) (s : ByteArray) (q v : Nat) : Obj := mob 58 d (cb lo hi (rq s q v))
/-- the state of the reference's reader: the code's first byte is number n of the string -/
abbrev rrob (c : Cd) (s : ByteArray) (n : Nat) : Obj := rrmob (pcs c.p) c.lo c.hi s (n + 4) (val (sx s.data.toList) n)
set_option maxHeartbeats 2000000 in
theorem rnext_any (b q v : Nat) (d : Nat → Int) (lo hi : Nat) (s : ByteArray) (w : World) (h : HS W ((b, rrmob d lo hi s q v) :: L) w) (_hv : v < 4294967296) (hq : q ≤ 1000000) :
    Calls Try.prog 43 #[.pointer (some ⟨b, 0, none⟩)] w fun e w' => e = .returned (.tuple #[]) ∧ HS W ((b, rrmob d lo hi s (q + 1) ((v * 256 + sx s.data.toList q) % 4294967296)) :: L) w' := by
  have hc2 : w.cell? ⟨b, 258, none⟩ = some (.string s) := h.hd_r 2
  have hc3 : w.cell? ⟨b, 259, none⟩ = some (.int .i64 (q : Int)) := h.hd_r 3
  have HP : Hid (∀ (m : Nat) (x : Int), HS W ((b, mob 58 d (cb lo hi [.string s, .int .i64 (q : Int), .int .u32 x])) :: L) ((w.drewN m).setCell ⟨b, 260, none⟩ (.int .u32 x)) ∧ (w.drewN m).frozen? ⟨b, 260, none⟩ = false ∧ (w.drewN m).cell? ⟨b, 260, none⟩ = some (.int .u32 (v : Int))) := fun m x => ⟨(h.drewN m).putr 4 (.int .u32 x), (h.drewN m).hfro 260, (h.drewN m).hd_r 4⟩
  clear h
  by_cases hlt : q < s.size
  · have hy := byt_lt s[q]
    have HX := Lib.hid (sx_lt s q hlt)
    have hs2 : ((v : Int) * 256 % 4294967296 + (s[q].toNat : Int)) < 4294967296 := by omega
    go_enter Try.func43, Try.ntmps43
    go_upto_region 1 with fail
    go_quiet (fail)
    go_upto_region 2 with fail
    go_quiet (fail)
    rename_i nq1
    rw [World.drewN_drewN]
    obtain ⟨hP, hf, hc⟩ := HP.out (nq1 + nq) ((v : Int) * 256 % 4294967296 + (s[q].toNat : Int))
    have HP1 := Lib.hid hP
    generalize w.drewN ((nq1 + nq)) = w1 at HP1 hf hc ⊢
    clear hP HP hc2 hc3
    go_upto_region 4 with fail
    generalize w1.setCell ⟨b, 260, none⟩ (.int .u32 ((v : Int) * 256 % 4294967296 + (s[q].toNat : Int))) = w2 at HP1 ⊢
    clear hf hc
    have hc : w2.cell? ⟨b, 259, none⟩ = some (.int .i64 (q : Int)) := HP1.out.hd_r 3
    have hf := HP1.out.hfro 259
    have H2 := Lib.hid (HP1.out.putr 3 (.int .i64 ((q : Int) + 1)))
    go_wp2_with fail
    refine bodyPost_end (results_none rfl _ _ _) rfl ⟨rfl, ?_⟩
    have e : (v : Int) * 256 % 4294967296 + (s[q].toNat : Int) = (((v * 256 + sx s.data.toList q) % 4294967296 : Nat) : Int) := by rw [HX.out]; omega
    have h := H2.out
    rw [e] at h
    exact h
  · have HX := Lib.hid (sx_ge s q hlt)
    have hs2 : ((v : Int) * 256 % 4294967296) < 4294967296 := by omega
    go_enter Try.func43, Try.ntmps43
    go_upto_region 1 with fail
    go_quiet (fail)
    go_upto_region 3 with fail
    obtain ⟨hP, hf, hc⟩ := HP.out nq ((v : Int) * 256 % 4294967296)
    have HP1 := Lib.hid hP
    generalize w.drewN nq = w1 at HP1 hf hc ⊢
    clear hP HP hc2 hc3
    go_upto_region 4 with fail
    generalize w1.setCell ⟨b, 260, none⟩ (.int .u32 ((v : Int) * 256 % 4294967296)) = w2 at HP1 ⊢
    clear hf hc
    have hc : w2.cell? ⟨b, 259, none⟩ = some (.int .i64 (q : Int)) := HP1.out.hd_r 3
    have hf := HP1.out.hfro 259
    have H2 := Lib.hid (HP1.out.putr 3 (.int .i64 ((q : Int) + 1)))
    go_wp2_with fail
    refine bodyPost_end (results_none rfl _ _ _) rfl ⟨rfl, ?_⟩
    have e : (v : Int) * 256 % 4294967296 = (((v * 256 + sx s.data.toList q) % 4294967296 : Nat) : Int) := by rw [HX.out]; omega
    have h := H2.out
    rw [e] at h
    exact h
theorem buildRR (s : ByteArray) (w : World) : (Instr.build 58 #[(0, .agg (mc (pcs c0.p) (cr c0 []))), (1, .string s)]).run Try.prog w = .ok (.agg (mc (pcs c0.p) (cb c0.lo c0.hi (rq s 0 0)))) w := by kernel_rfl
set_option maxHeartbeats 2000000 in
theorem rnewR_any (s : ByteArray) (w : World) (h : HS W L w) : Calls Try.prog 26 #[.string s] w fun e w' => ∃ b, e = .returned (.pointer (some ⟨b, 0, none⟩)) ∧ HS W ((b, rrob c0 s 0) :: L) w' := by
  obtain ⟨z1, hz1⟩ : ∃ z, z = mc (pcs c0.p) (cr c0 []) := ⟨_, rfl⟩
  obtain ⟨z2, hz2⟩ : ∃ z, z = mc (pcs c0.p) (cb c0.lo c0.hi (rq s 0 0)) := ⟨_, rfl⟩
  have HB : Hid (∀ V, (Instr.build 58 #[(0, .agg z1), (1, .string s)]).run Try.prog V = .ok (.agg z2) V) := fun V => by rw [hz1, hz2]; exact buildRR s V
  have HBG : Hid (∀ V, Calls Try.prog 33 #[] V fun e w' => e = .returned (.agg z1) ∧ Below V.heap.size V w') := fun V => by rw [hz1]; exact begin_any V
  have H2 := Lib.hid hz2
  clear hz1 hz2
  go_enter Try.func26, Try.ntmps26
  go_wp2_with (first
    | (go_at_call 33; refine (h.call (HBG.out _)).mono ?_; rintro e w1 ⟨rfl, h1⟩; have H1 := Lib.hid h1; clear h1)
    | ((with_reducible refine sBuild2 (.agg z1) (.string s) _ ?_ (HB.out _) ?_); focus exact ⟨rfl, rfl⟩))
  have H3 := Lib.hid (H1.out.alloc (.cells z2 58))
  generalize w1.alloc (Obj.cells z2 58) = w2 at H3 ⊢
  generalize w1.heap.size = b at H3 ⊢
  have H4 : Hid (HS W ((b, rrmob (pcs c0.p) c0.lo c0.hi s 0 (pre (sx s.data.toList) 0)) :: L) w2) := by
    have h := H3.out
    rw [H2.out] at h
    rw [pre_zero]
    exact h
  clear H1 H2 H3 HB HBG h
  go_loopw [4] (fun i V => ∃ j : Nat, j ≤ 4 ∧ i = .int .i64 (j : Int) ∧ Hid (HS W ((b, rrmob (pcs c0.p) c0.lo c0.hi s j (pre (sx s.data.toList) j)) :: L) V)) (fun i _ => 4 - (intOf i).toNat)
  case atStart => exact ⟨0, by omega, rfl, H4⟩
  case round =>
    obtain ⟨j, hj, rfl, HT⟩ := hrel
    clear H4
    by_cases hlt : j < 4
    · have HPL : Hid (pre (sx s.data.toList) j < 4294967296) := by
        cases j with
        | zero => exact Lib.hid (by rw [pre_zero]; omega)
        | succ j => exact Lib.hid (by rw [pre_succ]; omega)
      go_wp2_with (go_at_call 43; refine (rnext_any b j _ _ _ _ s _ HT.out HPL.out (by omega)).mono ?_; rintro e w2 ⟨rfl, h2⟩; have H2 := Lib.hid h2; clear h2)
      go_roundw
      case rel => exact ⟨j + 1, by omega, by go_num, Lib.hid (by have := H2.out; rwa [← pre_succ] at this)⟩
      case measure => simp [intOf]; omega
    · obtain rfl : j = 4 := by omega
      go_wp2_with fail
      go_ret
      refine ⟨b, rfl, ?_⟩
      have := HT.out
      rwa [pre4 (sx_byt _)] at this
theorem SL.form {v : Value} {bs : List UInt8} {l : List (Nat × Obj)} (h : SL v bs l) : ∃ p c, v = .slice p bs.length c := by
  rcases h with ⟨rfl, rfl, rfl⟩ | ⟨g, cap, cur, rfl, _⟩
  · exact ⟨none, 0, rfl⟩
  · exact ⟨_, _, rfl⟩
set_option maxHeartbeats 4000000 in
theorem rbitR_any (b n : Nat) (x : Int) (c : Cd) (s : ByteArray) (w : World) (ok : Ok c) (h : HS W ((b, rrob c s n) :: L) w) (hn : n ≤ 800000) :
    Calls Try.prog 29 #[.pointer (some ⟨b, 0, none⟩), .int .i64 x] w fun e w' => e = .returned (.int .i64 (rbit c (sx s.data.toList) n (ctx x) : Nat)) ∧
      HS W ((b, rrob (stp c (ctx x) (rbit c (sx s.data.toList) n (ctx x))) s (n + (out c (ctx x) (rbit c (sx s.data.toList) n (ctx x))).length)) :: L) w' := by
  have hc4 : w.cell? ⟨b, 260, none⟩ = some (.int .u32 ((val (sx s.data.toList) n : Nat) : Int)) := h.hd_r 4
  have HM : Hid (∀ q, Calls Try.prog 45 #[.pointer (some ⟨b, 0, none⟩), .int .i64 x] (w.drewN q) fun e w' => e = .returned (.int .u32 (mid c (ctx x) : Int)) ∧ ∃ m, w' = (w.drewN q).drewN m) := fun q => rmid_any c x ok (h.drewN q)
  have HN : Hid (∀ (q bit : Nat), bit ≤ 1 → Calls Try.prog 40 #[.pointer (some ⟨b, 0, none⟩), .int .i64 x, .int .i64 bit] (w.drewN q) fun e w' => ∃ v l, e = .returned v ∧ SL v (out c (ctx x) bit) l ∧
      HS W ((b, rrmob (pcs (stp c (ctx x) bit).p) (stp c (ctx x) bit).lo (stp c (ctx x) bit).hi s (n + 4) (val (sx s.data.toList) n)) :: (l ++ L)) w') := fun q bit hb => by
    have h2 := rnarrow_any c x (bit : Int) ok (h.drewN q)
    rw [bitn_nat hb] at h2
    exact h2.mono fun e w' ⟨v, l, h3, h4, h5⟩ => ⟨v, l, h3, h4, h5.mid⟩
  have HO := Lib.hid (out_len ok (ctx x))
  have hml := mid_btw ok (ctx x)
  have hih := ok.hi
  have hv := val_lt (sx_byt s.data.toList) n
  clear h
  go_enter Try.func29, Try.ntmps29
  go_upto_region 2 with fail
  go_quiet (first | (go_at_call 45; refine Calls.quiet_of (HM.out _)))
  clear hc4 HM
  by_cases hle : val (sx s.data.toList) n ≤ mid c (ctx x)
  · have hb : rbit c (sx s.data.toList) n (ctx x) = 1 := if_pos hle
    have HB := Lib.hid hb
    have hn1 := HN.out nq 1 (by omega)
    have hol := HO.out 1
    obtain ⟨c2, hc2⟩ : ∃ c2, c2 = stp c (ctx x) 1 := ⟨_, rfl⟩
    obtain ⟨o2, ho2⟩ : ∃ o2, o2 = out c (ctx x) 1 := ⟨_, rfl⟩
    rw [← hc2, ← ho2] at hn1
    rw [← ho2] at hol
    have HN1 := Lib.hid hn1
    have HOL := Lib.hid hol
    have HC2 := Lib.hid hc2
    have HO2 := Lib.hid ho2
    clear hb hol HN HO hc2 ho2 hn1
    go_wp2_with (go_at_call 40; refine HN1.out.mono ?_; rintro e w1 ⟨vx, lx, rfl, hvx, h1⟩; obtain ⟨px, cx, rfl⟩ := hvx.form; have H1 := Lib.hid h1; clear h1 hvx)
    clear hle hml hih hv HN1
    go_loopw [7] (fun i V => ∃ j : Nat, j ≤ o2.length ∧ i = .int .i64 (j : Int) ∧ Hid (HS W ((b, rrmob (pcs c2.p) c2.lo c2.hi s (n + 4 + j) (val (sx s.data.toList) (n + j))) :: (lx ++ L)) V)) (fun i _ => o2.length - (intOf i).toNat)
    case atStart => exact ⟨0, by omega, rfl, H1⟩
    case round =>
      obtain ⟨j, hj, rfl, HT⟩ := hrel
      clear H1
      have hol := HOL.out
      by_cases hlt : j < o2.length
      · go_wp2_with (go_at_call 43; refine (rnext_any b _ _ _ _ _ s _ HT.out (val_lt (sx_byt _) _) (by omega)).mono ?_; rintro e w2 ⟨rfl, h2⟩; rw [show n + 4 + j = n + j + 4 by omega, ← (val_succ (sx_byt s.data.toList) (n + j)).1] at h2; have H2 := Lib.hid h2; clear h2)
        go_roundw
        case rel => exact ⟨j + 1, by omega, by go_num, Lib.hid (by have := H2.out; rw [show n + 4 + (j + 1) = n + j + 4 + 1 by omega, ← Nat.add_assoc]; exact this)⟩
        case measure => simp [intOf]; omega
      · obtain rfl : j = o2.length := by omega
        go_wp2_with fail
        go_ret
        rw [HB.out, ← HC2.out, ← HO2.out]
        refine ⟨rfl, ?_⟩
        have h := HT.out.sub ((List.sublist_append_right lx L).cons_cons _)
        unfold rrob
        rw [show n + o2.length + 4 = n + 4 + o2.length by omega]
        exact h
  · have hb : rbit c (sx s.data.toList) n (ctx x) = 0 := if_neg hle
    have HB := Lib.hid hb
    have hn1 := HN.out nq 0 (by omega)
    have hol := HO.out 0
    obtain ⟨c2, hc2⟩ : ∃ c2, c2 = stp c (ctx x) 0 := ⟨_, rfl⟩
    obtain ⟨o2, ho2⟩ : ∃ o2, o2 = out c (ctx x) 0 := ⟨_, rfl⟩
    rw [← hc2, ← ho2] at hn1
    rw [← ho2] at hol
    have HN1 := Lib.hid hn1
    have HOL := Lib.hid hol
    have HC2 := Lib.hid hc2
    have HO2 := Lib.hid ho2
    clear hb hol HN HO hc2 ho2 hn1
    go_wp2_with (go_at_call 40; refine HN1.out.mono ?_; rintro e w1 ⟨vx, lx, rfl, hvx, h1⟩; obtain ⟨px, cx, rfl⟩ := hvx.form; have H1 := Lib.hid h1; clear h1 hvx)
    clear hle hml hih hv HN1
    go_loopw [7] (fun i V => ∃ j : Nat, j ≤ o2.length ∧ i = .int .i64 (j : Int) ∧ Hid (HS W ((b, rrmob (pcs c2.p) c2.lo c2.hi s (n + 4 + j) (val (sx s.data.toList) (n + j))) :: (lx ++ L)) V)) (fun i _ => o2.length - (intOf i).toNat)
    case atStart => exact ⟨0, by omega, rfl, H1⟩
    case round =>
      obtain ⟨j, hj, rfl, HT⟩ := hrel
      clear H1
      have hol := HOL.out
      by_cases hlt : j < o2.length
      · go_wp2_with (go_at_call 43; refine (rnext_any b _ _ _ _ _ s _ HT.out (val_lt (sx_byt _) _) (by omega)).mono ?_; rintro e w2 ⟨rfl, h2⟩; rw [show n + 4 + j = n + j + 4 by omega, ← (val_succ (sx_byt s.data.toList) (n + j)).1] at h2; have H2 := Lib.hid h2; clear h2)
        go_roundw
        case rel => exact ⟨j + 1, by omega, by go_num, Lib.hid (by have := H2.out; rw [show n + 4 + (j + 1) = n + j + 4 + 1 by omega, ← Nat.add_assoc]; exact this)⟩
        case measure => simp [intOf]; omega
      · obtain rfl : j = o2.length := by omega
        go_wp2_with fail
        go_ret
        rw [HB.out, ← HC2.out, ← HO2.out]
        refine ⟨rfl, ?_⟩
        have h := HT.out.sub ((List.sublist_append_right lx L).cons_cons _)
        unfold rrob
        rw [show n + o2.length + 4 = n + 4 + o2.length by omega]
        exact h
end Go.Proofs.Ytbfnahclkajahaa.C
