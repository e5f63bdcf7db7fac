/-
  The reference's Decode (contract).
-/
import Derived.Test.YtbfnahclkajahaaCRR
namespace Go.Proofs.Ytbfnahclkajahaa.C
open Go.RowKit Go.Shelf
set_option maxRecDepth 100000
variable {W w w' : World} {L : List (Nat × Obj)}

abbrev gz (x : ByteArray) (e : Int) : Array Value := #[.string x, .int .i64 e]
theorem zeroG (w : World) : (zeroValue 31).run Try.prog w = .ok (.agg (gz ByteArray.empty 0)) w := by kernel_rfl
theorem buildG0 (x : ByteArray) (w : World) : (Instr.build 31 #[(0, .string x)]).run Try.prog w = .ok (.agg (gz x 0)) w := by kernel_rfl
theorem buildG1 (w : World) : (Instr.build 31 #[(1, .int .i64 11)]).run Try.prog w = .ok (.agg (gz ByteArray.empty 11)) w := by kernel_rfl
theorem infoG : (Try.prog.info? 31).map (·.size) = some 2 := by kernel_rfl
theorem str_eq (a b : List UInt8) : str a = str b ↔ a = b := by
  constructor
  · intro h
    have := congrArg (fun s : ByteArray => s.data.toList) h
    simpa [str] using this
  · intro h; rw [h]
theorem str_data (s : ByteArray) : str s.data.toList = s := by apply ByteArray.ext; simp [str]
theorem str_toList (a : List UInt8) : (str a).data.toList = a := by simp [str]
theorem str_size (a : List UInt8) : (str a).size = a.length := by simp [str, ByteArray.size]
theorem beq_str (a b : ByteArray) : (a.toList == b.toList) = decide (a = b) := by
  rw [Bool.eq_iff_iff, beq_iff_eq, decide_eq_true_iff, ByteArray.toList_eq, ByteArray.toList_eq]
  exact ⟨fun h => ByteArray.ext (Array.toList_inj.1 h), fun h => by rw [h]⟩
theorem HS.gput {g : Nat} {x : ByteArray} {e : Int} (h : HS W ((g, .cells (gz ByteArray.empty 0) 31) :: L) w) :
    (Instr.storeAt 31 (.pointer (some ⟨g, 0, none⟩)) (.agg (gz x e))).run Try.prog w = .ok () (w.setRow g (gz x e)) ∧ HS W ((g, .cells (gz x e) 31) :: L) (w.setRow g (gz x e)) :=
  ⟨store_row _ (cs := gz ByteArray.empty 0) (ds := gz x e) (by exact infoG) rfl (by simp [Value.oneCell']) h.hd, h.rowset⟩
set_option maxHeartbeats 8000000 in
theorem rdecode_any (s : ByteArray) (n : Nat) (w : World) (hn : n ≤ 20000) : Calls Try.prog 18 #[.string s, .int .i64 n] w fun e w' => e = .returned (.agg (gz (dec s n).1 (dec s n).2)) ∧ Below w.heap.size w w' := by
  have h0 := HS.start w
  have h1 := h0.alloc (.cells (gz ByteArray.empty 0) 31)
  have HN := Lib.hid hn
  have hn2 : (n : Int) ≤ 65536 := by omega
  clear hn h0
  go_enter Try.func18, Try.ntmps18
  go_upto_region 3 with (with_reducible refine sAlloc (gz ByteArray.empty 0) w.heap.size rfl (zeroG _) ?_)
  generalize w.alloc (.cells (gz ByteArray.empty 0) 31) = w0 at h1 ⊢
  generalize hgs : w.heap.size = g at h1 ⊢
  have HG := Lib.hid hgs
  clear hgs
  go_wp2_with (first
    | (go_at_call 26; refine (rnewR_any s _ h1).mono ?_; rintro e w1 ⟨b, rfl, h2⟩)
    | (refine wpList_sl0 rfl rfl h2 ?_; intro k1 k2; have K1 := Lib.hid k1; have K2 := Lib.hid k2.swap; clear k1 k2))
  clear hn2 h1 h2
  go_loopw [6, 7, 8, 9, 10] (fun x i _ _ _ V => ∃ (j : Nat) (l : List (Nat × Obj)), j ≤ n ∧ i = .int .i64 (j : Int) ∧ Hid (SL x (rlst (sx s.data.toList) j).1 l ∧ HS w ((b, rrob (rlst (sx s.data.toList) j).2.1 s (rlst (sx s.data.toList) j).2.2) :: (l ++ [(g, .cells (gz ByteArray.empty 0) 31)])) V)) (fun _ i _ _ _ _ => n - (intOf i).toNat)
  case atStart => exact ⟨0, _, by omega, rfl, Lib.hid ⟨K1.out, K2.out⟩⟩
  case round =>
    obtain ⟨j, l, hj, rfl, HT⟩ := hrel
    clear K1 K2
    have HLEN := Lib.hid (rlst_len (sx s.data.toList) j)
    have HRN := Lib.hid (rlst_n (sx s.data.toList) j)
    by_cases hlt : j < n
    · have HOK := Lib.hid (rlst_ok (sx s.data.toList) j)
      have HRN2 : Hid ((rlst (sx s.data.toList) j).2.2 ≤ 640000) := by have := HN.out; have := HRN.out; exact Lib.hid (by omega)
      have HSTEP : Hid ((rlst (sx s.data.toList) (j + 1)).1 = (rlst (sx s.data.toList) j).1 ++ [UInt8.ofNat (rit (sx s.data.toList) 8 ⟨(rlst (sx s.data.toList) j).2.1, (rlst (sx s.data.toList) j).2.2, 1⟩).x] ∧ (rlst (sx s.data.toList) (j + 1)).2.1 = (rit (sx s.data.toList) 8 ⟨(rlst (sx s.data.toList) j).2.1, (rlst (sx s.data.toList) j).2.2, 1⟩).c ∧ (rlst (sx s.data.toList) (j + 1)).2.2 = (rit (sx s.data.toList) 8 ⟨(rlst (sx s.data.toList) j).2.1, (rlst (sx s.data.toList) j).2.2, 1⟩).n) := Lib.hid ⟨rfl, rfl, rfl⟩
      have HT1 := Lib.hid HT.out.1
      have HT2 := Lib.hid HT.out.2
      clear HT
      generalize (rlst (sx s.data.toList) j).2.1 = c at *
      generalize (rlst (sx s.data.toList) j).2.2 = m at *
      generalize (rlst (sx s.data.toList) j).1 = bs at *
      go_wp2_with fail
      go_loopw [8, 9, 10] (fun x k _ V => ∃ (i a : Nat), i ≤ 8 ∧ x = .int .i64 (a : Int) ∧ k = .int .i64 (i : Int) ∧ Hid (a = (rit (sx s.data.toList) i ⟨c, m, 1⟩).x ∧ HS w ((b, rrob (rit (sx s.data.toList) i ⟨c, m, 1⟩).c s (rit (sx s.data.toList) i ⟨c, m, 1⟩).n) :: (l ++ [(g, .cells (gz ByteArray.empty 0) 31)])) V)) (fun _ k _ _ => 8 - (intOf k).toNat)
      case atStart => exact ⟨0, 1, by omega, rfl, rfl, Lib.hid ⟨rfl, HT2.out⟩⟩
      case round =>
        obtain ⟨i, x, hi, rfl, rfl, HU⟩ := hrel
        clear HT2
        have hx := rit_x (sx s.data.toList) c m i
        rw [← HU.out.1] at hx
        by_cases hlt8 : i < 8
        · have hx1 : x < 256 := Nat.lt_of_lt_of_le hx.2 (Nat.pow_le_pow_right (n := 2) (by omega) (show i + 1 ≤ 8 by omega))
          have hbl := rbit_lt (rit (sx s.data.toList) i ⟨c, m, 1⟩).c (sx s.data.toList) (rit (sx s.data.toList) i ⟨c, m, 1⟩).n x
          have HC : Hid (∀ V, HS w ((b, rrob (rit (sx s.data.toList) i ⟨c, m, 1⟩).c s (rit (sx s.data.toList) i ⟨c, m, 1⟩).n) :: (l ++ [(g, .cells (gz ByteArray.empty 0) 31)])) V → Calls Try.prog 29 #[.pointer (some ⟨b, 0, none⟩), .int .i64 x] V fun e w' => e = .returned (.int .i64 (rbit (rit (sx s.data.toList) i ⟨c, m, 1⟩).c (sx s.data.toList) (rit (sx s.data.toList) i ⟨c, m, 1⟩).n x : Nat)) ∧
              HS w ((b, rrob (rit (sx s.data.toList) (i + 1) ⟨c, m, 1⟩).c s (rit (sx s.data.toList) (i + 1) ⟨c, m, 1⟩).n) :: (l ++ [(g, .cells (gz ByteArray.empty 0) 31)])) w') := fun V hV => by
            have h := rbitR_any b _ (x : Int) _ s V (rit_ok (sx s.data.toList) i ⟨c, m, 1⟩ HOK.out) hV (by have := rit_n (sx s.data.toList) c m HOK.out i; have := HRN2.out; omega)
            rw [ctx_nat hx1] at h
            have e := HU.out.1
            refine h.mono ?_
            rintro e2 w' ⟨h1, h2⟩
            refine ⟨h1, ?_⟩
            rw [e] at h2
            exact h2
          have HE : Hid (2 * x + rbit (rit (sx s.data.toList) i ⟨c, m, 1⟩).c (sx s.data.toList) (rit (sx s.data.toList) i ⟨c, m, 1⟩).n x = (rit (sx s.data.toList) (i + 1) ⟨c, m, 1⟩).x) := by
            have e := HU.out.1
            rw [e]; exact Lib.hid rfl
          clear hx
          generalize rbit (rit (sx s.data.toList) i ⟨c, m, 1⟩).c (sx s.data.toList) (rit (sx s.data.toList) i ⟨c, m, 1⟩).n x = y at *
          go_wp2_with (go_at_call 29; refine (HC.out _ HU.out.2).mono ?_; rintro e w2 ⟨rfl, h2⟩; have H2 := Lib.hid h2; clear h2)
          go_roundw
          case rel => exact ⟨i + 1, 2 * x + y, by omega, val_int (by omega), by go_num, Lib.hid ⟨HE.out, H2.out⟩⟩
          case measure => simp [intOf]; omega
        · obtain rfl : i = 8 := by omega
          have hu := u8_of x
          have HX := Lib.hid (HU.out.1)
          have HU2 := Lib.hid HU.out.2
          have HUU := Lib.hid hu
          have hx512 : (x : Int) < 512 := by have := hx.2; omega
          clear hu hx HU
          go_wp2_with (refine wpList_app rfl (.tmp 37) (.tmp 40) rfl _ _ bs [UInt8.ofNat x] l rfl rfl HT1.out ((HU2.out.alloc _).in2) (Src.one' _ _ (by have := HUU.out; omega) (heap_alloc_new _ _)) (by have := HLEN.out; have := HN.out; simp only [List.length_cons, List.length_nil]; omega) ?_; intro v3 w3 l3 k3 k4; have K3 := Lib.hid k3; have K4 := Lib.hid k4.out2; clear k3 k4)
          go_roundw
          case rel =>
            refine ⟨j + 1, l3, by omega, by go_num, Lib.hid ⟨?_, ?_⟩⟩
            · rw [HSTEP.out.1, ← HX.out]; exact K3.out
            · rw [HSTEP.out.2.1, HSTEP.out.2.2]; exact K4.out
          case measure => simp [intOf]; omega
    · obtain rfl : j = n := by omega
      have hcv := owns_conv (HT.out.1.owns HT.out.2.tl)
      have HD := Lib.hid (dec_whole s.data.toList j)
      have HENC : Hid (∀ V, Calls Try.prog 16 #[.string (str (rlst (sx s.data.toList) j).1)] V fun e w' => e = .returned (.string (str (enc (rlst (sx s.data.toList) j).1))) ∧ Below V.heap.size V w') := fun V => by
        have h := rencode_any (str (rlst (sx s.data.toList) j).1) V (by rw [str_size, HLEN.out]; exact HN.out)
        rwa [str_toList] at h
      have HSZ : s.data.toList.length = s.size := Array.length_toList
      have HH := Lib.hid HT.out.2
      have HTA := HT.out.1
      clear HT
      have HT1 := Lib.hid HTA
      clear HTA
      by_cases hd : enc (rlst (sx s.data.toList) j).1 = s.data.toList
      · have hq : ((str (enc (rlst (sx s.data.toList) j).1)).toList == s.toList) = true := by rw [beq_str, hd, str_data]; exact decide_eq_true rfl
        have HDEC : Hid (dec s j = (str (rlst (sx s.data.toList) j).1, 0)) := by
          unfold dec
          rw [if_pos (by have h := HD.out.2 hd; rwa [HSZ] at h)]
          exact Lib.hid rfl
        have HCV : Hid (∀ V, HS w ((b, rrob (rlst (sx s.data.toList) j).2.1 s (rlst (sx s.data.toList) j).2.2) :: (l ++ [(g, .cells (gz ByteArray.empty 0) 31)])) V → _) := fun V hV => owns_conv (HT1.out.owns hV.tl)
        clear HD HSZ hd
        generalize str (enc (rlst (sx s.data.toList) j).1) = e1 at *
        generalize str (rlst (sx s.data.toList) j).1 = e2 at *
        go_wp2_with (first
          | (go_at_call 16; refine (HH.out.call (HENC.out _)).mono ?_; rintro e w2 ⟨rfl, h2⟩; have hcv2 := HCV.out _ h2; have HG3 := Lib.hid (h2.tl.right.gput (x := e2) (e := 0)); clear h2)
          | ((with_reducible refine sBuild1 (.string e2) _ ?_ (buildG0 e2 _) ?_); focus rfl)
          | ((with_reducible refine sStore (.pointer (some ⟨g, 0, none⟩)) (.agg (gz e2 0)) ?_ HG3.out.1 ?_); focus exact ⟨rfl, rfl⟩))
        rw [HDEC.out, ← HG.out] at *
        refine bodyPost_ret (results_cell_row Try.results18 _ _ _ _ _ _ _ rfl HG3.out.2.hd Try.underlying31 rfl infoG) rfl ⟨rfl, HG3.out.2.below⟩
      · have hq : ((str (enc (rlst (sx s.data.toList) j).1)).toList == s.toList) = false := by
          rw [beq_str]; exact decide_eq_false (fun h => hd (by have h2 := congrArg (fun q : ByteArray => q.data.toList) h; simp only [str_toList] at h2; exact h2))
        have HDEC : Hid (dec s j = (ByteArray.empty, 11)) := by
          unfold dec
          rw [if_neg (by intro h; rw [← HSZ] at h; exact hd (HD.out.1 h))]
          exact Lib.hid rfl
        clear HD HSZ hd HT1
        generalize str (enc (rlst (sx s.data.toList) j).1) = e1 at *
        generalize str (rlst (sx s.data.toList) j).1 = e2 at *
        go_wp2_with (first
          | (go_at_call 16; refine (HH.out.call (HENC.out _)).mono ?_; rintro e w2 ⟨rfl, h2⟩; have HG3 := Lib.hid (h2.tl.right.gput (x := ByteArray.empty) (e := 11)); clear h2)
          | ((with_reducible refine sBuild1 (.int .i64 11) _ ?_ (buildG1 _) ?_); focus rfl)
          | ((with_reducible refine sStore (.pointer (some ⟨g, 0, none⟩)) (.agg (gz ByteArray.empty 11)) ?_ HG3.out.1 ?_); focus exact ⟨rfl, rfl⟩))
        rw [HDEC.out, ← HG.out] at *
        refine bodyPost_ret (results_cell_row Try.results18 _ _ _ _ _ _ _ rfl HG3.out.2.hd Try.underlying31 rfl infoG) rfl ⟨rfl, HG3.out.2.below⟩
end Go.Proofs.Ytbfnahclkajahaa.C
