/-
  The reference's Encode (contract).
-/
import Derived.Test.YtbfnahclkajahaaCRW
namespace Go.Proofs.Ytbfnahclkajahaa.C
open Go.RowKit Go.Shelf
set_option maxRecDepth 100000
variable {W w w' : World} {L : List (Nat × Obj)}

set_option maxHeartbeats 8000000 in
theorem rencode_any (s : ByteArray) (w : World) (hs : s.size ≤ 20000) : Calls Try.prog 16 #[.string s] w fun e w' => e = .returned (.string (str (enc s.data.toList))) ∧ Below w.heap.size w w' := by
  have h0 := HS.start w
  go_enter Try.func16, Try.ntmps16
  go_wp2_with (go_at_call 20; refine (rnewW_any _ h0).mono ?_; rintro e w1 ⟨b, rfl, h1⟩)
  have H1 := Lib.hid h1
  clear h0 h1
  go_loopw [4, 5, 6, 7] (fun i _ _ _ V => ∃ k : Nat, k ≤ s.size ∧ i = .int .i64 (k : Int) ∧ Hid (RWS w [] b (fin c0 (sops (s.data.toList.take k))) (wt c0 (sops (s.data.toList.take k))) V)) (fun i _ _ _ _ => s.size - (intOf i).toNat)
  case atStart => exact ⟨0, by omega, rfl, H1⟩
  case round =>
    obtain ⟨k, hk, rfl, HT⟩ := hrel
    clear H1
    have hlen : (wt c0 (sops (s.data.toList.take k))).length ≤ 700000 := by have h1 := wt_len c0_ok (sops (s.data.toList.take k)); have h2 := sops_take_len s.data.toList k; omega
    by_cases hlt : k < s.size
    · have HN := Lib.hid (toL s k hlt)
      have HL := Lib.hid hlen
      have hB : Hid (s[k].toNat < 256) := byt_lt s[k]
      have HOK := Lib.hid (fin_ok c0_ok (sops (s.data.toList.take k)))
      have HSN : Hid (fin c0 (sops (s.data.toList.take (k + 1))) = fin (fin c0 (sops (s.data.toList.take k))) (bops s[k].toNat) ∧ wt c0 (sops (s.data.toList.take (k + 1))) = wt c0 (sops (s.data.toList.take k)) ++ wt (fin c0 (sops (s.data.toList.take k))) (bops s[k].toNat)) := by
        rw [sops_take HN.out, fin_app, wt_app]; exact Lib.hid ⟨rfl, rfl⟩
      clear hlen HN
      generalize fin c0 (sops (s.data.toList.take k)) = c at *
      generalize wt c0 (sops (s.data.toList.take k)) = bs at *
      go_wp2_with fail
      go_loopw [5, 6, 7] (fun x r _ V => ∃ (j a : Nat) (rr : Int), j ≤ 8 ∧ rr = 7 - (j : Int) ∧ x = .int .i64 (a : Int) ∧ r = .int .i64 rr ∧ Hid (a = (256 + s[k].toNat) / 2 ^ (8 - j) ∧ RWS w [] b (fin c ((bops s[k].toNat).take j)) (bs ++ wt c ((bops s[k].toNat).take j)) V)) (fun _ r _ _ => (intOf r + 1).toNat)
      case atStart => exact ⟨0, 1, 7, by omega, rfl, rfl, rfl, Lib.hid ⟨by have := hB.out; omega, by have := HT.out; simpa [fin, wt] using this⟩⟩
      case round =>
        obtain ⟨j, x, rr, hj, hrr, rfl, rfl, HU⟩ := hrel
        clear HT
        have hx0 := HU.out.1
        have hB2 := hB.out
        have hj8 : j = 0 ∨ j = 1 ∨ j = 2 ∨ j = 3 ∨ j = 4 ∨ j = 5 ∨ j = 6 ∨ j = 7 ∨ j = 8 := by omega
        rcases hj8 with rfl | rfl | rfl | rfl | rfl | rfl | rfl | rfl | rfl
        · obtain rfl : rr = 7 := by omega
          clear hrr
          obtain ⟨y, hy⟩ : ∃ y, y = s[k].toNat / 128 % 2 := ⟨_, rfl⟩
          have hy1 : y ≤ 1 := by omega
          have hx1 : x < 256 := by omega
          have ha : bits .and .i64 ((s[k].toNat : Int) / 128) 1 = (y : Int) := by rw [and1, hy]; unfold bitn; omega
          have HX : Hid (x = (256 + s[k].toNat) / 256 ∧ y = s[k].toNat / 128 % 2) := Lib.hid ⟨hx0, hy⟩
          have HBT : Hid (∀ V, RWS w [] b (fin c ((bops s[k].toNat).take 0)) (bs ++ wt c ((bops s[k].toNat).take 0)) V → Calls Try.prog 22 #[.pointer (some ⟨b, 0, none⟩), .int .i64 x, .int .i64 y] V fun e w' => e = .returned (.tuple #[]) ∧ RWS w [] b (fin c ((bops s[k].toNat).take 1)) (bs ++ wt c ((bops s[k].toNat).take 1)) w') := fun V hV => by
            have h := rbitW_any b (x : Int) (y : Int) _ _ V (fin_ok HOK.out _) hV (by rw [List.length_append]; have := wt_len HOK.out ((bops s[k].toNat).take 0); have h4 := HL.out; have h3 : ((bops s[k].toNat).take 0).length ≤ 8 := (by rw [List.length_take, bops_len]; omega); omega)
            rw [ctx_nat hx1, bitn_nat hy1] at h
            have hg := bops_get s[k].toNat 0 (by omega)
            rw [take_next hg, fin_snoc, wt_snoc]
            simp only [Nat.reduceSub, Nat.reducePow]
            rw [← hx0, ← hy, ← List.append_assoc]
            exact h
          have hB3 : (s[k].toNat : Int) < 256 := by omega
          clear hx0 hy hB2
          go_wp2_with (go_at_call 22; refine (HBT.out _ HU.out.2).mono ?_; rintro e w2 ⟨rfl, h2⟩; have H2 := Lib.hid h2; clear h2)
          go_roundw
          case rel => exact ⟨1, 2 * x + y, 6, by omega, by omega, val_int (by omega), rfl, Lib.hid ⟨by have := HX.out; omega, H2.out⟩⟩
          case measure => simp [intOf]
        · obtain rfl : rr = 6 := by omega
          clear hrr
          obtain ⟨y, hy⟩ : ∃ y, y = s[k].toNat / 64 % 2 := ⟨_, rfl⟩
          have hy1 : y ≤ 1 := by omega
          have hx1 : x < 256 := by omega
          have ha : bits .and .i64 ((s[k].toNat : Int) / 64) 1 = (y : Int) := by rw [and1, hy]; unfold bitn; omega
          have HX : Hid (x = (256 + s[k].toNat) / 128 ∧ y = s[k].toNat / 64 % 2) := Lib.hid ⟨hx0, hy⟩
          have HBT : Hid (∀ V, RWS w [] b (fin c ((bops s[k].toNat).take 1)) (bs ++ wt c ((bops s[k].toNat).take 1)) V → Calls Try.prog 22 #[.pointer (some ⟨b, 0, none⟩), .int .i64 x, .int .i64 y] V fun e w' => e = .returned (.tuple #[]) ∧ RWS w [] b (fin c ((bops s[k].toNat).take 2)) (bs ++ wt c ((bops s[k].toNat).take 2)) w') := fun V hV => by
            have h := rbitW_any b (x : Int) (y : Int) _ _ V (fin_ok HOK.out _) hV (by rw [List.length_append]; have := wt_len HOK.out ((bops s[k].toNat).take 1); have h4 := HL.out; have h3 : ((bops s[k].toNat).take 1).length ≤ 8 := (by rw [List.length_take, bops_len]; omega); omega)
            rw [ctx_nat hx1, bitn_nat hy1] at h
            have hg := bops_get s[k].toNat 1 (by omega)
            rw [take_next hg, fin_snoc, wt_snoc]
            simp only [Nat.reduceSub, Nat.reducePow]
            rw [← hx0, ← hy, ← List.append_assoc]
            exact h
          have hB3 : (s[k].toNat : Int) < 256 := by omega
          clear hx0 hy hB2
          go_wp2_with (go_at_call 22; refine (HBT.out _ HU.out.2).mono ?_; rintro e w2 ⟨rfl, h2⟩; have H2 := Lib.hid h2; clear h2)
          go_roundw
          case rel => exact ⟨2, 2 * x + y, 5, by omega, by omega, val_int (by omega), rfl, Lib.hid ⟨by have := HX.out; omega, H2.out⟩⟩
          case measure => simp [intOf]
        · obtain rfl : rr = 5 := by omega
          clear hrr
          obtain ⟨y, hy⟩ : ∃ y, y = s[k].toNat / 32 % 2 := ⟨_, rfl⟩
          have hy1 : y ≤ 1 := by omega
          have hx1 : x < 256 := by omega
          have ha : bits .and .i64 ((s[k].toNat : Int) / 32) 1 = (y : Int) := by rw [and1, hy]; unfold bitn; omega
          have HX : Hid (x = (256 + s[k].toNat) / 64 ∧ y = s[k].toNat / 32 % 2) := Lib.hid ⟨hx0, hy⟩
          have HBT : Hid (∀ V, RWS w [] b (fin c ((bops s[k].toNat).take 2)) (bs ++ wt c ((bops s[k].toNat).take 2)) V → Calls Try.prog 22 #[.pointer (some ⟨b, 0, none⟩), .int .i64 x, .int .i64 y] V fun e w' => e = .returned (.tuple #[]) ∧ RWS w [] b (fin c ((bops s[k].toNat).take 3)) (bs ++ wt c ((bops s[k].toNat).take 3)) w') := fun V hV => by
            have h := rbitW_any b (x : Int) (y : Int) _ _ V (fin_ok HOK.out _) hV (by rw [List.length_append]; have := wt_len HOK.out ((bops s[k].toNat).take 2); have h4 := HL.out; have h3 : ((bops s[k].toNat).take 2).length ≤ 8 := (by rw [List.length_take, bops_len]; omega); omega)
            rw [ctx_nat hx1, bitn_nat hy1] at h
            have hg := bops_get s[k].toNat 2 (by omega)
            rw [take_next hg, fin_snoc, wt_snoc]
            simp only [Nat.reduceSub, Nat.reducePow]
            rw [← hx0, ← hy, ← List.append_assoc]
            exact h
          have hB3 : (s[k].toNat : Int) < 256 := by omega
          clear hx0 hy hB2
          go_wp2_with (go_at_call 22; refine (HBT.out _ HU.out.2).mono ?_; rintro e w2 ⟨rfl, h2⟩; have H2 := Lib.hid h2; clear h2)
          go_roundw
          case rel => exact ⟨3, 2 * x + y, 4, by omega, by omega, val_int (by omega), rfl, Lib.hid ⟨by have := HX.out; omega, H2.out⟩⟩
          case measure => simp [intOf]
        · obtain rfl : rr = 4 := by omega
          clear hrr
          obtain ⟨y, hy⟩ : ∃ y, y = s[k].toNat / 16 % 2 := ⟨_, rfl⟩
          have hy1 : y ≤ 1 := by omega
          have hx1 : x < 256 := by omega
          have ha : bits .and .i64 ((s[k].toNat : Int) / 16) 1 = (y : Int) := by rw [and1, hy]; unfold bitn; omega
          have HX : Hid (x = (256 + s[k].toNat) / 32 ∧ y = s[k].toNat / 16 % 2) := Lib.hid ⟨hx0, hy⟩
          have HBT : Hid (∀ V, RWS w [] b (fin c ((bops s[k].toNat).take 3)) (bs ++ wt c ((bops s[k].toNat).take 3)) V → Calls Try.prog 22 #[.pointer (some ⟨b, 0, none⟩), .int .i64 x, .int .i64 y] V fun e w' => e = .returned (.tuple #[]) ∧ RWS w [] b (fin c ((bops s[k].toNat).take 4)) (bs ++ wt c ((bops s[k].toNat).take 4)) w') := fun V hV => by
            have h := rbitW_any b (x : Int) (y : Int) _ _ V (fin_ok HOK.out _) hV (by rw [List.length_append]; have := wt_len HOK.out ((bops s[k].toNat).take 3); have h4 := HL.out; have h3 : ((bops s[k].toNat).take 3).length ≤ 8 := (by rw [List.length_take, bops_len]; omega); omega)
            rw [ctx_nat hx1, bitn_nat hy1] at h
            have hg := bops_get s[k].toNat 3 (by omega)
            rw [take_next hg, fin_snoc, wt_snoc]
            simp only [Nat.reduceSub, Nat.reducePow]
            rw [← hx0, ← hy, ← List.append_assoc]
            exact h
          have hB3 : (s[k].toNat : Int) < 256 := by omega
          clear hx0 hy hB2
          go_wp2_with (go_at_call 22; refine (HBT.out _ HU.out.2).mono ?_; rintro e w2 ⟨rfl, h2⟩; have H2 := Lib.hid h2; clear h2)
          go_roundw
          case rel => exact ⟨4, 2 * x + y, 3, by omega, by omega, val_int (by omega), rfl, Lib.hid ⟨by have := HX.out; omega, H2.out⟩⟩
          case measure => simp [intOf]
        · obtain rfl : rr = 3 := by omega
          clear hrr
          obtain ⟨y, hy⟩ : ∃ y, y = s[k].toNat / 8 % 2 := ⟨_, rfl⟩
          have hy1 : y ≤ 1 := by omega
          have hx1 : x < 256 := by omega
          have ha : bits .and .i64 ((s[k].toNat : Int) / 8) 1 = (y : Int) := by rw [and1, hy]; unfold bitn; omega
          have HX : Hid (x = (256 + s[k].toNat) / 16 ∧ y = s[k].toNat / 8 % 2) := Lib.hid ⟨hx0, hy⟩
          have HBT : Hid (∀ V, RWS w [] b (fin c ((bops s[k].toNat).take 4)) (bs ++ wt c ((bops s[k].toNat).take 4)) V → Calls Try.prog 22 #[.pointer (some ⟨b, 0, none⟩), .int .i64 x, .int .i64 y] V fun e w' => e = .returned (.tuple #[]) ∧ RWS w [] b (fin c ((bops s[k].toNat).take 5)) (bs ++ wt c ((bops s[k].toNat).take 5)) w') := fun V hV => by
            have h := rbitW_any b (x : Int) (y : Int) _ _ V (fin_ok HOK.out _) hV (by rw [List.length_append]; have := wt_len HOK.out ((bops s[k].toNat).take 4); have h4 := HL.out; have h3 : ((bops s[k].toNat).take 4).length ≤ 8 := (by rw [List.length_take, bops_len]; omega); omega)
            rw [ctx_nat hx1, bitn_nat hy1] at h
            have hg := bops_get s[k].toNat 4 (by omega)
            rw [take_next hg, fin_snoc, wt_snoc]
            simp only [Nat.reduceSub, Nat.reducePow]
            rw [← hx0, ← hy, ← List.append_assoc]
            exact h
          have hB3 : (s[k].toNat : Int) < 256 := by omega
          clear hx0 hy hB2
          go_wp2_with (go_at_call 22; refine (HBT.out _ HU.out.2).mono ?_; rintro e w2 ⟨rfl, h2⟩; have H2 := Lib.hid h2; clear h2)
          go_roundw
          case rel => exact ⟨5, 2 * x + y, 2, by omega, by omega, val_int (by omega), rfl, Lib.hid ⟨by have := HX.out; omega, H2.out⟩⟩
          case measure => simp [intOf]
        · obtain rfl : rr = 2 := by omega
          clear hrr
          obtain ⟨y, hy⟩ : ∃ y, y = s[k].toNat / 4 % 2 := ⟨_, rfl⟩
          have hy1 : y ≤ 1 := by omega
          have hx1 : x < 256 := by omega
          have ha : bits .and .i64 ((s[k].toNat : Int) / 4) 1 = (y : Int) := by rw [and1, hy]; unfold bitn; omega
          have HX : Hid (x = (256 + s[k].toNat) / 8 ∧ y = s[k].toNat / 4 % 2) := Lib.hid ⟨hx0, hy⟩
          have HBT : Hid (∀ V, RWS w [] b (fin c ((bops s[k].toNat).take 5)) (bs ++ wt c ((bops s[k].toNat).take 5)) V → Calls Try.prog 22 #[.pointer (some ⟨b, 0, none⟩), .int .i64 x, .int .i64 y] V fun e w' => e = .returned (.tuple #[]) ∧ RWS w [] b (fin c ((bops s[k].toNat).take 6)) (bs ++ wt c ((bops s[k].toNat).take 6)) w') := fun V hV => by
            have h := rbitW_any b (x : Int) (y : Int) _ _ V (fin_ok HOK.out _) hV (by rw [List.length_append]; have := wt_len HOK.out ((bops s[k].toNat).take 5); have h4 := HL.out; have h3 : ((bops s[k].toNat).take 5).length ≤ 8 := (by rw [List.length_take, bops_len]; omega); omega)
            rw [ctx_nat hx1, bitn_nat hy1] at h
            have hg := bops_get s[k].toNat 5 (by omega)
            rw [take_next hg, fin_snoc, wt_snoc]
            simp only [Nat.reduceSub, Nat.reducePow]
            rw [← hx0, ← hy, ← List.append_assoc]
            exact h
          have hB3 : (s[k].toNat : Int) < 256 := by omega
          clear hx0 hy hB2
          go_wp2_with (go_at_call 22; refine (HBT.out _ HU.out.2).mono ?_; rintro e w2 ⟨rfl, h2⟩; have H2 := Lib.hid h2; clear h2)
          go_roundw
          case rel => exact ⟨6, 2 * x + y, 1, by omega, by omega, val_int (by omega), rfl, Lib.hid ⟨by have := HX.out; omega, H2.out⟩⟩
          case measure => simp [intOf]
        · obtain rfl : rr = 1 := by omega
          clear hrr
          obtain ⟨y, hy⟩ : ∃ y, y = s[k].toNat / 2 % 2 := ⟨_, rfl⟩
          have hy1 : y ≤ 1 := by omega
          have hx1 : x < 256 := by omega
          have ha : bits .and .i64 ((s[k].toNat : Int) / 2) 1 = (y : Int) := by rw [and1, hy]; unfold bitn; omega
          have HX : Hid (x = (256 + s[k].toNat) / 4 ∧ y = s[k].toNat / 2 % 2) := Lib.hid ⟨hx0, hy⟩
          have HBT : Hid (∀ V, RWS w [] b (fin c ((bops s[k].toNat).take 6)) (bs ++ wt c ((bops s[k].toNat).take 6)) V → Calls Try.prog 22 #[.pointer (some ⟨b, 0, none⟩), .int .i64 x, .int .i64 y] V fun e w' => e = .returned (.tuple #[]) ∧ RWS w [] b (fin c ((bops s[k].toNat).take 7)) (bs ++ wt c ((bops s[k].toNat).take 7)) w') := fun V hV => by
            have h := rbitW_any b (x : Int) (y : Int) _ _ V (fin_ok HOK.out _) hV (by rw [List.length_append]; have := wt_len HOK.out ((bops s[k].toNat).take 6); have h4 := HL.out; have h3 : ((bops s[k].toNat).take 6).length ≤ 8 := (by rw [List.length_take, bops_len]; omega); omega)
            rw [ctx_nat hx1, bitn_nat hy1] at h
            have hg := bops_get s[k].toNat 6 (by omega)
            rw [take_next hg, fin_snoc, wt_snoc]
            simp only [Nat.reduceSub, Nat.reducePow]
            rw [← hx0, ← hy, ← List.append_assoc]
            exact h
          have hB3 : (s[k].toNat : Int) < 256 := by omega
          clear hx0 hy hB2
          go_wp2_with (go_at_call 22; refine (HBT.out _ HU.out.2).mono ?_; rintro e w2 ⟨rfl, h2⟩; have H2 := Lib.hid h2; clear h2)
          go_roundw
          case rel => exact ⟨7, 2 * x + y, 0, by omega, by omega, val_int (by omega), rfl, Lib.hid ⟨by have := HX.out; omega, H2.out⟩⟩
          case measure => simp [intOf]
        · obtain rfl : rr = 0 := by omega
          clear hrr
          obtain ⟨y, hy⟩ : ∃ y, y = s[k].toNat % 2 := ⟨_, rfl⟩
          have hy1 : y ≤ 1 := by omega
          have hx1 : x < 256 := by omega
          have ha : bits .and .i64 ((s[k].toNat : Int)) 1 = (y : Int) := by rw [and1, hy]; unfold bitn; omega
          have HX : Hid (x = (256 + s[k].toNat) / 2 ∧ y = s[k].toNat % 2) := Lib.hid ⟨hx0, hy⟩
          have HBT : Hid (∀ V, RWS w [] b (fin c ((bops s[k].toNat).take 7)) (bs ++ wt c ((bops s[k].toNat).take 7)) V → Calls Try.prog 22 #[.pointer (some ⟨b, 0, none⟩), .int .i64 x, .int .i64 y] V fun e w' => e = .returned (.tuple #[]) ∧ RWS w [] b (fin c ((bops s[k].toNat).take 8)) (bs ++ wt c ((bops s[k].toNat).take 8)) w') := fun V hV => by
            have h := rbitW_any b (x : Int) (y : Int) _ _ V (fin_ok HOK.out _) hV (by rw [List.length_append]; have := wt_len HOK.out ((bops s[k].toNat).take 7); have h4 := HL.out; have h3 : ((bops s[k].toNat).take 7).length ≤ 8 := (by rw [List.length_take, bops_len]; omega); omega)
            rw [ctx_nat hx1, bitn_nat hy1] at h
            have hg := bops_get s[k].toNat 7 (by omega)
            rw [take_next hg, fin_snoc, wt_snoc]
            simp only [Nat.reduceSub, Nat.reducePow, Nat.div_one]
            rw [← hx0, ← hy, ← List.append_assoc]
            exact h
          have hB3 : (s[k].toNat : Int) < 256 := by omega
          clear hx0 hy hB2
          go_wp2_with (go_at_call 22; refine (HBT.out _ HU.out.2).mono ?_; rintro e w2 ⟨rfl, h2⟩; have H2 := Lib.hid h2; clear h2)
          go_roundw
          case rel => exact ⟨8, 2 * x + y, -1, by omega, by omega, val_int (by omega), rfl, Lib.hid ⟨by have := HX.out; omega, H2.out⟩⟩
          case measure => simp [intOf]
        · obtain rfl : rr = -1 := by omega
          clear hrr
          go_wp2_with fail
          go_roundw
          case rel => exact ⟨k + 1, by omega, by go_num, Lib.hid (by rw [HSN.out.1, HSN.out.2]; exact HU.out.2)⟩
          case measure => simp [intOf]; omega
    · obtain rfl : k = s.size := by omega
      have e1 : s.data.toList.take s.size = s.data.toList := List.take_of_length_le (by rw [Array.length_toList]; exact Nat.le_refl _)
      rw [e1] at HT hlen
      have HL := Lib.hid hlen
      clear hlen e1
      go_wp2_with (go_at_call 24; refine (rbytesW_any b _ _ _ (fin_ok c0_ok _) HT.out (by have := HL.out; omega)).mono ?_; rintro e w2 ⟨rfl, h2⟩)
      go_ret
      exact ⟨rfl, (HT.out.hs.later h2).below⟩
end Go.Proofs.Ytbfnahclkajahaa.C
