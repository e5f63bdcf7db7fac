/-
  What Minus of the reference returns.
-/
import Derived.Test.YtjadccelplnpnaaSame
namespace Go.Proofs.Ytjadccelplnpnaa
open Go.RowKit

set_option maxRecDepth 100000 in
set_option maxHeartbeats 4000000 in
theorem refMinus_any (a0 a1 a2 a3 b0 b1 b2 b3 : Int) (w : World) : Calls Try.prog 54 #[rv a0 a1 a2 a3, rv b0 b1 b2 b3] w fun e w' => ∃ v, e = .returned v ∧
    w'.ownsRow w.heap.size 23 4 v (minus ⟨a0, a1, a2, a3⟩ ⟨b0, b1, b2, b3⟩).length (rcs (minus ⟨a0, a1, a2, a3⟩ ⟨b0, b1, b2, b3⟩)) ∧ Below w.heap.size w w' := by
  have HM : Hid (minus ⟨a0, a1, a2, a3⟩ ⟨b0, b1, b2, b3⟩ = (prt (nrm (mx a0 b0) (mx a1 b1) (mn a2 b2) (mn a3 b3)) ⟨a0, a1, a2, a3⟩).filter nonemp) := rfl
  go_enter Try.func54, Try.ntmps54
  go_upto_region 1 with fail
  have hs := ((St.start w).alloc (ro a0 a1 a2 a3)).alloc (ro b0 b1 b2 b3)
  rw [World.size_alloc] at hs
  have HC : Hid (∀ V, St w [(w.heap.size + 1, ro b0 b1 b2 b3), (w.heap.size, ro a0 a1 a2 a3)] V → RB V w.heap.size a0 a1 a2 a3 ∧ RB V (w.heap.size + 1) b0 b1 b2 b3) := fun V hV =>
    ⟨hV.rect (by simp), hV.rect (by simp)⟩
  generalize (w.alloc (ro a0 a1 a2 a3)).alloc (ro b0 b1 b2 b3) = w1 at hs ⊢
  obtain ⟨hr1, hr2⟩ := HC.out _ hs
  go_upto_region 2 with (go_at_call 50; (with_reducible refine (St.call hs (refInter_any _ _ _ _ _ _ _ _ _)).mono ?_); rintro e w4 ⟨rfl, h4⟩)
  clear hr1 hr2 HC hs
  generalize nrm (mx a0 b0) (mx a1 b1) (mn a2 b2) (mn a3 b3) = H at HM ⊢
  have hs := h4.alloc (ro H.x0 H.y0 H.x1 H.y1)
  clear h4
  generalize hb4 : w4.heap.size = b4 at hs ⊢
  obtain ⟨L, hL⟩ : ∃ L, L = [(b4, ro H.x0 H.y0 H.x1 H.y1), (w.heap.size + 1, ro b0 b1 b2 b3), (w.heap.size, ro a0 a1 a2 a3)] := ⟨_, rfl⟩
  rw [← hL] at hs
  have HC : Hid (∀ V, St w L V → RB V w.heap.size a0 a1 a2 a3 ∧ RB V b4 H.x0 H.y0 H.x1 H.y1) := fun V hV => by
    subst hL; exact ⟨hV.rect (by simp), hV.rect (by simp)⟩
  clear hL hb4
  generalize w4.alloc (ro H.x0 H.y0 H.x1 H.y1) = w5 at hs ⊢
  obtain ⟨hr1, hr2⟩ := HC.out _ hs
  go_upto_region 3 with (go_at_call 44; (with_reducible refine (St.call hs (refEmpty_any _ _ _ _ _)).mono ?_); rintro e w6 ⟨rfl, h6⟩)
  clear hr1 hr2 hs
  obtain ⟨hr1, hr2⟩ := HC.out _ h6
  go_upto_region 4 with fail
  have hs := h6.alloc (.cells #[.int .i64 a0, .int .i64 a1, .int .i64 a2, .int .i64 H.y0, .int .i64 a0, .int .i64 H.y1, .int .i64 a2, .int .i64 a3, .int .i64 a0, .int .i64 H.y0, .int .i64 H.x0, .int .i64 H.y1, .int .i64 H.x1, .int .i64 H.y0, .int .i64 a2, .int .i64 H.y1] 23)
  have hall : Hid (emp H.x0 H.y0 H.x1 H.y1 = false → RcsAt (w6.alloc (.cells #[.int .i64 a0, .int .i64 a1, .int .i64 a2, .int .i64 H.y0, .int .i64 a0, .int .i64 H.y1, .int .i64 a2, .int .i64 a3, .int .i64 a0, .int .i64 H.y0, .int .i64 H.x0, .int .i64 H.y1, .int .i64 H.x1, .int .i64 H.y0, .int .i64 a2, .int .i64 H.y1] 23)) (.slice (some ⟨w6.heap.size, 0, none⟩) 4 4) (prt H ⟨a0, a1, a2, a3⟩)) := fun he => by
    have e : prt H ⟨a0, a1, a2, a3⟩ = [⟨a0, a1, a2, H.y0⟩, ⟨a0, H.y1, a2, a3⟩, ⟨a0, H.y0, H.x0, H.y1⟩, ⟨H.x1, H.y0, a2, H.y1⟩] := by unfold prt; rw [if_neg (by rw [he]; decide)]
    rw [e]
    exact rcsAt_block _ (World.alloc_heap_new w6 _) rfl rfl (by simp)
  have HS : Hid (St w L (w6.alloc (.cells #[.int .i64 a0, .int .i64 a1, .int .i64 a2, .int .i64 H.y0, .int .i64 a0, .int .i64 H.y1, .int .i64 a2, .int .i64 a3, .int .i64 a0, .int .i64 H.y0, .int .i64 H.x0, .int .i64 H.y1, .int .i64 H.x1, .int .i64 H.y0, .int .i64 a2, .int .i64 H.y1] 23))) := hs.sub (fun x hx => by simp [hx])
  clear hr1 hr2 hs h6
  generalize w6.alloc (.cells #[.int .i64 a0, .int .i64 a1, .int .i64 a2, .int .i64 H.y0, .int .i64 a0, .int .i64 H.y1, .int .i64 a2, .int .i64 a3, .int .i64 a0, .int .i64 H.y0, .int .i64 H.x0, .int .i64 H.y1, .int .i64 H.x1, .int .i64 H.y0, .int .i64 a2, .int .i64 H.y1] 23) = w7 at hall HS ⊢
  obtain ⟨hr1, hr2⟩ := HC.out _ HS.out
  have hpl := prt_len H ⟨a0, a1, a2, a3⟩
  obtain ⟨inf, hi, hz0, hz1, hz2⟩ := info_parts Try.infoRect
  cases he : emp H.x0 H.y0 H.x1 H.y1
  case false =>
    have HA := Lib.hid (hall.out he)
    have hbel := HS.out.below
    clear hall HS hr1 hr2 HC
    go_upto_region 7 with fail
    generalize hP : prt H ⟨a0, a1, a2, a3⟩ = P at HA hpl HM
    have HP := Lib.hid hP; clear hP
    generalize w7 = wA at HA hbel ⊢
    generalize w6.heap.size = bA at HA ⊢
    go_wp2
    go_loopw [8, 9] (fun v i wr => ∃ k : Nat, k ≤ P.length ∧ i = .int .i64 k ∧ Hid (wr.ownsRow wA.heap.size 23 4 v ((P.take k).filter nonemp).length (rcs ((P.take k).filter nonemp)) ∧ Below wA.heap.size wA wr)) (fun _ i _ => P.length - (intOf i).toNat)
    case atStart => exact ⟨0, Nat.zero_le _, rfl, World.ownsRow_nil _ _ _ _, Below.refl _ _⟩
    case round =>
      obtain ⟨k, hk, rfl, hh⟩ := hrel
      obtain ⟨hrow, hB⟩ := hh.out
      obtain ⟨hn, hri⟩ := (HA.out.later hB).get
      by_cases hlt : k < 4
      · obtain ⟨hbl, x0, x1, x2, x3⟩ := hri k (by omega)
        have HT : Hid (P.take (k + 1) = P.take k ++ [P[k]'(by omega)]) := by
          unfold Hid; rw [List.take_add_one, List.getElem?_eq_getElem (by omega)]; rfl
        have hkl : ((P.take k).filter nonemp).length ≤ 4 := by
          have h1 := List.length_filter_le nonemp (P.take k)
          have h2 := List.length_take_le k P
          omega
        generalize P[k]'(by omega) = x at HT x0 x1 x2 x3
        have HN := Lib.hid hn; clear hn hri
        cases hex : emp x.x0 x.y0 x.x1 x.y1
        case true =>
          go_wp2_with (go_at_call 44; (with_reducible refine (refEmpty_any _ _ _ _ _).mono ?_); rintro e W1 ⟨rfl, hb⟩)
          go_roundw
          case rel => exact ⟨k + 1, by have := HN.out; omega, by go_num, by rw [HT.out, filt_no _ hex]; exact hrow.kept (grown_below hb) (by cases h : Value.ownBlock _ <;> simp), hB.trans (hb.mono hB.size)⟩
          case measure => simp [intOf]; have := HN.out; omega
        case false =>
          go_upto_if 68 with (go_at_call 44; (with_reducible refine (refEmpty_any _ _ _ _ _).mono ?_); rintro e W1 ⟨rfl, hb⟩)
          have hcb : ∀ j, W1.cell? ⟨bA, j, none⟩ = wr.cell? ⟨bA, j, none⟩ := fun j => hb.cell (p := ⟨bA, j, none⟩) hbl
          rw [← hcb] at x0 x1 x2 x3
          have hrow1 := hrow.kept (grown_below hb) (by cases h : Value.ownBlock _ <;> simp)
          have hB1 := hB.trans (hb.mono hB.size)
          clear hcb hrow hB hh
          have T2 : wA.heap.size ≤ (W1.alloc (ro x.x0 x.y0 x.x1 x.y1)).heap.size := by have := hB1.size; simp; omega
          have T4 : ∀ u ∈ [Value.int .i64 x.x0, .int .i64 x.y0, .int .i64 x.x1, .int .i64 x.y1], u.oneCell' = true := by simp [Value.oneCell']
          have T5 : ((P.take k).filter nonemp).length + 1 ≤ maxLen := by unfold maxLen; omega
          have T6 : (((P.take k).filter nonemp).length + 1) * 32 ≤ 140737488355328 := by omega
          go_wp2_with (at_builtin; refine wpList_append_own _ rfl (.tmp 69) (.tmp 74) 42 rfl wA.heap.size 23 inf (rv 0 0 0 0) 4 32 Try.underlying42 hi hz0 hz1 hz2 rfl (by decide) _ _ _ (by rfl) (hrow1.alloc _) ⟨W1.heap.size, 0, none⟩ 1 1 [.int .i64 x.x0, .int .i64 x.y0, .int .i64 x.x1, .int .i64 x.y1] (by rfl) rfl (cell4_new _ _ _ _ _ _) T4 T5 T6 T2 ?_; intro v' w2 hown' hgrow _)
          go_roundw
          case rel => exact ⟨k + 1, by have := HN.out; omega, by go_num, by rw [HT.out, filt_yes _ hex, rcs_snoc]; simpa using hown', hB1.trans (below_appended hrow1 hB1.size hgrow)⟩
          case measure => simp [intOf]; have := HN.out; omega
      · go_wp2
        go_ret
        rw [List.take_of_length_le (by omega)] at hrow
        rw [HM.out]
        exact ⟨u8, by simp, ownsRow_le hrow hbel.size, hbel.trans (hB.mono hbel.size)⟩
  case true =>
    have HA : Hid (RcsAt (w7.alloc (ro a0 a1 a2 a3)) (.slice (some ⟨w7.heap.size, 0, none⟩) 1 1) (prt H ⟨a0, a1, a2, a3⟩)) := by
      have e : prt H ⟨a0, a1, a2, a3⟩ = [⟨a0, a1, a2, a3⟩] := by unfold prt; rw [if_pos he]
      unfold Hid; rw [e]
      exact rcsAt_block _ (World.alloc_heap_new w7 _) rfl rfl (by simp)
    have hbel := (HS.out.alloc (ro a0 a1 a2 a3)).below
    clear hall HS
    go_upto_region 7 with fail
    generalize hP : prt H ⟨a0, a1, a2, a3⟩ = P at HA hpl HM
    have HP := Lib.hid hP; clear hP
    generalize w7.alloc (ro a0 a1 a2 a3) = wA at HA hbel ⊢
    generalize w7.heap.size = bA at HA ⊢
    go_wp2
    go_loopw [8, 9] (fun v i wr => ∃ k : Nat, k ≤ P.length ∧ i = .int .i64 k ∧ Hid (wr.ownsRow wA.heap.size 23 4 v ((P.take k).filter nonemp).length (rcs ((P.take k).filter nonemp)) ∧ Below wA.heap.size wA wr)) (fun _ i _ => P.length - (intOf i).toNat)
    case atStart => exact ⟨0, Nat.zero_le _, rfl, World.ownsRow_nil _ _ _ _, Below.refl _ _⟩
    case round =>
      obtain ⟨k, hk, rfl, hh⟩ := hrel
      obtain ⟨hrow, hB⟩ := hh.out
      obtain ⟨hn, hri⟩ := (HA.out.later hB).get
      by_cases hlt : k < 1
      · obtain ⟨hbl, x0, x1, x2, x3⟩ := hri k (by omega)
        have HT : Hid (P.take (k + 1) = P.take k ++ [P[k]'(by omega)]) := by
          unfold Hid; rw [List.take_add_one, List.getElem?_eq_getElem (by omega)]; rfl
        have hkl : ((P.take k).filter nonemp).length ≤ 4 := by
          have h1 := List.length_filter_le nonemp (P.take k)
          have h2 := List.length_take_le k P
          omega
        generalize P[k]'(by omega) = x at HT x0 x1 x2 x3
        have HN := Lib.hid hn; clear hn hri
        cases hex : emp x.x0 x.y0 x.x1 x.y1
        case true =>
          go_wp2_with (go_at_call 44; (with_reducible refine (refEmpty_any _ _ _ _ _).mono ?_); rintro e W1 ⟨rfl, hb⟩)
          go_roundw
          case rel => exact ⟨k + 1, by have := HN.out; omega, by go_num, by rw [HT.out, filt_no _ hex]; exact hrow.kept (grown_below hb) (by cases h : Value.ownBlock _ <;> simp), hB.trans (hb.mono hB.size)⟩
          case measure => simp [intOf]; have := HN.out; omega
        case false =>
          go_upto_if 68 with (go_at_call 44; (with_reducible refine (refEmpty_any _ _ _ _ _).mono ?_); rintro e W1 ⟨rfl, hb⟩)
          have hcb : ∀ j, W1.cell? ⟨bA, j, none⟩ = wr.cell? ⟨bA, j, none⟩ := fun j => hb.cell (p := ⟨bA, j, none⟩) hbl
          rw [← hcb] at x0 x1 x2 x3
          have hrow1 := hrow.kept (grown_below hb) (by cases h : Value.ownBlock _ <;> simp)
          have hB1 := hB.trans (hb.mono hB.size)
          clear hcb hrow hB hh
          have T2 : wA.heap.size ≤ (W1.alloc (ro x.x0 x.y0 x.x1 x.y1)).heap.size := by have := hB1.size; simp; omega
          have T4 : ∀ u ∈ [Value.int .i64 x.x0, .int .i64 x.y0, .int .i64 x.x1, .int .i64 x.y1], u.oneCell' = true := by simp [Value.oneCell']
          have T5 : ((P.take k).filter nonemp).length + 1 ≤ maxLen := by unfold maxLen; omega
          have T6 : (((P.take k).filter nonemp).length + 1) * 32 ≤ 140737488355328 := by omega
          go_wp2_with (at_builtin; refine wpList_append_own _ rfl (.tmp 69) (.tmp 74) 42 rfl wA.heap.size 23 inf (rv 0 0 0 0) 4 32 Try.underlying42 hi hz0 hz1 hz2 rfl (by decide) _ _ _ (by rfl) (hrow1.alloc _) ⟨W1.heap.size, 0, none⟩ 1 1 [.int .i64 x.x0, .int .i64 x.y0, .int .i64 x.x1, .int .i64 x.y1] (by rfl) rfl (cell4_new _ _ _ _ _ _) T4 T5 T6 T2 ?_; intro v' w2 hown' hgrow _)
          go_roundw
          case rel => exact ⟨k + 1, by have := HN.out; omega, by go_num, by rw [HT.out, filt_yes _ hex, rcs_snoc]; simpa using hown', hB1.trans (below_appended hrow1 hB1.size hgrow)⟩
          case measure => simp [intOf]; have := HN.out; omega
      · go_wp2
        go_ret
        rw [List.take_of_length_le (by omega)] at hrow
        rw [HM.out]
        exact ⟨u8, by simp, ownsRow_le hrow hbel.size, hbel.trans (hB.mono hbel.size)⟩
end Go.Proofs.Ytjadccelplnpnaa
