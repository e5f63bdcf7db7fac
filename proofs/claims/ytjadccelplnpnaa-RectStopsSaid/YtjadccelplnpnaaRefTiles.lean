/-
  What Tiles of the reference returns: the first n positions.
-/
import Derived.Test.YtjadccelplnpnaaTiles
import Derived.Test.YtjadccelplnpnaaRefMinus
import Derived.Test.YtjadccelplnpnaaMath
namespace Go.Proofs.Ytjadccelplnpnaa
open Go.RowKit

set_option maxRecDepth 100000 in
set_option maxHeartbeats 4000000 in
theorem refTiles_any (x0 y0 x1 y1 : Int) (N : Nat) (w : World) (hx0 : -100000 ≤ x0) (hx1 : x1 ≤ 100000) (hy0 : -100000 ≤ y0) (hy1 : y1 ≤ 100000) (hN : N ≤ 1000) : Calls Try.prog 38 #[rv x0 y0 x1 y1, .int .i64 N] w fun e w' => ∃ v, e = .returned v ∧
    w'.ownsRow w.heap.size 30 2 v ((tiles x0 y0 x1 y1).take N).length (tcs ((tiles x0 y0 x1 y1).take N)) ∧ Below w.heap.size w w' := by
  obtain ⟨inf, hi, hz0, hz1, hz2⟩ := info_parts Try.infoPos
  have HE := emp_not x0 y0 x1 y1
  go_enter Try.func38, Try.ntmps38
  go_upto_region 1 with fail
  have hs := (St.start w).alloc (ro x0 y0 x1 y1)
  have HC : Hid (∀ V, St w [(w.heap.size, ro x0 y0 x1 y1)] V → RB V w.heap.size x0 y0 x1 y1) := fun V hV => hV.rect (by simp)
  generalize w.alloc (ro x0 y0 x1 y1) = w1 at hs ⊢
  obtain ⟨r0, r1, r2, r3⟩ := HC.out _ hs
  go_upto_region 3 with (go_at_call 44; (with_reducible refine (St.call hs (refEmpty_any _ _ _ _ _)).mono ?_); rintro e w2 ⟨rfl, h2⟩)
  clear hs r0 r1 r2 r3
  obtain ⟨r0, r1, r2, r3⟩ := HC.out _ h2
  cases he : emp x0 y0 x1 y1
  case true =>
    have ht : tiles x0 y0 x1 y1 = [] := by unfold tiles; rw [if_pos he]
    clear HE
    go_wp2
    go_ret
    rw [ht, List.take_nil]
    exact ⟨.slice none 0 0, rfl, World.ownsRow_nil _ _ _ _, h2.below⟩
  case false =>
    have hpos := HE.1 he
    clear HE
    have hw1 : IntKind.i64.wrap (x1 - 1) = x1 - 1 := IntWalk.i64_in _ ⟨by omega, by omega⟩
    have hw2 : IntKind.i64.wrap (y1 - 1) = y1 - 1 := IntWalk.i64_in _ ⟨by omega, by omega⟩
    have e1 := Lib.hid <| flo8 (a := x0) (by omega) (by omega)
    have e2 := Lib.hid <| flo8 (a := y0) (by omega) (by omega)
    have e3 := Lib.hid <| flo8 (a := x1 - 1) (by omega) (by omega)
    have e4 := Lib.hid <| flo8 (a := y1 - 1) (by omega) (by omega)
    have HT : Hid (tiles x0 y0 x1 y1 = tls (flo x0 8) (flo y0 8) (flo (x1 - 1) 8 - flo x0 8 + 1).toNat (flo (y1 - 1) 8 - flo y0 8 + 1).toNat) := by unfold Hid tiles; rw [if_neg (by rw [he]; decide)]
    go_upto_region 6 with (go_at_call 23; (with_reducible refine (St.call h2 (refAt_any _ _ _)).mono ?_); rintro e w3 ⟨rfl, h3⟩)
    clear h2 r0 r1 r2 r3
    have hs := h3.alloc (tob (flo x0 8) (flo y0 8))
    clear h3
    obtain ⟨r0, r1, r2, r3⟩ := HC.out _ (hs.sub (fun x hx => by simp at hx; simp [hx]))
    generalize w3.heap.size = ba at hs ⊢
    generalize w3.alloc (tob (flo x0 8) (flo y0 8)) = w4 at hs r0 r1 r2 r3 ⊢
    go_upto_region 7 with (go_at_call 23; (with_reducible refine (St.call hs (refAt_any _ _ _)).mono ?_); rintro e w5 ⟨rfl, h5⟩)
    clear hs r0 r1 r2 r3 HC
    have hs := h5.alloc (tob (flo (x1 - 1) 8) (flo (y1 - 1) 8))
    clear h5
    generalize w5.heap.size = bb at hs ⊢
    generalize w5.alloc (tob (flo (x1 - 1) 8) (flo (y1 - 1) 8)) = w6 at hs ⊢
    generalize hfx : flo x0 8 = fx at hs HT e1 ⊢
    generalize hfy : flo y0 8 = fy at hs HT e2 ⊢
    generalize hlx : flo (x1 - 1) 8 = lx at hs HT e3 ⊢
    generalize hly : flo (y1 - 1) 8 = ly at hs HT e4 ⊢
    have e1 := e1.out; have e2 := e2.out; have e3 := e3.out; have e4 := e4.out
    obtain ⟨c, hc⟩ : ∃ c : Nat, (c : Int) = lx - fx + 1 := ⟨(lx - fx + 1).toNat, by omega⟩
    obtain ⟨r, hr⟩ : ∃ r : Nat, (r : Int) = ly - fy + 1 := ⟨(ly - fy + 1).toNat, by omega⟩
    have b1 : -20000 ≤ fx ∧ fx ≤ 20000 ∧ -20000 ≤ lx ∧ lx ≤ 20000 ∧ -20000 ≤ fy ∧ fy ≤ 20000 ∧ -20000 ≤ ly ∧ ly ≤ 20000 := by omega
    clear hfx hfy hlx hly e1 e2 e3 e4 hw1 hw2 hpos hx0 hx1 hy0 hy1
    have HT2 : Hid (tiles x0 y0 x1 y1 = tls fx fy c r) := by
      unfold Hid; rw [HT.out]; congr 1 <;> omega
    clear HT he
    have HTk := tls_take fx fy c r
    have HTl := tls_len fx fy c r
    generalize hTT : tiles x0 y0 x1 y1 = T at HT2 ⊢
    have hTT := Lib.hid hTT
    rw [← HT2.out] at HTk HTl
    clear HT2
    replace HTk := Lib.hid HTk
    obtain ⟨L, hL⟩ : ∃ L, L = [(bb, tob lx ly), (ba, tob fx fy), (w.heap.size, ro x0 y0 x1 y1)] := ⟨_, rfl⟩
    rw [← hL] at hs
    have hm1 : (bb, tob lx ly) ∈ L := by rw [hL]; simp
    have hm2 : (ba, tob fx fy) ∈ L := by rw [hL]; simp
    have HM := Lib.hid (And.intro hm1 hm2)
    clear hm1 hm2 hL
    have HQ : Hid (∀ V, Below w6.heap.size w6 V → TB V ba fx fy ∧ TB V bb lx ly) := fun V hV =>
      ⟨⟨(hs.later hV).cell HM.out.2 0, (hs.later hV).cell HM.out.2 1⟩, ⟨(hs.later hV).cell HM.out.1 0, (hs.later hV).cell HM.out.1 1⟩⟩
    clear HM
    have hbel := hs.below
    clear hs
    obtain ⟨⟨a0, a1⟩, ⟨d0, d1⟩⟩ := HQ.out _ (Below.refl _ w6)
    go_wp2_with fail
    clear a0 a1 d0 d1
    go_loopw [5, 9, 10] (fun v y _ wr => ∃ k : Nat, k ≤ r ∧ y = .int .i64 (fy + k) ∧ Hid (∃ q, q ≤ N ∧ (q = k * c ∨ (q = N ∧ N ≤ k * c)) ∧ wr.ownsRow w6.heap.size 30 2 v q (tcs (T.take q)) ∧ Below w6.heap.size w6 wr)) (fun _ y _ _ => (fy + r - intOf y).toNat)
    case atStart => exact ⟨0, Nat.zero_le _, by simp, 0, Nat.zero_le _, .inl (by simp), World.ownsRow_nil _ _ _ _, Below.refl _ _⟩
    case round =>
      obtain ⟨k, hk, rfl, hh⟩ := hrel
      obtain ⟨q, hqN, hq, hrow, hB⟩ := hh.out
      clear hh
      obtain ⟨po, cp, rfl⟩ := ownsRow_slice hrow
      obtain ⟨⟨a0, a1⟩, ⟨d0, d1⟩⟩ := HQ.out _ hB
      by_cases hkr : k < r
      · have hle : fy + (k : Int) ≤ ly := by omega
        by_cases hqn : q < N
        · have hqi : (q : Int) < N := by omega
          have hqe : q = k * c := by omega
          clear hq
          have HK := Lib.hid hqe; clear hqe
          go_wp2_with fail
          go_loopw [5, 10] (fun v x wi => ∃ m : Nat, m ≤ c ∧ x = .int .i64 (fx + m) ∧ Hid (∃ p, p ≤ N ∧ p = k * c + m ∧ wi.ownsRow w6.heap.size 30 2 v p (tcs (T.take p)) ∧ Below w6.heap.size w6 wi)) (fun _ x _ => (fx + c - intOf x).toNat)
          case atStart => exact ⟨0, Nat.zero_le _, by simp, q, hqN, by have := HK.out; omega, hrow, hB⟩
          case round =>
            clear hrow hB a0 a1 d0 d1
            obtain ⟨m, hm, rfl, hh⟩ := hrel
            obtain ⟨p, hpN, hp, hrow, hB⟩ := hh.out
            clear hh
            have HP := Lib.hid hp; clear hp
            obtain ⟨po2, cp2, rfl⟩ := ownsRow_slice hrow
            obtain ⟨⟨a0, a1⟩, ⟨d0, d1⟩⟩ := HQ.out _ hB
            by_cases hmc : m < c
            · have hle2 : fx + (m : Int) ≤ lx := by omega
              by_cases hpn : p < N
              · have hpi : (p : Int) < N := by omega
                have T2 : w6.heap.size ≤ (wr.alloc (tob (fx + m) (fy + k))).heap.size := by have := hB.size; simp; omega
                have T4 : ∀ u ∈ [Value.int .i64 (fx + m), .int .i64 (fy + k)], u.oneCell' = true := by simp [Value.oneCell']
                have T5 : p + 1 ≤ maxLen := by unfold maxLen; omega
                have T6 : (p + 1) * 16 ≤ 140737488355328 := by omega
                go_wp2_with (at_builtin; refine wpList_append_own _ rfl (.tmp 55) (.tmp 59) 52 rfl w6.heap.size 30 inf (tv 0 0) 2 16 Try.underlying52 hi hz0 hz1 hz2 rfl (by decide) _ _ _ (by rfl) (hrow.alloc _) ⟨wr.heap.size, 0, none⟩ 1 1 [.int .i64 (fx + m), .int .i64 (fy + k)] (by rfl) rfl (cell2_new _ _ _ _) T4 T5 T6 T2 ?_; intro v' w2 hown' hgrow _)
                go_roundw
                case rel => exact ⟨m + 1, by omega, by go_num, p + 1, by omega, by have := HP.out; omega, by have := HTk.out k m hkr hmc; rw [← HP.out] at this; rw [this, tcs_snoc]; simpa using hown', hB.trans (below_appended hrow hB.size hgrow)⟩
                case measure => simp [intOf]; omega
              · have hpi : ¬ ((p : Int) < N) := by omega
                go_wp2_with fail
                go_roundw
                case rel => exact ⟨k + 1, by omega, by go_num, p, hpN, .inr ⟨by omega, by have := HP.out; rw [Nat.add_mul]; omega⟩, hrow, hB⟩
                case measure => simp [intOf]; omega
            · have hle2 : ¬ (fx + (m : Int) ≤ lx) := by omega
              go_wp2_with fail
              go_roundw
              case rel => exact ⟨k + 1, by omega, by go_num, p, hpN, .inl (by have := HP.out; rw [Nat.add_mul]; omega), hrow, hB⟩
              case measure => simp [intOf]; omega
        · have hqi : ¬ ((q : Int) < N) := by omega
          have hfin : Hid ((T.take N).length = q ∧ T.take q = T.take N) := by
            have h1 := Nat.mul_le_mul_right c hk
            have h2 : q = N := by omega
            subst h2
            exact ⟨by rw [List.length_take]; omega, rfl⟩
          clear hq
          go_wp2_with fail
          go_ret
          (try rw [hTT.out]); (try rw [← HTl]); (try rw [← List.length_take]); rw [hfin.out.1, ← hfin.out.2]
          exact ⟨.slice po q cp, by simp, ownsRow_le hrow hbel.size, hbel.trans (hB.mono hbel.size)⟩
      · have hle : ¬ (fy + (k : Int) ≤ ly) := by omega
        have hfin : Hid ((T.take N).length = q ∧ T.take q = T.take N) := by
          obtain rfl : k = r := by omega
          rcases hq with h | ⟨h, h2⟩
          · rw [← HTl] at h
            exact ⟨by rw [List.length_take]; omega, by rw [List.take_of_length_le (by omega), List.take_of_length_le (by omega)]⟩
          · subst h
            exact ⟨by rw [List.length_take]; omega, rfl⟩
        clear hq
        go_wp2_with fail
        go_ret
        (try rw [hTT.out]); (try rw [← HTl]); (try rw [← List.length_take]); rw [hfin.out.1, ← hfin.out.2]
        exact ⟨.slice po q cp, by simp, ownsRow_le hrow hbel.size, hbel.trans (hB.mono hbel.size)⟩
end Go.Proofs.Ytjadccelplnpnaa
