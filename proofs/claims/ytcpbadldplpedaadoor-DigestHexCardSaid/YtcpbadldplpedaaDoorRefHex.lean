/-
  The reference's digit, nibble, Hex, Parse.
-/
import Derived.Test.YtcpbadldplpedaaDoorHex
import Derived.Test.YtcpbadldplpedaaDoorOwn
import Derived.StillTailTactics
import Derived.Deep.RegionLaw
namespace Go.Proofs.YtcpbadldplpedaaDoor
open Go.RowKit

theorem dig_lo {n : Nat} (h : n < 10) {x : Int} (hx : x = 48 + (n : Int)) : x = ((Sha.dig n).toNat : Int) := by
  unfold Sha.dig; rw [if_pos h, nat_u8 (by omega), hx]; omega
theorem dig_hi {n : Nat} (h : ¬ n < 10) (h2 : n < 16) {x : Int} (hx : x = 87 + (n : Int)) : x = ((Sha.dig n).toNat : Int) := by
  unfold Sha.dig; rw [if_neg h, nat_u8 (by omega), hx]; omega
theorem digit_any (n : Nat) (w : World) (hn : n < 16) : Calls Tryd.prog 40 #[.int .i64 (n : Int)] w fun e w' => e = .returned (.int .u8 ((Sha.dig n).toNat : Int)) ∧ w = w' := by
  by_cases h : n < 10
  · go_enter Tryd.func40, Tryd.ntmps40
    go_wp2
    go_ret
    exact ⟨ret_int (dig_lo h (by omega)), rfl⟩
  · go_enter Tryd.func40, Tryd.ntmps40
    go_wp2
    go_ret
    exact ⟨ret_int (dig_hi h hn (by omega)), rfl⟩
theorem nibble_any (c : UInt8) (w : World) : Calls Tryd.prog 39 #[.int .u8 (c.toNat : Int)] w fun e w' => e = .returned (.int .i64 (Sha.nib c)) ∧ w = w' := by
  have hc := c.toNat_lt
  go_enter Tryd.func39, Tryd.ntmps39
  go_wp2
  go_loop [3] (fun i => ∃ k : Nat, k ≤ 16 ∧ i = .int .i64 k ∧ Hid (∀ j, j < k → Sha.dig j ≠ c)) (fun i => 16 - (intOf i).toNat)
  case atStart => exact ⟨0, by omega, rfl, fun j hj => by omega⟩
  case round =>
    obtain ⟨k, hk, rfl, HN⟩ := hrel
    by_cases hlt : k < 16
    · have HD := Lib.hid (fun w => digit_any k w hlt)
      by_cases he : Sha.dig k = c
      · have HR : Hid (Sha.nib c = k) := by unfold Hid; rw [← he]; exact Sha.nib_dig hlt
        rw [he] at HD
        clear he
        go_wp2_with (go_at_call 40; (with_reducible refine (HD.out _).mono ?_); rintro e w' ⟨rfl, rfl⟩)
        go_ret
        exact ⟨ret_int HR.out.symm, rfl⟩
      · have HE := Lib.hid he
        have hx : (((Sha.dig k).toNat : Int) == (c.toNat : Int)) = false := by
          have : (Sha.dig k).toNat ≠ c.toNat := fun h => he (UInt8.toNat_inj.1 h)
          simp; omega
        clear he
        have HE2 : Hid (∀ j, j < k + 1 → Sha.dig j ≠ c) := fun j hj => by
          by_cases h : j = k
          · subst h; exact HE.out
          · exact HN.out j (by omega)
        clear HE
        generalize Sha.dig k = x at HD hx
        go_wp2_with (go_at_call 40; (with_reducible refine (HD.out _).mono ?_); rintro e w' ⟨rfl, rfl⟩)
        go_round
        case rel => exact ⟨k + 1, by omega, by go_num, HE2⟩
        case measure => simp [intOf]; omega
    · obtain rfl : k = 16 := by omega
      have HR : Hid (Sha.nib c = -1) := by
        have h1 := Sha.nib_bd c
        by_cases h : 0 ≤ Sha.nib c
        · exact absurd (Sha.dig_nib h) (HN.out _ (by omega))
        · unfold Hid; omega
      go_wp2
      go_ret
      exact ⟨ret_int HR.out.symm, rfl⟩

theorem nibble_is {c : UInt8} {x : Int} (h : Sha.nib c = x) (w : World) : Calls Tryd.prog 39 #[.int .u8 (c.toNat : Int)] w fun e w' => e = .returned (.int .i64 x) ∧ w = w' := h ▸ nibble_any c w

theorem refHex_no (d : ByteArray) (w : World) (h : d.size ≠ 32) : Calls Tryd.prog 25 #[.string d] w fun e w' => e = .returned (.string (str (Sha.hexL d.data.toList))) ∧ Below w.heap.size w w' := by
  have h1 : ((d.size : Int) != 32) = true := by simp; omega
  have HV := Lib.hid h; clear h
  go_enter Tryd.func25, Tryd.ntmps25
  go_wp2
  go_ret
  exact ⟨ret_str (by unfold Sha.hexL; rw [if_neg (by rw [lenS]; exact HV.out)]; rfl), Below.refl _ _⟩

set_option maxHeartbeats 1000000 in
set_option maxRecDepth 100000 in
theorem refHex_yes (d : ByteArray) (w : World) (h : d.size = 32) : Calls Tryd.prog 25 #[.string d] w fun e w' => e = .returned (.string (str (Sha.hexL d.data.toList))) ∧ Below w.heap.size w w' := by
  have h1 : ((d.size : Int) != 32) = false := by rw [h]; rfl
  have HV := Lib.hid h; clear h
  go_enter Tryd.func25, Tryd.ntmps25
  go_wp2
  clear h1
  have HO0 : Hid (OwnsB w.heap.size (w.alloc (Obj.cells #[] 5)) (.slice (some ⟨w.heap.size, 0, none⟩) 0 0) []) := World.ownsRow_lit w #[] 0 (Nat.le_refl _) (by decide) rfl
  go_loopw [3, 4] (fun v i wr => ∃ k : Nat, k ≤ 32 ∧ i = .int .i64 k ∧ Hid (OwnsB w.heap.size wr v (Sha.hexTo d.data.toList k)) ∧ Hid (Below w.heap.size w wr)) (fun _ i _ => 32 - (intOf i).toNat)
  case atStart => exact ⟨0, by omega, rfl, HO0, (Below.refl _ _).alloc (Nat.le_refl _) _⟩
  case round =>
    clear HO0
    obtain ⟨k, hk, rfl, HO, HB⟩ := hrel
    by_cases hlt : k < 32
    · have ix := fun w => idx_byt (b := d) 24 Tryd.underlying24 k (by rw [HV.out]; exact hlt) (k : Int) rfl w
      have hb := Sha.byt_lt d.data.toList k
      have HT : Hid (Sha.hexTo d.data.toList (k + 1) = Sha.hexTo d.data.toList k ++ [Sha.dig (Sha.byt d.data.toList k / 16), Sha.dig (Sha.byt d.data.toList k % 16)]) := rfl
      have HL : Hid ((Sha.hexTo d.data.toList k).length < 100) := by unfold Hid; rw [Sha.hexTo_len]; omega
      generalize Sha.byt d.data.toList k = b at ix hb HT
      have HD0 : Hid (∀ w, Calls Tryd.prog 40 #[.int .i64 ((b : Int) / 16)] w fun e w' => e = .returned (.int .u8 ((Sha.dig (b / 16)).toNat : Int)) ∧ w' = w) := fun w => (digit_any (b / 16) w (by omega)).mono fun _ _ ⟨h1, h2⟩ => ⟨h1, h2.symm⟩
      have HD1 : Hid (∀ w, Calls Tryd.prog 40 #[.int .i64 ((b : Int) % 16)] w fun e w' => e = .returned (.int .u8 ((Sha.dig (b % 16)).toNat : Int)) ∧ w' = w) := fun w => (digit_any (b % 16) w (by omega)).mono fun _ _ ⟨h1, h2⟩ => ⟨h1, h2.symm⟩
      generalize Sha.dig (b / 16) = x at HD0 HT
      generalize Sha.dig (b % 16) = y at HD1 HT
      go_upto_region 7 with fail
      have HBS : w.heap.size ≤ wr.heap.size := HB.out.size
      have r0 : IntKind.i64.wrap (b : Int) = (b : Int) := IntWalk.i64_in _ (by omega)
      have r1 : (b : Int).tdiv 16 = (b : Int) / 16 := Int.tdiv_eq_ediv_of_nonneg (by omega)
      have r2 : IntKind.i64.wrap ((b : Int) / 16) = (b : Int) / 16 := IntWalk.i64_in _ (by omega)
      have r3 : (b : Int).tmod 16 = (b : Int) % 16 := Int.tmod_eq_emod_of_nonneg (by omega)
      have r4 : IntKind.i64.wrap ((b : Int) % 16) = (b : Int) % 16 := IntWalk.i64_in _ (by omega)
      go_region_law (first
        | (refine step_app2 rfl (.tmp 13) (.tmp 26) rfl w.heap.size wr.heap.size _ (Sha.hexTo d.data.toList k) x y (by rfl) (HO.out.later ((Below.refl _ _).alloc (Nat.le_refl _) _).drew) (by rfl) (two0 wr _ _ _) (two1 wr _ _ _) (by have := HL.out; omega) (Nat.le_trans HBS (by simp)) ?_; intro v' w' ho' hb')
        | (go_simp; go_at_call 40; (with_reducible refine (HD0.out _).mono ?_); rintro e w' ⟨rfl, rfl⟩)
        | (go_simp; go_at_call 40; (with_reducible refine (HD1.out _).mono ?_); rintro e w' ⟨rfl, rfl⟩))
      all_goals clear r0 r1 r2 r3 r4
      all_goals go_wp2
      all_goals
        go_roundw
        case rel =>
          refine ⟨k + 1, by omega, by go_num, by rw [HT.out]; exact ho', ?_⟩
          exact (HB.out.alloc HBS _).drew.trans hb'
        case measure => simp [intOf]; omega
    · obtain rfl : k = 32 := by omega
      have hcv := owns_conv HO.out
      go_wp2
      go_ret
      exact ⟨ret_str (by unfold Sha.hexL; rw [if_pos (by rw [lenS]; exact HV.out)]), HB.out⟩
theorem refHex_any (d : ByteArray) (w : World) : Calls Tryd.prog 25 #[.string d] w fun e w' => e = .returned (.string (str (Sha.hexL d.data.toList))) ∧ Below w.heap.size w w' := by
  by_cases h : d.size = 32
  · exact refHex_yes d w h
  · exact refHex_no d w h

theorem zeroGot (w : World) : (zeroValue 40).run Tryd.prog w = .ok (.agg #[.string ByteArray.empty, .int .i64 0]) w := by kernel_rfl

set_option maxHeartbeats 1000000 in
set_option maxRecDepth 100000 in
theorem refParse_any (s : ByteArray) (w : World) : Calls Tryd.prog 23 #[.string s] w fun e w' => e = .returned (.agg #[.string (str (Sha.parD s.data.toList)), .int .i64 (Sha.parE s.data.toList)]) ∧ Below w.heap.size w w' := by
  by_cases h : s.size = 64
  · have HV := Lib.hid h
    have h0 : s.size ≤ 64 := by omega
    clear h
    go_enter Tryd.func23, Tryd.ntmps23
    have hne : ((s.size : Int) != 64) = false := by rw [HV.out]; rfl
    go_wp2
    clear hne
    have es : (w.alloc (Obj.cells #[Value.string { data := #[] }, Value.int IntKind.i64 0] 40)).heap.size = w.heap.size + 1 := by simp
    have HO0 : Hid (OwnsB (w.heap.size + 1) ((w.alloc (Obj.cells #[Value.string { data := #[] }, Value.int IntKind.i64 0] 40)).alloc (Obj.cells #[] 5)) (.slice (some ⟨w.heap.size + 1, 0, none⟩) 0 0) []) := by
      have := World.ownsRow_lit (base := w.heap.size + 1) (e := 5) (size := 1) (w.alloc (Obj.cells #[Value.string { data := #[] }, Value.int IntKind.i64 0] 40)) #[] 0 (by rw [es]; exact Nat.le_refl _) (by decide) rfl
      rw [es] at this; exact this
    have HR0 : Hid (((w.alloc (Obj.cells #[Value.string { data := #[] }, Value.int IntKind.i64 0] 40)).alloc (Obj.cells #[] 5)).heap[w.heap.size]? = some (.cells #[Value.string { data := #[] }, Value.int IntKind.i64 0] 40 (0, 0))) := heap_alloc2_old _ _ _
    have HB0 : Hid (Below w.heap.size w ((w.alloc (Obj.cells #[Value.string { data := #[] }, Value.int IntKind.i64 0] 40)).alloc (Obj.cells #[] 5))) := ((Below.refl _ _).alloc (Nat.le_refl _) _).alloc (by simp) _
    have HS0 : Hid (w.heap.size + 1 ≤ ((w.alloc (Obj.cells #[Value.string { data := #[] }, Value.int IntKind.i64 0] 40)).alloc (Obj.cells #[] 5)).heap.size) := by unfold Hid; simp
    clear es
    generalize (w.alloc (Obj.cells #[Value.string { data := #[] }, Value.int IntKind.i64 0] 40)).alloc (Obj.cells #[] 5) = w2 at HO0 HR0 HB0 HS0 ⊢
    go_loopw [3, 4, 5, 6] (fun v i _ _ wr => ∃ (k : Nat) (p : List UInt8), k ≤ 32 ∧ i = .int .i64 k ∧ Hid (Sha.parTo s.data.toList k = some p) ∧ Hid (OwnsB (w.heap.size + 1) wr v p) ∧ Hid (wr.heap[w.heap.size]? = some (.cells #[Value.string { data := #[] }, Value.int IntKind.i64 0] 40 (0, 0))) ∧ Hid (Below w.heap.size w wr) ∧ Hid (w.heap.size + 1 ≤ wr.heap.size)) (fun _ i _ _ _ => 32 - (intOf i).toNat)
    case atStart => exact ⟨0, [], by omega, rfl, rfl, HO0, HR0, HB0, HS0⟩
    case round =>
      clear HO0 HR0 HB0 HS0
      obtain ⟨k, p, hk, rfl, HP, HO, HR, HB, HS⟩ := hrel
      have hlen := Sha.parTo_len HP.out
      by_cases hlt : k < 32
      · have i0 : ∀ w, (Instr.index 9 (.string s) (.int .i64 (2 * (k : Int)))).run Tryd.prog w = .ok (.int .u8 ((s.data.toList.getD (2 * k) 0).toNat : Int)) w := fun w => idx_byt (b := s) 9 Tryd.underlying9 (2 * k) (by rw [HV.out]; omega) _ (by omega) w
        have i1 : ∀ w, (Instr.index 9 (.string s) (.int .i64 (2 * (k : Int) + 1))).run Tryd.prog w = .ok (.int .u8 ((s.data.toList.getD (2 * k + 1) 0).toNat : Int)) w := fun w => idx_byt (b := s) 9 Tryd.underlying9 (2 * k + 1) (by rw [HV.out]; omega) _ (by omega) w
        have HT : Hid (Sha.parTo s.data.toList (k + 1) = if Sha.nib (s.data.toList.getD (2 * k) 0) < 0 ∨ Sha.nib (s.data.toList.getD (2 * k + 1) 0) < 0 then none else some (p ++ [Sha.byteOf (s.data.toList.getD (2 * k) 0) (s.data.toList.getD (2 * k + 1) 0)])) := by
          unfold Hid; rw [Sha.parTo, HP.out]; rfl
        have HL : Hid (Sha.parTo s.data.toList (k + 1) = none → Sha.parL s.data.toList = none) := fun h => by
          unfold Sha.parL; rw [if_pos (by rw [lenS]; exact HV.out)]; exact Sha.parTo_none h (by omega)
        generalize s.data.toList.getD (2 * k) 0 = c at i0 HT
        generalize s.data.toList.getD (2 * k + 1) 0 = d at i1 HT
        rcases nib_cases c d with hbad | ⟨x, y, hx, hy, hx16, hy16, hby⟩
        · have HN : Hid (Sha.parL s.data.toList = none) := HL.out (by rw [HT.out, if_pos hbad])
          have HV2 := Lib.hid (fun w => nibble_any c w)
          have HV3 := Lib.hid (fun w => nibble_any d w)
          clear HT HL
          generalize Sha.nib c = x at hbad HV2
          generalize Sha.nib d = y at hbad HV3
          by_cases hx : x < 0
          · go_wp2_with (first
              | (go_at_call 39; (with_reducible refine (HV2.out _).mono ?_); rintro e w' ⟨rfl, rfl⟩)
              | (go_at_call 39; (with_reducible refine (HV3.out _).mono ?_); rintro e w' ⟨rfl, rfl⟩)
              | (refine wpList_store_row rfl 40 _ _ rfl _ #[Value.string { data := #[] }, Value.int IntKind.i64 11] rfl rfl _ _ HR.out (by kernel_rfl) (by rfl) (by kernel_rfl) ?_))
            exact bodyPost_ret (results_cell_row Tryd.results23 _ _ _ _ _ _ _ rfl (setRow_heap _ _ _ _ _ _ HR.out) Tryd.underlying40 rfl (by kernel_rfl)) rfl ⟨by unfold Sha.parD Sha.parE; rw [HN.out]; rfl, below_setRow HB.out (Nat.le_refl _) _⟩
          · have hy : y < 0 := by omega
            have hx0 : decide (x < 0) = false := by simpa using hx
            go_wp2_with (first
              | (go_at_call 39; (with_reducible refine (HV2.out _).mono ?_); rintro e w' ⟨rfl, rfl⟩)
              | (go_at_call 39; (with_reducible refine (HV3.out _).mono ?_); rintro e w' ⟨rfl, rfl⟩)
              | (refine wpList_store_row rfl 40 _ _ rfl _ #[Value.string { data := #[] }, Value.int IntKind.i64 11] rfl rfl _ _ HR.out (by kernel_rfl) (by rfl) (by kernel_rfl) ?_))
            exact bodyPost_ret (results_cell_row Tryd.results23 _ _ _ _ _ _ _ rfl (setRow_heap _ _ _ _ _ _ HR.out) Tryd.underlying40 rfl (by kernel_rfl)) rfl ⟨by unfold Sha.parD Sha.parE; rw [HN.out]; rfl, below_setRow HB.out (Nat.le_refl _) _⟩
        · have HS2 : Hid (Sha.parTo s.data.toList (k + 1) = some (p ++ [UInt8.ofNat (16 * x + y)])) := by unfold Hid; rw [HT.out, if_neg (by omega), hby]
          have HV2 := Lib.hid (fun w => nibble_is hx w)
          have HV3 := Lib.hid (fun w => nibble_is hy w)
          clear HT HL hby hx hy
          go_wp2_with (first
            | (go_at_call 39; (with_reducible refine (HV2.out _).mono ?_); rintro e w' ⟨rfl, rfl⟩)
            | (go_at_call 39; (with_reducible refine (HV3.out _).mono ?_); rintro e w' ⟨rfl, rfl⟩)
            | (at_builtin; refine wp_app1 rfl (.tmp 34) (.tmp 40) rfl (w.heap.size + 1) wr _ p (UInt8.ofNat (16 * x + y)) _ (by rfl) HO.out (by rfl) ?e1 ?e2 ?e3 ?_; rotate_right; intro v' w' ho' hg'))
          case e1 => rw [nat_u8 (by omega)]; omega
          case e2 => omega
          case e3 => exact HS.out
          go_roundw
          case rel =>
            have hb' : Below (w.heap.size + 1) wr w' := (Below.refl _ _).grown hg' HS.out (HO.out.own_lt)
            refine ⟨k + 1, _, by omega, by go_num, HS2, ho', ?_, HB.out.trans (hb'.mono (by omega)), Nat.le_trans HS.out hg'.size⟩
            unfold Hid; rw [hb'.block _ (by omega)]; exact HR.out
          case measure => simp [intOf]; omega
      · obtain rfl : k = 32 := by omega
        have HD : Hid (Sha.parL s.data.toList = some p) := by unfold Hid Sha.parL; rw [if_pos (by rw [lenS]; exact HV.out)]; exact HP.out
        have hcv := owns_convD HO.out 24 Tryd.underlying24
        go_wp2_with (refine wpList_store_row rfl 40 _ _ rfl _ #[Value.string (str p), Value.int IntKind.i64 0] rfl rfl _ _ HR.out (by kernel_rfl) (by rfl) (by kernel_rfl) ?_)
        exact bodyPost_ret (results_cell_row Tryd.results23 _ _ _ _ _ _ _ rfl (setRow_heap _ _ _ _ _ _ HR.out) Tryd.underlying40 rfl (by kernel_rfl)) rfl ⟨by unfold Sha.parD Sha.parE; rw [HD.out]; rfl, below_setRow HB.out (Nat.le_refl _) _⟩
  · have h1 : ((s.size : Int) != 64) = true := by simp; omega
    have HV := Lib.hid h
    clear h
    go_enter Tryd.func23, Tryd.ntmps23
    go_wp2
    have e : Sha.parL s.data.toList = none := by unfold Sha.parL; rw [if_neg (by rw [lenS]; exact HV.out)]
    exact bodyPost_ret (results_cell_row Tryd.results23 _ _ _ _ _ _ _ rfl (heap_alloc_new _ _) Tryd.underlying40 rfl (by kernel_rfl)) rfl ⟨by unfold Sha.parD Sha.parE; rw [e]; rfl, (Below.refl _ _).alloc (Nat.le_refl _) _⟩
end Go.Proofs.YtcpbadldplpedaaDoor
