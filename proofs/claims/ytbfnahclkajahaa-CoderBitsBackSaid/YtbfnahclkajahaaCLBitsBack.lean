/-
  CoderBitsBack: a reader returns the bits that a writer wrote, whatever bytes follow, and Used is the length of the bytes written (at most 600 bits, 50 bytes that follow).
-/
import Derived.Test.YtbfnahclkajahaaCLaw
import Derived.Test.YtbfnahclkajahaaCLoop
namespace Go.Proofs.Ytbfnahclkajahaa.C.CLBitsBack
open Go.ChangeShapes Go.WideShapes Go.ChangeAt Go.RowKit Go.Shelf
open Go.ChangeMaps (open_string)
set_option maxRecDepth 100000

theorem str_add (a b : List UInt8) : str a ++ str b = str (a ++ b) := by apply ByteArray.ext; simp [str]
theorem ops_pre (f : Nat → Int × Int) {j k : Nat} (h : j ≤ k) : ∃ rest, ops f k = ops f j ++ rest := by
  obtain ⟨m, rfl⟩ : ∃ m, k = j + m := ⟨k - j, by omega⟩
  exact ⟨_, by unfold ops; rw [List.range_add, List.map_append]⟩
/-- the j-th bit is read as it was written -/
theorem read_bit {F : Nat → Nat} {f : Nat → Int × Int} {j k : Nat} (h : Rds F c0 0 (ops f k)) (hj : j < k) : bitn (f j).2 = rbit (fin c0 (ops f j)) F (wt c0 (ops f j)).length (ctx (f j).1) := by
  obtain ⟨rest, hr⟩ := ops_pre f (show j + 1 ≤ k from hj)
  rw [hr, rds_app, ops_succ, rds_snoc, Nat.zero_add] at h
  exact h.1.2

set_option maxHeartbeats 8000000 in
set_option maxRecDepth 100000 in
theorem walk (po : Option Addr) (n c : Nat) (f : Nat → Int × Int) (more : ByteArray) (w : World) (_hn : n ≤ 9223372036854775807) (hmore : more.size ≤ 140737488355328) (hI : ∀ i, i < n → BitAt w po i (f i).1 (f i).2) : Calls Try.prog 8 #[.slice po n c, .string more] w fun e w' => e = .returned (.bool true) ∧ Below w.heap.size w w' := by
  have h0 := HS.start w
  have HI := Lib.hid hI
  have HSO : Hid (∀ V, Calls Try.prog 14 #[.string more, .int .i64 50] V fun e w' => e = .returned (.string (hd more 50)) ∧ V = w') := fun V => some_any more 50 V hmore (by omega)
  clear hI
  go_enter Try.func8, Try.ntmps8
  go_wp2_with (first
    | (go_at_call 13; (with_reducible refine (h0.call (sanity_any _)).mono ?_); rintro e w1 ⟨rfl, h1⟩)
    | (go_at_call 19; (with_reducible refine (newW_any _ h1).mono ?_); rintro e w2 ⟨b, rfl, h2⟩))
  have H3 : Hid (SW w [] f b 0 w2) := Lib.hid (SW.new h2)
  clear h0 h1 h2
  go_loopw [7] (fun i V => ∃ k : Nat, k ≤ 600 ∧ k ≤ n ∧ i = .int .i64 (k : Int) ∧ Hid (SW w [] f b k V)) (fun i _ => 600 - (intOf i).toNat)
  case atStart => exact ⟨0, by omega, by omega, rfl, H3⟩
  case round =>
    obtain ⟨k, hk, hkn, rfl, HT⟩ := hrel
    clear H3
    by_cases h1 : k < n
    · by_cases h2 : k < 600
      · obtain ⟨bl, off, rfl, hbi⟩ := (HI.out k h1).at
        have hfk : f k = ((f k).1, (f k).2) := rfl
        have HBI := Lib.hid hbi
        have HFK := Lib.hid hfk
        clear hbi hfk
        generalize (f k).1 = x at *
        generalize (f k).2 = y at *
        go_upto_region 8 with fail
        have hd := HT.out.drew
        obtain ⟨hcx, hcy⟩ := HBI.out _ hd.below
        go_still_tail 11, (by kernel_rfl)
        change wpList _ _ _ _ _ wr.drew
        have HD := Lib.hid hd
        clear hd
        generalize wr.drew = w4 at *
        go_wp2_with (go_at_call 21; refine (SW.bit HFK.out (by omega) HD.out).mono ?_; rintro e w5 ⟨rfl, h5⟩; have H5 := Lib.hid h5; clear h5)
        go_roundw
        case rel => exact ⟨k + 1, by omega, by omega, by go_num, H5⟩
        case measure => simp [intOf]; omega
      · have hzl : (more.data.toList.take 50).length ≤ 50 := List.length_take_le ..
        have HRD : Hid (Rds (sx (str (yb f k) ++ hd more 50).data.toList) c0 0 (ops f k)) := by
          have h := back (ops f k) (ops_le f k) (more.data.toList.take 50)
          rw [show str (yb f k) ++ hd more 50 = str (yb f k ++ more.data.toList.take 50) from str_add _ _, str_toList]
          exact h
        have hys : ((str (yb f k)).size : Int) ≤ 2404 := by rw [str_size, yb_len]; have := wt_ops f k; omega
        have hzs : ((hd more 50).size : Int) ≤ 50 := by have := hd_size more 50; omega
        have HYU : Hid ((str (yb f k)).size = (wt c0 (ops f k)).length + 4) := by rw [str_size, yb_len]; exact Lib.hid rfl
        have HBY : Hid (∀ V, SW w [] f b k V → Calls Try.prog 23 #[.pointer (some ⟨b, 0, none⟩)] V fun e w' => e = .returned (.string (str (yb f k))) ∧ HS w [] w') := fun V hV => (hV.bytes (by omega)).mono fun e w' ⟨h1, h2⟩ => ⟨h1, WS.hs h2⟩
        clear hzl
        generalize str (yb f k) = y at *
        generalize hd more 50 = z at *
        go_wp2_with (first
          | (go_at_call 23; (with_reducible refine (HBY.out _ HT.out).mono ?_); rintro e w5 ⟨rfl, h5⟩)
          | (go_at_call 14; (with_reducible refine (HSO.out _).mono ?_); rintro e w6 ⟨rfl, rfl⟩)
          | (go_at_call 25; (with_reducible refine (newR_any (y ++ z) _ h5).mono ?_); rintro e w7 ⟨r, rfl, h7⟩))
        have H7 : Hid (HS w [(r, rob (fin c0 (ops f 0)) (y ++ z) (wt c0 (ops f 0)).length)] w7) := h7
        clear h5 h7 hys hzs HT
        generalize y ++ z = s at *
        go_loopw [10] (fun i V => ∃ j : Nat, j ≤ k ∧ i = .int .i64 (j : Int) ∧ Hid (HS w [(r, rob (fin c0 (ops f j)) s (wt c0 (ops f j)).length)] V)) (fun i _ => k - (intOf i).toNat)
        case atStart => exact ⟨0, by omega, rfl, H7⟩
        case round =>
          obtain ⟨j, hj, rfl, HU⟩ := hrel
          clear H7
          by_cases h1j : j < k
          · have hjn : j < n := by omega
            have hj6 : j < 600 := by omega
            obtain ⟨bl, off, rfl, hbi⟩ := (HI.out j hjn).at
            have hwl := wt_ops f j
            have ha := and1 (f j).2
            have HBR : Hid (∀ V, HS w [(r, rob (fin c0 (ops f j)) s (wt c0 (ops f j)).length)] V → Calls Try.prog 28 #[.pointer (some ⟨r, 0, none⟩), .int .i64 (f j).1] V fun e w' => e = .returned (.int .i64 (bitn (f j).2 : Nat)) ∧ HS w [(r, rob (fin c0 (ops f (j + 1))) s (wt c0 (ops f (j + 1))).length)] w') := fun V hV => by
              have h := bitR_any r _ (f j).1 _ s V (fin_ok c0_ok _) hV (by omega)
              have hb := read_bit HRD.out h1j
              rw [ops_succ, fin_snoc, wt_snoc, List.length_append]
              rw [← hb] at h
              exact h
            have HP : Hid (∀ V, HS w [] V → HS w [] V ∧ V.cell? ⟨bl, off + j * 2, none⟩ = some (.int .i64 (f j).1) ∧ V.cell? ⟨bl, off + j * 2 + 1, none⟩ = some (.int .i64 (f j).2)) := fun V hV => ⟨hV, hbi V hV.below⟩
            clear hbi hwl
            generalize bitn (f j).2 = q at *
            generalize (f j).1 = x at *
            generalize (f j).2 = yy at *
            go_upto_region 16 with fail
            have hd := HU.out.drew
            have hd0 := hd.tl
            obtain ⟨_, hcx, hcy⟩ := HP.out _ hd0
            go_region_held3 (fun V => HS w [] V ∧ V.cell? ⟨bl, off + j * 2, none⟩ = some (.int .i64 x) ∧ V.cell? ⟨bl, off + j * 2 + 1, none⟩ = some (.int .i64 yy)) ((refine HP.out _ ?_; assumption)) (first
              | (go_at_call 28; (with_reducible refine (HBR.out _ ?_).mono ?_); (focus assumption); rintro e w8 ⟨rfl, h8⟩; have h80 := h8.tl))
            have H8 := Lib.hid h8
            clear hd hd0 h8 h80 hcx hcy ha
            go_wp2_with fail
            go_roundw
            case rel => exact ⟨j + 1, by omega, by go_num, H8⟩
            case measure => simp [intOf]; omega
          · obtain rfl : j = k := by omega
            have hwl := wt_ops f j
            have hex : ¬ (j < n ∧ j < 600) := by omega
            have HUS : Hid (∀ V, HS w [(r, rob (fin c0 (ops f j)) s (wt c0 (ops f j)).length)] V → Calls Try.prog 27 #[.pointer (some ⟨r, 0, none⟩)] V fun e w' => e = .returned (.int .i64 ((wt c0 (ops f j)).length + 4 : Nat)) ∧ V = w') := fun V hV => by
              have h := used_any r _ _ _ _ _ s V hV (by omega)
              rwa [Nat.add_comm 4] at h
            rw [← HYU.out] at HUS
            have HBL := Lib.hid HU.out.below
            clear hwl
            go_wp2_with (go_at_call 27; (with_reducible refine (HUS.out _ HU.out).mono ?_); rintro e w9 ⟨rfl, rfl⟩)
            go_ret
            exact ⟨rfl, HBL.out⟩
    · have hzl : (more.data.toList.take 50).length ≤ 50 := List.length_take_le ..
      have HRD : Hid (Rds (sx (str (yb f k) ++ hd more 50).data.toList) c0 0 (ops f k)) := by
        have h := back (ops f k) (ops_le f k) (more.data.toList.take 50)
        rw [show str (yb f k) ++ hd more 50 = str (yb f k ++ more.data.toList.take 50) from str_add _ _, str_toList]
        exact h
      have hys : ((str (yb f k)).size : Int) ≤ 2404 := by rw [str_size, yb_len]; have := wt_ops f k; omega
      have hzs : ((hd more 50).size : Int) ≤ 50 := by have := hd_size more 50; omega
      have HYU : Hid ((str (yb f k)).size = (wt c0 (ops f k)).length + 4) := by rw [str_size, yb_len]; exact Lib.hid rfl
      have HBY : Hid (∀ V, SW w [] f b k V → Calls Try.prog 23 #[.pointer (some ⟨b, 0, none⟩)] V fun e w' => e = .returned (.string (str (yb f k))) ∧ HS w [] w') := fun V hV => (hV.bytes (by omega)).mono fun e w' ⟨h1, h2⟩ => ⟨h1, WS.hs h2⟩
      clear hzl
      generalize str (yb f k) = y at *
      generalize hd more 50 = z at *
      go_wp2_with (first
        | (go_at_call 23; (with_reducible refine (HBY.out _ HT.out).mono ?_); rintro e w5 ⟨rfl, h5⟩)
        | (go_at_call 14; (with_reducible refine (HSO.out _).mono ?_); rintro e w6 ⟨rfl, rfl⟩)
        | (go_at_call 25; (with_reducible refine (newR_any (y ++ z) _ h5).mono ?_); rintro e w7 ⟨r, rfl, h7⟩))
      have H7 : Hid (HS w [(r, rob (fin c0 (ops f 0)) (y ++ z) (wt c0 (ops f 0)).length)] w7) := h7
      clear h5 h7 hys hzs HT
      generalize y ++ z = s at *
      go_loopw [10] (fun i V => ∃ j : Nat, j ≤ k ∧ i = .int .i64 (j : Int) ∧ Hid (HS w [(r, rob (fin c0 (ops f j)) s (wt c0 (ops f j)).length)] V)) (fun i _ => k - (intOf i).toNat)
      case atStart => exact ⟨0, by omega, rfl, H7⟩
      case round =>
        obtain ⟨j, hj, rfl, HU⟩ := hrel
        clear H7
        by_cases h1j : j < k
        · have hjn : j < n := by omega
          have hj6 : j < 600 := by omega
          obtain ⟨bl, off, rfl, hbi⟩ := (HI.out j hjn).at
          have hwl := wt_ops f j
          have ha := and1 (f j).2
          have HBR : Hid (∀ V, HS w [(r, rob (fin c0 (ops f j)) s (wt c0 (ops f j)).length)] V → Calls Try.prog 28 #[.pointer (some ⟨r, 0, none⟩), .int .i64 (f j).1] V fun e w' => e = .returned (.int .i64 (bitn (f j).2 : Nat)) ∧ HS w [(r, rob (fin c0 (ops f (j + 1))) s (wt c0 (ops f (j + 1))).length)] w') := fun V hV => by
            have h := bitR_any r _ (f j).1 _ s V (fin_ok c0_ok _) hV (by omega)
            have hb := read_bit HRD.out h1j
            rw [ops_succ, fin_snoc, wt_snoc, List.length_append]
            rw [← hb] at h
            exact h
          have HP : Hid (∀ V, HS w [] V → HS w [] V ∧ V.cell? ⟨bl, off + j * 2, none⟩ = some (.int .i64 (f j).1) ∧ V.cell? ⟨bl, off + j * 2 + 1, none⟩ = some (.int .i64 (f j).2)) := fun V hV => ⟨hV, hbi V hV.below⟩
          clear hbi hwl
          generalize bitn (f j).2 = q at *
          generalize (f j).1 = x at *
          generalize (f j).2 = yy at *
          go_upto_region 16 with fail
          have hd := HU.out.drew
          have hd0 := hd.tl
          obtain ⟨_, hcx, hcy⟩ := HP.out _ hd0
          go_region_held3 (fun V => HS w [] V ∧ V.cell? ⟨bl, off + j * 2, none⟩ = some (.int .i64 x) ∧ V.cell? ⟨bl, off + j * 2 + 1, none⟩ = some (.int .i64 yy)) ((refine HP.out _ ?_; assumption)) (first
            | (go_at_call 28; (with_reducible refine (HBR.out _ ?_).mono ?_); (focus assumption); rintro e w8 ⟨rfl, h8⟩; have h80 := h8.tl))
          have H8 := Lib.hid h8
          clear hd hd0 h8 h80 hcx hcy ha
          go_wp2_with fail
          go_roundw
          case rel => exact ⟨j + 1, by omega, by go_num, H8⟩
          case measure => simp [intOf]; omega
        · obtain rfl : j = k := by omega
          have hwl := wt_ops f j
          have hex : ¬ (j < n ∧ j < 600) := by omega
          have HUS : Hid (∀ V, HS w [(r, rob (fin c0 (ops f j)) s (wt c0 (ops f j)).length)] V → Calls Try.prog 27 #[.pointer (some ⟨r, 0, none⟩)] V fun e w' => e = .returned (.int .i64 ((wt c0 (ops f j)).length + 4 : Nat)) ∧ V = w') := fun V hV => by
            have h := used_any r _ _ _ _ _ s V hV (by omega)
            rwa [Nat.add_comm 4] at h
          rw [← HYU.out] at HUS
          have HBL := Lib.hid HU.out.below
          clear hwl
          go_wp2_with (go_at_call 27; (with_reducible refine (HUS.out _ HU.out).mono ?_); rintro e w9 ⟨rfl, rfl⟩)
          go_ret
          exact ⟨rfl, HBL.out⟩
theorem lifted (os : Os) (started : os.Started) (H : Type) (enc : TypeId × Value → H) :
    ReturnsInHanded {} Try.checked os 8 .any (Rows.coderBitsBackSpec.pre6 enc Try.prog Try.f8 Rows.coderBitsBackRow.domain false) (Rows.coderBitsBackSpec.post enc Try.prog Try.f8 false true false false) := by
  refine returnsInHanded_of_change_sized (C := Try.checked) own started (by kernel_rfl) Try.func8
    (ChangeSpec.witness6 (enc := enc) (C := Try.checked) false ⟨#[], #[.slice none 0 0, .string ByteArray.empty], []⟩ 8 (by kernel_rfl) (by kernel_rfl) (by kernel_rfl) (by kernel_rfl)) ?_
  intro W base args ds gs before hval0 hW _ hsz0 _
  have hval : ∀ (j : Nat) t v, Try.f8.params[j]? = some t → args[j]? = some v → Value.okWide Try.prog W .any base t v := hval0
  have hW' := hW
  obtain ⟨p, q, hA0, hV, rfl, hfz, hnd⟩ := hW
  have hA : DataW.TrodAll enc Try.prog W 0 (fun _ => true) true Try.f8.params.toList args.toList ds p := hA0
  have hsz : (DataW.weightsEach Try.prog (Try.f8.params.toList ++ Rows.coderBitsBackSpec.plain.varTypes Try.prog) (ds ++ gs)).all (· ≤ reachBytes) = true := hsz0
  rw [Try.params8] at hA hval hsz
  obtain ⟨v0, v1, d0, d1, p0, p1, rfl, rfl, rfl, h0, h1⟩ := trodAll_two hA
  obtain ⟨rfl, rfl⟩ := trodVars_none hV
  obtain ⟨po, n, c, f, rfl, hn, hI⟩ := opened_bits (hval 0 36 v0 rfl rfl) h0
  obtain ⟨more, rfl, rfl, rfl, wmore⟩ := open_string Try.underlying9 (hval 1 9 v1 rfl rfl) h1
  have hmore : more.size ≤ 140737488355328 := by have h := sized_string hsz (j := 1) (t := 9) rfl rfl; rw [show more.data.toList.length = more.size from Array.length_toList] at h; exact Nat.le_trans h (by decide)
  refine (walk po n c f more W hn hmore hI).mono fun e W' ⟨he, hb⟩ => ?_
  subst he
  exact ⟨_, rfl, law_post hW' rfl (by kernel_rfl) rfl (by intro t ht; rw [Try.params8] at ht; simp at ht; rcases ht with rfl | rfl <;> exact ⟨by kernel_rfl, of_decide_eq_true (by kernel_rfl)⟩) hb⟩

theorem holds : Rows.CoderBitsBackSaid :=
  OpenClaim.holds_of_wide 8 Try.f8 rfl rfl rfl rfl rfl rfl rfl ⟨rfl, rfl, rfl, rfl, rfl⟩ rfl rfl rfl rfl rfl (by kernel_rfl) Try.func8 (by kernel_rfl)
    (of_decide_eq_true (by kernel_rfl)) (by unfold Func.isWrapper; first | (rw [if_pos (by decide +kernel)]; kernel_rfl) | (rw [if_neg (by decide +kernel)]; exact ⟨rfl, rfl⟩))
    (fun os started H enc _ => lifted os started H enc)
end Go.Proofs.Ytbfnahclkajahaa.C.CLBitsBack
