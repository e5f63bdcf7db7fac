/-
  DigestHexChanged: for every valid digest and every replaced character of its hexadecimal form, Parse fails if the character is no digit, and otherwise returns the digest with that digit. No conditions on the arguments; the table of round constants is as the program lays it (tied).
-/
import Derived.Test.YtcpbadldplpedaaDoorLaw
import Derived.Test.YtcpbadldplpedaaDoorSane
import Derived.Test.YtcpbadldplpedaaDoorValid
import Derived.Test.YtcpbadldplpedaaDoorMkd
import Derived.Deep.RegionHeld3
namespace Go.Proofs.YtcpbadldplpedaaDoor.LChg
open Go.ChangeShapes Go.WideShapes Go.ChangeAt Go.RowKit
open Go.ChangeMaps (open_string shut_string)
variable {W w w' : World}

theorem u8_of {c : Int} (h : (Lit.int .u8 c).wf = true) : ∃ u : UInt8, c = (u.toNat : Int) := by
  have hb : 0 ≤ c ∧ c ≤ 255 := by simpa [Lit.wf, IntKind.min, IntKind.max, IntKind.signed, IntKind.bits] using h
  exact ⟨UInt8.ofNat c.toNat, by rw [nat_u8 (by omega)]; omega⟩
set_option maxHeartbeats 400000 in
set_option maxRecDepth 100000 in
theorem walk (s : ByteArray) (n : Int) (c : Int) (w : World) (hk : KT w) (hs : s.size ≤ 140737488355328) (hc : (Lit.int .u8 c).wf = true) : Calls Tryd.prog 10 #[.string s, .int .i64 n, .int .u8 c] w fun e w' => e = .returned (.bool true) ∧ Below w.heap.size w w' := by
  obtain ⟨u, rfl⟩ := u8_of hc
  clear hc
  have HS := Lib.hid hs; clear hs
  have hmask := i64_mask 6 (by omega) n
  obtain ⟨i, hi, hi64⟩ : ∃ i : Nat, bits .and .i64 n 63 = (i : Int) ∧ i < 64 := ⟨(n % 64).toNat, by rw [show (63 : Int) = ((2 ^ 6 - 1 : Nat) : Int) from rfl, hmask]; omega, by omega⟩
  clear hmask
  have HL : Hid ((validTo s.data.toList 32).length = 32) := validTo_len _ _
  go_enter Tryd.func10, Tryd.ntmps10
  go_upto_region 3 with (first
    | (go_at_call 13; (with_reducible refine (sane_any _ hk).mono ?_); rintro e w1 ⟨rfl, h1⟩)
    | (go_at_call 27; (with_reducible refine (Below.call (w0 := w) h1 (valid_any _ _ HS.out)).mono ?_); rintro e w2 ⟨rfl, h2⟩))
  clear h1
  generalize validTo s.data.toList 32 = D at HL ⊢
  have HHEX : Hid (∀ V, Calls Tryd.prog 24 #[.string (str D)] V fun e w' => e = .returned (.string (str (Sha.hexL D))) ∧ Below V.heap.size V w') := fun V => by
    have := hex_any (str D) V; rw [str_toList] at this; exact this
  have HZ : Hid ((Sha.hexL D).length = 64) := Sha.hexL_len HL.out
  have HBAD : Hid (Sha.nib u < 0 → Sha.parL ((Sha.hexL D).set i u) = none) := fun h => Sha.parL_bad (by rw [List.length_set]; exact HZ.out) i hi64 (by rw [Sha.getD_set_same u (by have := HZ.out; omega)]; exact h)
  have HGOOD : Hid (0 ≤ Sha.nib u → ∃ x, Sha.parL ((Sha.hexL D).set i u) = some x ∧ Sha.hexL x = (Sha.hexL D).set i u ∧ x.length = 32 ∧ x.take (i / 2) = D.take (i / 2) ∧ x.drop (i / 2 + 1) = D.drop (i / 2 + 1)) := fun h => Sha.par_turn HL.out i hi64 u h
  go_upto_region 4 with (go_at_call 24; (with_reducible refine (Below.call (w0 := w) h2 (HHEX.out _)).mono ?_); rintro e w4 ⟨rfl, h4⟩; have hcb := run_bytes_of_string w4 9 45 5 (str (Sha.hexL D)) Tryd.underlying9 Tryd.underlying45 Tryd.underlying5; rw [str_size] at hcb)
  have HM : Hid (Mkd w w4.heap.size (grownCap w4 (Sha.hexL D).length 0 5) (Sha.hexL D) (w4.alloc (Obj.cells (bytesRow (str (Sha.hexL D)) (grownCap w4 (Sha.hexL D).length 0 5)) 5 ((bytesRow (str (Sha.hexL D)) (grownCap w4 (Sha.hexL D).length 0 5)).size, (bytesRow (str (Sha.hexL D)) (grownCap w4 (Sha.hexL D).length 0 5)).size + 1))).drew) :=
    ⟨heap_alloc_new _ _, h4.size, (h4.alloc h4.size _).drew⟩
  clear hcb h2 h4 HHEX
  generalize (w4.alloc (Obj.cells (bytesRow (str (Sha.hexL D)) (grownCap w4 (Sha.hexL D).length 0 5)) 5 ((bytesRow (str (Sha.hexL D)) (grownCap w4 (Sha.hexL D).length 0 5)).size, (bytesRow (str (Sha.hexL D)) (grownCap w4 (Sha.hexL D).length 0 5)).size + 1))).drew = w5 at HM ⊢
  generalize grownCap w4 (Sha.hexL D).length 0 5 = cp at HM ⊢
  generalize w4.heap.size = g at HM ⊢
  have HZ2 := HZ.out
  generalize Sha.hexL D = T at HZ HM HBAD HGOOD HZ2 ⊢
  rw [HZ2]
  clear HZ2
  have hiT : i < T.length := by have := HZ.out; omega
  have hcell : w5.cell? ⟨g, i, none⟩ = some (.int .u8 ((T[i]'hiT).toNat : Int)) := HM.out.cell i hiT
  have hfree := HM.out.free i (Nat.lt_of_lt_of_le hiT (row_size T cp).1)
  go_upto_region 8 with fail
  have HM2 : Hid (Mkd w g cp (T.set i u) (w5.setCell ⟨g, i, none⟩ (.int .u8 (u.toNat : Int)))) := HM.out.set i hiT u rfl
  clear hcell hfree HM
  generalize w5.setCell ⟨g, i, none⟩ (.int .u8 (u.toNat : Int)) = w6 at HM2 ⊢
  have HT2 : Hid ((T.set i u).length = 64) := by unfold Hid; rw [List.length_set]; exact HZ.out
  clear hiT HZ
  generalize T.set i u = T2 at HM2 HT2 HBAD HGOOD ⊢
  have hcv := HM2.out.conv 64 cp HT2.out.symm 9 Tryd.underlying9
  have hn := Sha.nib_iff u
  by_cases hu : 0 ≤ Sha.nib u
  · obtain ⟨x, hx, hxh, hxl, hxt, hxd⟩ := HGOOD.out hu
    have HP : Hid (∀ V, Calls Tryd.prog 22 #[.string (str T2)] V fun e w' => e = .returned (.tuple #[.string (str x), .int .i64 0]) ∧ Below V.heap.size V w') := fun V => by
      have := parse_any (str T2) V
      unfold Sha.parD Sha.parE at this
      rw [str_toList, hx] at this; exact this
    have HHEX : Hid (∀ V, Calls Tryd.prog 24 #[.string (str x)] V fun e w' => e = .returned (.string (str T2)) ∧ Below V.heap.size V w') := fun V => by
      have := hex_any (str x) V; rw [str_toList, hxh] at this; exact this
    go_upto_region 9 with (go_at_call 22; (with_reducible refine (HM2.out.call (HP.out _)).mono ?_); rintro e w7 ⟨rfl, h7⟩)
    clear hcv HM2
    have HE1 : Hid ((str x).extract 0 (i / 2) = (str D).extract 0 (i / 2)) := by unfold Hid; rw [take_str, take_str, str_toList, str_toList, hxt]
    have HE2 : Hid ((str x).extract (i / 2 + 1) 32 = (str D).extract (i / 2 + 1) 32) := by
      unfold Hid
      have hd : ∀ l : List UInt8, l.length = 32 → (str l).extract (i / 2 + 1) 32 = str (l.drop (i / 2 + 1)) := by
        intro l hl
        apply ByteArray.ext
        apply Array.ext'
        simp [str, hl, List.take_of_length_le]
      rw [hd x hxl, hd D HL.out, hxd]
    obtain ⟨k, hk2⟩ : ∃ k, i / 2 = k := ⟨_, rfl⟩
    rw [hk2] at HE1 HE2
    have d1 : IntKind.i64.wrap ((i : Int) / 2) = (k : Int) := by rw [IntKind.wrap_i64]; omega
    have d3 : k < 32 := by omega
    have d2 : IntKind.i64.wrap ((k : Int) + 1) = (k : Int) + 1 := by rw [IntKind.wrap_i64]; omega
    have ks1 : ∀ W, (Instr.slice 24 (.string (str x)) none (some (.int .i64 (k : Int))) none).run Tryd.prog W = .ok (.string ((str D).extract 0 k)) W := fun W => by
      rw [← HE1.out]; exact run_slice_string_h W _ _ Tryd.underlying24 .i64 (k : Int) (by omega) (by rw [str_size, hxl]; omega)
    have ks2 : ∀ W, (Instr.slice 24 (.string (str D)) none (some (.int .i64 (k : Int))) none).run Tryd.prog W = .ok (.string ((str D).extract 0 k)) W := fun W => by
      exact run_slice_string_h W _ _ Tryd.underlying24 .i64 (k : Int) (by omega) (by rw [str_size, HL.out]; omega)
    have ks3 : ∀ W, (Instr.slice 24 (.string (str x)) (some (.int .i64 ((k : Int) + 1))) none none).run Tryd.prog W = .ok (.string ((str D).extract (k + 1) 32)) W := fun W => by
      rw [← HE2.out, run_slice_string_l W _ _ Tryd.underlying24 .i64 ((k : Int) + 1) (by omega) (by rw [str_size, hxl]; omega), str_size, hxl]; rfl
    have ks4 : ∀ W, (Instr.slice 24 (.string (str D)) (some (.int .i64 ((k : Int) + 1))) none none).run Tryd.prog W = .ok (.string ((str D).extract (k + 1) 32)) W := fun W => by
      rw [run_slice_string_l W _ _ Tryd.underlying24 .i64 ((k : Int) + 1) (by omega) (by rw [str_size, HL.out]; omega), str_size, HL.out]; rfl
    clear hxt hxd hxh hxl hx HE1 HE2
    have HB : Hid (∀ V, Mkd w g cp T2 V → Mkd w g cp T2 V ∧ (convert 45 9 (.slice (some ⟨g, 0, none⟩) 64 cp)).run Tryd.prog V = .ok (.string (str T2)) V) := fun V h => ⟨h, h.conv 64 cp HT2.out.symm 9 Tryd.underlying9⟩
    rcases hn.1 hu with ⟨n1, n2⟩ | ⟨n1, n2⟩
    · have m1 : (48 : Int) ≤ (u.toNat : Int) := by omega
      have m2 : (u.toNat : Int) ≤ 57 := by omega
      clear hn hk2
      go_upto_region 11 with fail
      go_region_held3 (fun w' => Mkd w g cp T2 w' ∧ (convert 45 9 (.slice (some ⟨g, 0, none⟩) 64 cp)).run Tryd.prog w' = .ok (.string (str T2)) w') (first | exact HB.out _ h7.drew | exact HB.out _ (by assumption) | exact ⟨(by assumption), (by assumption)⟩ | assumption) (first | (go_at_call 24; (with_reducible refine (Mkd.call (W := w) (g := g) (c := cp) (T := T2) h7.drew (HHEX.out _)).mono ?_); rintro e w8 ⟨rfl, h8⟩))
      go_wp2_with fail
      go_ret
      exact ⟨rfl, h8.below⟩
    · have m1 : (48 : Int) ≤ (u.toNat : Int) := by omega
      have m2 : ¬ (u.toNat : Int) ≤ 57 := by omega
      have m3 : (97 : Int) ≤ (u.toNat : Int) := by omega
      have m4 : (u.toNat : Int) ≤ 102 := by omega
      clear hn hk2
      go_upto_region 11 with fail
      go_region_held3 (fun w' => Mkd w g cp T2 w' ∧ (convert 45 9 (.slice (some ⟨g, 0, none⟩) 64 cp)).run Tryd.prog w' = .ok (.string (str T2)) w') (first | exact HB.out _ h7.drew | exact HB.out _ (by assumption) | exact ⟨(by assumption), (by assumption)⟩ | assumption) (first | (go_at_call 24; (with_reducible refine (Mkd.call (W := w) (g := g) (c := cp) (T := T2) h7.drew (HHEX.out _)).mono ?_); rintro e w8 ⟨rfl, h8⟩))
      go_wp2_with fail
      go_ret
      exact ⟨rfl, h8.below⟩
  · have HP : Hid (∀ V, Calls Tryd.prog 22 #[.string (str T2)] V fun e w' => e = .returned (.tuple #[.string ⟨#[]⟩, .int .i64 11]) ∧ Below V.heap.size V w') := fun V => by
      have := parse_any (str T2) V
      unfold Sha.parD Sha.parE at this
      rw [str_toList, HBAD.out (by omega)] at this; exact this
    go_upto_region 9 with (go_at_call 22; (with_reducible refine (HM2.out.call (HP.out _)).mono ?_); rintro e w7 ⟨rfl, h7⟩)
    clear hcv HM2
    by_cases n1 : u.toNat < 48
    · have m1 : ¬ (48 : Int) ≤ (u.toNat : Int) := by omega
      have m2 : ¬ (97 : Int) ≤ (u.toNat : Int) := by omega
      clear hn
      go_wp2_with fail
      go_ret
      exact ⟨rfl, h7.below⟩
    · by_cases n2 : u.toNat < 97
      · have m1 : (48 : Int) ≤ (u.toNat : Int) := by omega
        have m2 : ¬ (97 : Int) ≤ (u.toNat : Int) := by omega
        have m3 : ¬ (u.toNat : Int) ≤ 57 := by omega
        clear hn
        go_wp2_with fail
        go_ret
        exact ⟨rfl, h7.below⟩
      · have m1 : (48 : Int) ≤ (u.toNat : Int) := by omega
        have m2 : (97 : Int) ≤ (u.toNat : Int) := by omega
        have m3 : ¬ (u.toNat : Int) ≤ 57 := by omega
        have m4 : ¬ (u.toNat : Int) ≤ 102 := by omega
        clear hn
        go_wp2_with fail
        go_ret
        exact ⟨rfl, h7.below⟩

set_option maxRecDepth 100000 in
theorem lifted (os : Os) (started : os.Started) (H : Type) (enc : TypeId × Value → H) :
    ReturnsInHanded {} Tryd.checked os 10 .any (fun w args => (Rows.digestHexChangedSpec.pre enc Tryd.prog Tryd.f10 [] false w args ∧ laidMetH Tryd.prog laid1 w) ∧ sizedMet enc Tryd.prog Tryd.f10 (OpenSpec.ofChange Rows.digestHexChangedSpec) false w args) (Rows.digestHexChangedSpec.post enc Tryd.prog Tryd.f10 false true false false) := by
  refine returnsInHanded_of_change_and (C := Tryd.checked) (X := fun w _ => laidMetH Tryd.prog laid1 w) (fun _ _ _ hh h => h.of_heap hh) own started (by kernel_rfl) Tryd.func10
    (ChangeSpec.witness_shaped (enc := enc) (C := Tryd.checked) (os := os) (X := fun w _ => laidMetH Tryd.prog laid1 w) false (World.doorLaid Tryd.prog 400 os) #[.string ByteArray.empty, .int .i64 0, .int .u8 0] 8 rfl (World.shaped_of_RefB (by kernel_rfl) (by kernel_rfl)) (by kernel_rfl) (by kernel_rfl) (by kernel_rfl) (door_met os _)) ?_
  intro W base args ds gs before hval0 hW _ hsz0 hL _
  have hval : ∀ (j : Nat) t v, Tryd.f10.params[j]? = some t → args[j]? = some v → Value.okWide Tryd.prog W .any base t v := hval0
  have hsz : (DataW.weightsEach Tryd.prog (Tryd.f10.params.toList ++ Rows.digestHexChangedSpec.plain.varTypes Tryd.prog) (ds ++ gs)).all (· ≤ reachBytes) = true := hsz0
  have hW' := hW
  obtain ⟨p, q, hA0, hV, rfl, hfz, hnd⟩ := hW
  have hA : DataW.TrodAll enc Tryd.prog W 0 (fun _ => true) true Tryd.f10.params.toList args.toList ds p := hA0
  rw [Tryd.params10] at hA hval hsz
  obtain ⟨v0, v1, v2, d0, d1, d2, p0, p1, p2, rfl, rfl, rfl, h0, h1, h2⟩ := trodAll_three hA
  obtain ⟨rfl, rfl⟩ := trodVars_none hV
  obtain ⟨s, rfl, rfl, rfl, ws⟩ := open_string Tryd.underlying9 (hval 0 9 v0 rfl rfl) h0
  have hs : s.size ≤ 140737488355328 := by have h := sized_string hsz (j := 0) (t := 9) rfl rfl; rw [lenS] at h; exact Nat.le_trans h (by decide)
  obtain ⟨n, rfl, rfl, rfl, wn⟩ := open_int Tryd.underlying3 (hval 1 3 v1 rfl rfl) h1
  obtain ⟨c, rfl, rfl, rfl, wc⟩ := open_int Tryd.underlying5 (hval 2 5 v2 rfl rfl) h2
  refine (walk s n c W (kt_of_laid hL) hs wc).mono fun e W' ⟨he, hb⟩ => ?_
  subst he
  exact ⟨_, rfl, law_post hW' rfl (by kernel_rfl) rfl (by intro t ht; rw [Tryd.params10] at ht; simp at ht; rcases ht with rfl | rfl | rfl <;> exact ⟨by kernel_rfl, of_decide_eq_true (by kernel_rfl)⟩) hb⟩

theorem holds : Rows.DigestHexChangedSaid :=
  OpenClaim.holds_of_wide 10 Tryd.f10 rfl rfl rfl rfl rfl rfl rfl ⟨rfl, rfl, rfl, rfl, rfl⟩ rfl rfl rfl rfl rfl (by kernel_rfl) Tryd.func10 (by kernel_rfl)
    (of_decide_eq_true (by kernel_rfl)) (by unfold Func.isWrapper; first | (rw [if_pos (by decide +kernel)]; kernel_rfl) | (rw [if_neg (by decide +kernel)]; exact ⟨rfl, rfl⟩))
    (fun os started H enc _ => lifted os started H enc)

theorem card_holds : Rows.DigestHexChangedCardSaid :=
  Claim7.holds_tied_plain_at .later [] [.data] true Rows.digestHexChangedCard.stood.harness false
    holds (fun _ h => by cases h) (by kernel_rfl) (fun _ h => by cases h) digestHexChanged_row_tie rfl ⟨rfl, rfl⟩ (by kernel_rfl) rfl
    (fun f fn hf hfn => by
      obtain rfl : f = 10 := Option.some.inj ((show Tryd.prog.funcNamed Rows.digestHexChangedRow.func = some 10 by kernel_rfl).symm.trans hf) |>.symm
      obtain rfl : fn = Tryd.f10 := (Option.some.inj (Tryd.func10.symm.trans hfn)).symm
      exact ⟨by kernel_rfl, fun j t ht => by
        rw [Tryd.params10] at ht
        have hm : t ∈ [9, 3, 5] := by simpa using Array.mem_of_getElem? ht
        have hall : ([9, 3, 5].all fun u => !Tryd.prog.wantsStandIn u) = true := by kernel_rfl
        exact (show Tryd.prog.wantsStandIn t = false by simpa using List.all_eq_true.1 hall t hm)⟩)
    (by kernel_rfl)
end Go.Proofs.YtcpbadldplpedaaDoor.LChg
