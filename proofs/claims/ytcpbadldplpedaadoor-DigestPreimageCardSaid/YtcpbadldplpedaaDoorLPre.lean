/-
  DigestPreimage: for every list of strings, Join is Of of the parts preceded by their lengths, and two lists have equal preimages only if they are equal. No conditions on the arguments; the table of round constants is as the program lays it (tied).
-/
import Derived.Test.YtcpbadldplpedaaDoorLaw
import Derived.Test.YtcpbadldplpedaaDoorSane
import Derived.Test.YtcpbadldplpedaaDoorRefJoin
namespace Go.Proofs.YtcpbadldplpedaaDoor.LPre
open Go.ChangeShapes Go.WideShapes Go.ChangeAt Go.RowKit
open Go.ChangeMaps (open_string shut_string)
variable {W w w' : World}

/-- what the second loop keeps in 'same' -/
def sameTo (x y : List (List UInt8)) (k : Nat) : Bool := decide (x.length = y.length) && (List.range k).all fun i => x.getD i [] == y.getD i []
theorem sameTo_zero (x y : List (List UInt8)) : sameTo x y 0 = decide (x.length = y.length) := by simp [sameTo]
theorem sameTo_succ (x y : List (List UInt8)) (k : Nat) (h : sameTo x y k = true) : sameTo x y (k + 1) = (x.getD k [] == y.getD k []) := by
  unfold sameTo at h ⊢
  rw [List.range_succ, List.all_append]
  simp only [Bool.and_eq_true] at h
  rw [h.1, h.2]; simp
theorem sameTo_len {x y : List (List UInt8)} {k : Nat} (h : sameTo x y k = true) : x.length = y.length := by
  unfold sameTo at h
  simp only [Bool.and_eq_true, decide_eq_true_eq] at h
  exact h.1
theorem sameTo_end (x y : List (List UInt8)) (k : Nat) (h : sameTo x y k = false ∨ k = x.length) : sameTo x y k = decide (x = y) := by
  by_cases he : x = y
  · subst he
    rw [decide_eq_true rfl]
    unfold sameTo; simp
  · rw [decide_eq_false he]
    rcases h with h | rfl
    · exact h
    · cases hs : sameTo x y x.length with
      | false => rfl
      | true =>
        exfalso
        refine he (eq_of_getD2 (sameTo_len hs) fun i hi => ?_)
        unfold sameTo at hs
        simp only [Bool.and_eq_true, List.all_eq_true, List.mem_range, beq_iff_eq] at hs
        exact hs.2 i hi

set_option maxHeartbeats 2000000 in
set_option maxRecDepth 100000 in
theorem walk (a : List ByteArray) (pa : Option Addr) (na ca : Nat) (b : List ByteArray) (pb : Option Addr) (nb cb : Nat) (w : World) (hk : KT w) (ha : Args w pa na a) (hb : Args w pb nb b) : Calls Tryd.prog 6 #[.slice pa na ca, .slice pb nb cb] w fun e w' => e = .returned (.bool true) ∧ Below w.heap.size w w' := by
  have HA := Lib.hid ha; clear ha
  have HB := Lib.hid hb; clear hb
  go_enter Tryd.func6, Tryd.ntmps6
  go_upto_region 3 with (first
    | (go_at_call 13; (with_reducible refine (sane_any _ hk).mono ?_); rintro e w1 ⟨rfl, h1⟩)
    | (go_at_call 17; (with_reducible refine (list_any a _ _ _ _ (HA.out.later h1)).mono ?_); rintro e w2 ⟨v, rfl, h2, b2⟩))
  have hb2 : Below w.heap.size w w2 := h1.trans (b2.mono h1.size)
  have HX2 := Lib.hid h2.strs
  clear h2 b2 h1
  go_upto_region 4 with (go_at_call 17; (with_reducible refine (list_any b _ _ _ _ (HB.out.later hb2)).mono ?_); rintro e w3 ⟨u, rfl, h3, b3⟩)
  have HW : Hid (Below w.heap.size w w3) := hb2.trans (b3.mono hb2.size)
  have HX := Lib.hid (HX2.out.later b3)
  have HY := Lib.hid h3.strs
  have hk3 := hk.later HW.out
  have HPX : Hid ((pre (fewL a na)).length ≤ 1000000) := by have := pre_few a na; unfold Hid; omega
  have HPY : Hid ((pre (fewL b nb)).length ≤ 1000000) := by have := pre_few b nb; unfold Hid; omega
  have HIN : Hid (pre (fewL a na) = pre (fewL b nb) → fewL a na = fewL b nb) := fun h => pre_inj (fewL_mem a na) (fewL_mem b nb) h
  have HLX : Hid ((fewL a na).length ≤ 8) := by have := fewL_len a na; unfold Hid; omega
  have HLY : Hid ((fewL b nb).length ≤ 8) := by have := fewL_len b nb; unfold Hid; omega
  clear h3 b3 hb2 HX2
  generalize fewL a na = x at HX HPX HIN HLX
  generalize fewL b nb = y at HY HPY HIN HLY
  have HX1 := HX.out
  have HY1 := HY.out
  obtain ⟨px, cx, rfl, hx1, hx2, HXI⟩ := HX1
  obtain ⟨py, cy, rfl, hy1, hy2, HYI⟩ := HY1
  clear HA HB hk
  have HS : Hid (∀ i, i < x.length → (preTo x i).length + 8 + (x.getD i []).length ≤ 1000000) := fun i hi => by
    have := preTo_le (ls := x) (show i + 1 ≤ x.length from hi)
    have e : (preTo x (i + 1)).length = (preTo x i).length + (8 + (x.getD i []).length) := by rw [preTo, List.length_append, piece_len]
    have : (pre x).length = (preTo x x.length).length := rfl
    have := HPX.out
    omega
  have HB0 : Hid (Below w3.heap.size w3 w3) := Below.refl _ _
  go_wp2_with fail
  go_loopw [8, 9] (fun s i wr => ∃ k : Nat, k ≤ x.length ∧ i = .int .i64 k ∧ s = .string (str (preTo x k)) ∧ Hid (Below w3.heap.size w3 wr)) (fun _ i _ => x.length - (intOf i).toNat)
  case atStart => exact ⟨0, Nat.zero_le _, rfl, rfl, HB0⟩
  case round =>
    clear HB0
    obtain ⟨k, hk, rfl, rfl, HBR⟩ := hrel
    by_cases hlt : k < x.length
    · obtain ⟨g, off, rfl, hb, hcell⟩ := HXI.out k hlt
      have hcw : wr.cell? ⟨g, off + k, none⟩ = some (.string (str (x.getD k []))) := by rw [HBR.out.cell (p := ⟨g, off + k, none⟩) hb]; exact hcell
      have HS1 := Lib.hid (HS.out k hlt)
      have HP : Hid (str (preTo x k) ++ str (putN (x.getD k []).length 8) ++ str (x.getD k []) = str (preTo x (k + 1))) := by unfold Hid; rw [str_append, str_append, List.append_assoc]; rfl
      generalize x.getD k [] = l at hcell hcw HS1 HP
      have hs1 : (str (preTo x k)).size ≤ 1000000 := by rw [str_size]; have := HS1.out; omega
      generalize preTo x k = p at HS1 HP hs1
      have hs2 : (str (putN l.length 8)).size ≤ 8 := by rw [str_size, putN_len]; omega
      have hs3 : (str l).size ≤ 1000000 := by rw [str_size]; have := HS1.out; omega
      have HPUT : Hid (∀ V, Calls Tryd.prog 20 #[.int .i64 ((str l).size : Int), .int .i64 8] V fun e w' => e = .returned (.string (str (putN l.length 8))) ∧ Below V.heap.size V w') := fun V => by
        have := HS1.out
        rw [str_size]; exact put8 _ _ (by omega)
      go_upto_region 8 with fail
      have hbw : g < wr.heap.size := Nat.lt_of_lt_of_le hb HBR.out.size
      first
      | (go_region_with (go_at_call 20; (with_reducible refine (Below.call (w0 := wr) ?_ (HPUT.out _)).mono ?_); (focus (repeat (first | exact Below.refl _ _ | apply Below.drew))); rintro e w1 ⟨rfl, h1⟩; have hc1 := (h1.cell (p := ⟨g, off + k, none⟩) hbw).trans hcw))
      | fail
      all_goals go_wp2_with fail
      all_goals
        go_roundw
        case rel => exact ⟨k + 1, hlt, by go_num, by rw [← HP.out], HBR.out.trans (h1.mono HBR.out.size)⟩
        case measure => simp [intOf]; omega
    · obtain rfl : k = x.length := by omega
      have HD : Hid (preTo x x.length = pre x) := rfl
      rw [HD.out]
      have HOF : Hid (∀ V, KT V → Calls Tryd.prog 15 #[.string (str (pre x))] V fun e w' => e = .returned (.string (str (Sha.sha (pre x)))) ∧ Below V.heap.size V w') := fun V hV => by
        have := of_any (str (pre x)) V hV (by rw [str_size]; exact HPX.out)
        rw [str_toList] at this; exact this
      clear HS hlt hk
      have hbs := HBR.out.size
      go_upto_region 10 with fail
      have he : ((x.length : Int) == (y.length : Int)) = sameTo x y 0 := by
        rw [sameTo_zero]
        by_cases h : x.length = y.length
        · rw [decide_eq_true h]; simp [h]
        · rw [decide_eq_false h]; simp; omega
      rw [he]
      clear he
      go_wp2_with fail
      go_loopw [11, 10] (fun i v wq => ∃ k : Nat, k ≤ x.length ∧ i = .int .i64 k ∧ v = .bool (sameTo x y k) ∧ Hid (Below w3.heap.size w3 wq)) (fun i _ _ => x.length - (intOf i).toNat)
      case atStart => exact ⟨0, Nat.zero_le _, rfl, rfl, HBR⟩
      case round =>
        clear HBR hbs
        obtain ⟨k, hk, rfl, rfl, HBR⟩ := hrel
        by_cases hsm : sameTo x y k = true
        · have hl := sameTo_len hsm
          have hsu := Lib.hid (sameTo_succ x y k hsm)
          rw [hsm]
          by_cases hlt : k < x.length
          · obtain ⟨g, off, rfl, hb, hcell⟩ := HXI.out k hlt
            obtain ⟨g2, off2, rfl, hb2, hcell2⟩ := HYI.out k (by omega)
            have hcw : wr.cell? ⟨g, off + k, none⟩ = some (.string (str (x.getD k []))) := by rw [HBR.out.cell (p := ⟨g, off + k, none⟩) hb]; exact hcell
            have hcv : wr.cell? ⟨g2, off2 + k, none⟩ = some (.string (str (y.getD k []))) := by rw [HBR.out.cell (p := ⟨g2, off2 + k, none⟩) hb2]; exact hcell2
            have hln : (k : Int) < (y.length : Int) := by omega
            have HL := Lib.hid hl
            clear hl
            generalize x.getD k [] = l1 at hcell hcw hsu
            generalize y.getD k [] = l2 at hcell2 hcv hsu
            go_upto_region 13 with fail
            go_quiet (fail)
            go_wp2_with fail
            go_roundw
            case rel =>
              refine ⟨k + 1, hlt, by go_num, ?_, HBR.out.trans (⟨rfl, rfl, rfl, Nat.le_refl _, fun _ _ => rfl⟩ : Below w3.heap.size wr (wr.drewN nq))⟩
              rw [hsu.out]; simp [str]
            case measure => simp [intOf]; omega
          · obtain rfl : k = x.length := by omega
            have he : x = y := by
              have := sameTo_end x y x.length (Or.inr rfl)
              rw [hsm] at this; exact of_decide_eq_true this.symm
            subst he
            clear HXI HYI hsm hsu hl hlt hk
            have hb0 := HBR.out
            clear HBR
            go_wp2_with (first
              | (go_at_call 18; (with_reducible refine (KT.call (w0 := w3) hk3 ?_ (fun h => join_any _ _ _ h (HX.out.later (by assumption)) HPX.out)).mono ?_); (focus assumption); rintro e w5 ⟨rfl, hb5⟩)
              | (go_at_call 18; (with_reducible refine (KT.call (w0 := w3) hk3 ?_ (fun h => join_any _ _ _ h (HY.out.later (by assumption)) HPY.out)).mono ?_); (focus assumption); rintro e w5 ⟨rfl, hb5⟩)
              | (go_at_call 15; (with_reducible refine (KT.call (w0 := w3) hk3 ?_ (fun h => HOF.out _ h)).mono ?_); (focus assumption); rintro e w5 ⟨rfl, hb5⟩)
              | (go_at_call 21; (with_reducible refine (Below.call (w0 := w3) ?_ (preimage_any _ _ _ (HX.out.later (by assumption)) HPX.out)).mono ?_); (focus assumption); rintro e w5 ⟨rfl, hb5⟩)
              | (go_at_call 21; (with_reducible refine (Below.call (w0 := w3) ?_ (preimage_any _ _ _ (HY.out.later (by assumption)) HPY.out)).mono ?_); (focus assumption); rintro e w5 ⟨rfl, hb5⟩))
            go_ret
            exact ⟨rfl, HW.out.trans (hb5.mono HW.out.size)⟩
        · have hsf : sameTo x y k = false := by simpa using hsm
          have hne : x ≠ y := by
            have := sameTo_end x y k (Or.inl hsf)
            rw [hsf] at this; exact of_decide_eq_false this.symm
          have hpn : ((str (pre x)).toList == (str (pre y)).toList) = false := by
            have : pre x ≠ pre y := fun h => hne (HIN.out h)
            simpa [str] using this
          rw [hsf]
          clear HXI HYI hsm hne
          have hb0 := HBR.out
          clear HBR
          by_cases hlt : k < x.length
          · go_wp2_with (first
              | (go_at_call 18; (with_reducible refine (KT.call (w0 := w3) hk3 ?_ (fun h => join_any _ _ _ h (HX.out.later (by assumption)) HPX.out)).mono ?_); (focus assumption); rintro e w5 ⟨rfl, hb5⟩)
              | (go_at_call 18; (with_reducible refine (KT.call (w0 := w3) hk3 ?_ (fun h => join_any _ _ _ h (HY.out.later (by assumption)) HPY.out)).mono ?_); (focus assumption); rintro e w5 ⟨rfl, hb5⟩)
              | (go_at_call 15; (with_reducible refine (KT.call (w0 := w3) hk3 ?_ (fun h => HOF.out _ h)).mono ?_); (focus assumption); rintro e w5 ⟨rfl, hb5⟩)
              | (go_at_call 21; (with_reducible refine (Below.call (w0 := w3) ?_ (preimage_any _ _ _ (HX.out.later (by assumption)) HPX.out)).mono ?_); (focus assumption); rintro e w5 ⟨rfl, hb5⟩)
              | (go_at_call 21; (with_reducible refine (Below.call (w0 := w3) ?_ (preimage_any _ _ _ (HY.out.later (by assumption)) HPY.out)).mono ?_); (focus assumption); rintro e w5 ⟨rfl, hb5⟩))
            go_ret
            exact ⟨rfl, HW.out.trans (hb5.mono HW.out.size)⟩
          · go_wp2_with (first
              | (go_at_call 18; (with_reducible refine (KT.call (w0 := w3) hk3 ?_ (fun h => join_any _ _ _ h (HX.out.later (by assumption)) HPX.out)).mono ?_); (focus assumption); rintro e w5 ⟨rfl, hb5⟩)
              | (go_at_call 18; (with_reducible refine (KT.call (w0 := w3) hk3 ?_ (fun h => join_any _ _ _ h (HY.out.later (by assumption)) HPY.out)).mono ?_); (focus assumption); rintro e w5 ⟨rfl, hb5⟩)
              | (go_at_call 15; (with_reducible refine (KT.call (w0 := w3) hk3 ?_ (fun h => HOF.out _ h)).mono ?_); (focus assumption); rintro e w5 ⟨rfl, hb5⟩)
              | (go_at_call 21; (with_reducible refine (Below.call (w0 := w3) ?_ (preimage_any _ _ _ (HX.out.later (by assumption)) HPX.out)).mono ?_); (focus assumption); rintro e w5 ⟨rfl, hb5⟩)
              | (go_at_call 21; (with_reducible refine (Below.call (w0 := w3) ?_ (preimage_any _ _ _ (HY.out.later (by assumption)) HPY.out)).mono ?_); (focus assumption); rintro e w5 ⟨rfl, hb5⟩))
            go_ret
            exact ⟨rfl, HW.out.trans (hb5.mono HW.out.size)⟩

set_option maxRecDepth 100000 in
theorem lifted (os : Os) (started : os.Started) (H : Type) (enc : TypeId × Value → H) :
    ReturnsInHanded {} Tryd.checked os 6 .any (fun w args => (Rows.digestPreimageSpec.pre enc Tryd.prog Tryd.f6 [] false w args ∧ laidMetH Tryd.prog laid1 w) ∧ sizedMet enc Tryd.prog Tryd.f6 (OpenSpec.ofChange Rows.digestPreimageSpec) false w args) (Rows.digestPreimageSpec.post enc Tryd.prog Tryd.f6 false true false false) := by
  refine returnsInHanded_of_change_and (C := Tryd.checked) (X := fun w _ => laidMetH Tryd.prog laid1 w) (fun _ _ _ hh h => h.of_heap hh) own started (by kernel_rfl) Tryd.func6
    (ChangeSpec.witness_shaped (enc := enc) (C := Tryd.checked) (os := os) (X := fun w _ => laidMetH Tryd.prog laid1 w) false (World.doorLaid Tryd.prog 400 os) #[.slice none 0 0, .slice none 0 0] 8 rfl (World.shaped_of_RefB (by kernel_rfl) (by kernel_rfl)) (by kernel_rfl) (by kernel_rfl) (by kernel_rfl) (door_met os _)) ?_
  intro W base args ds gs before hval0 hW _ hsz0 hL _
  have hval : ∀ (j : Nat) t v, Tryd.f6.params[j]? = some t → args[j]? = some v → Value.okWide Tryd.prog W .any base t v := hval0
  have hsz : (DataW.weightsEach Tryd.prog (Tryd.f6.params.toList ++ Rows.digestPreimageSpec.plain.varTypes Tryd.prog) (ds ++ gs)).all (· ≤ reachBytes) = true := hsz0
  have hW' := hW
  obtain ⟨p, q, hA0, hV, rfl, hfz, hnd⟩ := hW
  have hA : DataW.TrodAll enc Tryd.prog W 0 (fun _ => true) true Tryd.f6.params.toList args.toList ds p := hA0
  rw [Tryd.params6] at hA hval hsz
  obtain ⟨v0, v1, d0, d1, p0, p1, rfl, rfl, rfl, h0, h1⟩ := trodAll_two hA
  obtain ⟨rfl, rfl⟩ := trodVars_none hV
  obtain ⟨poa, na, ca, a, rfl, ha⟩ := opened_strings (hval 0 28 v0 rfl rfl) h0
  obtain ⟨pob, nb, cb, b, rfl, hb⟩ := opened_strings (hval 1 28 v1 rfl rfl) h1
  refine (walk a poa na ca b pob nb cb W (kt_of_laid hL) ha hb).mono fun e W' ⟨he, hb⟩ => ?_
  subst he
  exact ⟨_, rfl, law_post hW' rfl (by kernel_rfl) rfl (by intro t ht; rw [Tryd.params6] at ht; simp at ht; subst ht; exact ⟨by kernel_rfl, of_decide_eq_true (by kernel_rfl)⟩) hb⟩

theorem holds : Rows.DigestPreimageSaid :=
  OpenClaim.holds_of_wide 6 Tryd.f6 rfl rfl rfl rfl rfl rfl rfl ⟨rfl, rfl, rfl, rfl, rfl⟩ rfl rfl rfl rfl rfl (by kernel_rfl) Tryd.func6 (by kernel_rfl)
    (of_decide_eq_true (by kernel_rfl)) (by unfold Func.isWrapper; first | (rw [if_pos (by decide +kernel)]; kernel_rfl) | (rw [if_neg (by decide +kernel)]; exact ⟨rfl, rfl⟩))
    (fun os started H enc _ => lifted os started H enc)

theorem card_holds : Rows.DigestPreimageCardSaid :=
  Claim7.holds_tied_plain_at .later [] [.data] true Rows.digestPreimageCard.stood.harness false
    holds (fun _ h => by cases h) (by kernel_rfl) (fun _ h => by cases h) digestPreimage_row_tie rfl ⟨rfl, rfl⟩ (by kernel_rfl) rfl
    (fun f fn hf hfn => by
      obtain rfl : f = 6 := Option.some.inj ((show Tryd.prog.funcNamed Rows.digestPreimageRow.func = some 6 by kernel_rfl).symm.trans hf) |>.symm
      obtain rfl : fn = Tryd.f6 := (Option.some.inj (Tryd.func6.symm.trans hfn)).symm
      exact ⟨by kernel_rfl, fun j t ht => by
        rw [Tryd.params6] at ht
        have hm : t ∈ [28, 28] := by simpa using Array.mem_of_getElem? ht
        have hall : ([28, 28].all fun u => !Tryd.prog.wantsStandIn u) = true := by kernel_rfl
        exact (show Tryd.prog.wantsStandIn t = false by simpa using List.all_eq_true.1 hall t hm)⟩)
    (by kernel_rfl)
end Go.Proofs.YtcpbadldplpedaaDoor.LPre
