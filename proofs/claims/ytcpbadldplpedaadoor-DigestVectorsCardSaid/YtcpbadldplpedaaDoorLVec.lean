/-
  DigestVectors: the published digest of the two-block message, the digest of a digest, and messages of 64 and 65 equal octets against the reference implementation. No conditions on the arguments; the table of round constants is as the program lays it (tied).
-/
import Derived.Test.YtcpbadldplpedaaDoorLaw
import Derived.Test.YtcpbadldplpedaaDoorSane
import Derived.Test.YtcpbadldplpedaaDoorValid
import Derived.Test.YtcpbadldplpedaaDoorRefOf
import Derived.Deep.RegionHeld3
namespace Go.Proofs.YtcpbadldplpedaaDoor.LVec
open Go.ChangeShapes Go.WideShapes Go.ChangeAt Go.RowKit
open Go.ChangeMaps (open_string shut_string)
variable {W w w' : World}

theorem hexTwo : Sha.hexL (Sha.sha Sha.two) = [50, 52, 56, 100, 54, 97, 54, 49, 100, 50, 48, 54, 51, 56, 98, 56, 101, 53, 99, 48, 50, 54, 57, 51, 48, 99, 51, 101, 54, 48, 51, 57, 97, 51, 51, 99, 101, 52, 53, 57, 54, 52, 102, 102, 50, 49, 54, 55, 102, 54, 101, 99, 101, 100, 100, 52, 49, 57, 100, 98, 48, 54, 99, 49] := by rw [Sha.sha_twoblocks]; decide +kernel
theorem of_two (w : World) (hk : KT w) : Calls Tryd.prog 15 #[.string ⟨#[97, 98, 99, 100, 98, 99, 100, 101, 99, 100, 101, 102, 100, 101, 102, 103, 101, 102, 103, 104, 102, 103, 104, 105, 103, 104, 105, 106, 104, 105, 106, 107, 105, 106, 107, 108, 106, 107, 108, 109, 107, 108, 109, 110, 108, 109, 110, 111, 109, 110, 111, 112, 110, 111, 112, 113]⟩] w fun e w' => e = .returned (.string (str (Sha.sha Sha.two))) ∧ Below w.heap.size w w' := of_any ⟨#[97, 98, 99, 100, 98, 99, 100, 101, 99, 100, 101, 102, 100, 101, 102, 103, 101, 102, 103, 104, 102, 103, 104, 105, 103, 104, 105, 106, 104, 105, 106, 107, 105, 106, 107, 108, 106, 107, 108, 109, 107, 108, 109, 110, 108, 109, 110, 111, 109, 110, 111, 112, 110, 111, 112, 113]⟩ w hk (by decide)
theorem hex_two (w : World) : Calls Tryd.prog 24 #[.string (str (Sha.sha Sha.two))] w fun e w' => e = .returned (.string ⟨#[50, 52, 56, 100, 54, 97, 54, 49, 100, 50, 48, 54, 51, 56, 98, 56, 101, 53, 99, 48, 50, 54, 57, 51, 48, 99, 51, 101, 54, 48, 51, 57, 97, 51, 51, 99, 101, 52, 53, 57, 54, 52, 102, 102, 50, 49, 54, 55, 102, 54, 101, 99, 101, 100, 100, 52, 49, 57, 100, 98, 48, 54, 99, 49]⟩) ∧ Below w.heap.size w w' := by
  have h := hex_any (str (Sha.sha Sha.two)) w
  rw [str_toList, hexTwo] at h; exact h
theorem u8_of {c : Int} (h : (Lit.int .u8 c).wf = true) : ∃ u : UInt8, c = (u.toNat : Int) := by
  have hb : 0 ≤ c ∧ c ≤ 255 := by simpa [Lit.wf, IntKind.min, IntKind.max, IntKind.signed, IntKind.bits] using h
  exact ⟨UInt8.ofNat c.toNat, by rw [nat_u8 (by omega)]; omega⟩
/-- the call's own bytes, and the table as it was -/
structure Vec (W : World) (p : List UInt8) (w : World) : Prop where
  arr : ArrMem W 5 65 p w
  kt : KT w
theorem Vec.later {W w w' : World} {p : List UInt8} (h : Vec W p w) (hb : Below w.heap.size w w') : Vec W p w' :=
  ⟨⟨by rw [hb.block W.heap.size (Array.getElem?_eq_some_iff.1 h.arr.own).1]; exact h.arr.own, h.arr.below.trans (hb.mono h.arr.below.size)⟩, h.kt.later hb⟩
theorem Vec.drew {W w : World} {p : List UInt8} (h : Vec W p w) : Vec W p w.drew := h.later (Below.refl _ w).drew
theorem Vec.call {P : Program} {f : FuncId} {args : Array Value} {v : Value} {W w : World} {p : List UInt8} (h : Vec W p w) (hc : KT w → Calls P f args w fun e w' => e = .returned v ∧ Below w.heap.size w w') :
    Calls P f args w fun e w' => e = .returned v ∧ Vec W p w' := (hc h.kt).mono fun _ _ ⟨h1, h2⟩ => ⟨h1, h.later h2⟩
theorem Vec.conv {W w : World} {p : List UInt8} (h : Vec W p w) (q : List UInt8) (hq : ∀ j (hj : j < q.length), p[j]? = some q[j]) (k c : Nat) (hk : k = q.length) (D : TypeId) (hD : Tryd.prog.underlying D = some .string) :
    (convert 45 D (.slice (some ⟨W.heap.size, 0, none⟩) k c)).run Tryd.prog w = .ok (.string (str q)) w := by
  subst hk
  refine run_convert_bytes_back w _ _ _ ⟨W.heap.size, 0, none⟩ c q Tryd.underlying45 Tryd.underlying5 hD fun j hj => ?_
  have hadd : (⟨W.heap.size, 0, none⟩ : Addr).add j = ⟨W.heap.size, j, none⟩ := by unfold Addr.add; split <;> simp_all
  have h1 := hq j hj
  obtain ⟨hj2, h2⟩ := List.getElem?_eq_some_iff.1 h1
  rw [hadd, cell_of_row _ _ _ _ _ _ h.arr.own, rowN_get j hj2, h2]; rfl

set_option maxHeartbeats 1000000 in
set_option maxRecDepth 100000 in
theorem walk (c : Int) (s : ByteArray) (w : World) (hk : KT w) (hc : (Lit.int .u8 c).wf = true) (hs : s.size ≤ 140737488355328) : Calls Tryd.prog 12 #[.int .u8 c, .string s] w fun e w' => e = .returned (.bool true) ∧ Below w.heap.size w w' := by
  obtain ⟨u, rfl⟩ := u8_of hc
  clear hc
  have HS : Hid (s.size ≤ 9223372036854775807) := Nat.le_trans hs (by decide)
  clear hs
  have HX : Hid (∀ V, Calls Tryd.prog 14 #[.string s, .int .i64 100] V fun e w' => e = .returned (.string (str (s.data.toList.take 100))) ∧ V = w') := fun V => some_100 s V HS.out
  have HXL : Hid ((s.data.toList.take 100).length ≤ 100) := by unfold Hid; rw [List.length_take]; omega
  clear HS
  generalize s.data.toList.take 100 = x at HX HXL
  obtain ⟨i0, hi, hz0, hz1, hz2⟩ := info_parts Tryd.infoB
  go_enter Tryd.func12, Tryd.ntmps12
  go_upto_region 3 with (first
    | (go_at_call 13; (with_reducible refine (sane_any _ hk).mono ?_); rintro e w1 ⟨rfl, h1⟩)
    | (go_at_call 14; (with_reducible refine (HX.out _).mono ?_); rintro e w2 ⟨rfl, rfl⟩))
  go_upto_region 4 with (at_make; refine wpList_make_full _ rfl _ _ 45 rfl w1.heap.size 5 i0 (.int .u8 0) 1 Tryd.underlying45 hi hz0 hz1 .i64 .i64 _ _ 65 rfl rfl rfl rfl (by rw [hz2]; omega) (by unfold maxLen; omega) (Nat.le_refl _) ?_; intro w3 hown hgrow)
  have HM0 : Hid (ArrMem w1 5 65 (List.replicate 0 u) w3) := arr_start hown hgrow
  clear hi hz0 hz1 hz2 hown hgrow
  have hk1 := hk.later h1
  go_wp2_with fail
  go_loopw [7] (fun i wr => ∃ k : Nat, k ≤ 65 ∧ i = .int .i64 k ∧ Hid (ArrMem w1 5 65 (List.replicate k u) wr)) (fun i _ => 65 - (intOf i).toNat)
  case atStart => exact ⟨0, Nat.zero_le _, rfl, HM0⟩
  case round =>
    clear HM0
    obtain ⟨k, hk65, rfl, HM⟩ := hrel
    by_cases hlt : k < 65
    · obtain ⟨v0, c0⟩ := HM.out.cell (by rw [List.length_replicate]; omega) k hlt
      have hf := HM.out.free k
      have hki : (k : Int) < 65 := by omega
      go_wp2_with fail
      go_roundw
      case rel =>
        refine ⟨k + 1, by omega, by go_num, ?_⟩
        rw [List.replicate_succ']
        exact HM.out.put k (by rw [List.length_replicate]) hlt u rfl
      case measure => simp [intOf]; omega
    · obtain rfl : k = 65 := by omega
      have HV : Hid (Vec w1 (List.replicate 65 u) wr) := ⟨HM.out, hk1.later HM.out.below⟩
      clear HM hlt hk65 hk1
      have HTWO : Hid (∀ V, KT V → Calls Tryd.prog 15 #[.string ⟨#[97, 98, 99, 100, 98, 99, 100, 101, 99, 100, 101, 102, 100, 101, 102, 103, 101, 102, 103, 104, 102, 103, 104, 105, 103, 104, 105, 106, 104, 105, 106, 107, 105, 106, 107, 108, 106, 107, 108, 109, 107, 108, 109, 110, 108, 109, 110, 111, 109, 110, 111, 112, 110, 111, 112, 113]⟩] V fun e w' => e = .returned (.string (str (Sha.sha Sha.two))) ∧ Below V.heap.size V w') := of_two
      have HHX : Hid (∀ V, Calls Tryd.prog 24 #[.string (str (Sha.sha Sha.two))] V fun e w' => e = .returned (.string ⟨#[50, 52, 56, 100, 54, 97, 54, 49, 100, 50, 48, 54, 51, 56, 98, 56, 101, 53, 99, 48, 50, 54, 57, 51, 48, 99, 51, 101, 54, 48, 51, 57, 97, 51, 51, 99, 101, 52, 53, 57, 54, 52, 102, 102, 50, 49, 54, 55, 102, 54, 101, 99, 101, 100, 100, 52, 49, 57, 100, 98, 48, 54, 99, 49]⟩) ∧ Below V.heap.size V w') := hex_two
      go_upto_region 8 with fail
      generalize (ByteArray.mk #[97, 98, 99, 100, 98, 99, 100, 101, 99, 100, 101, 102, 100, 101, 102, 103, 101, 102, 103, 104, 102, 103, 104, 105, 103, 104, 105, 106, 104, 105, 106, 107, 105, 106, 107, 108, 106, 107, 108, 109, 107, 108, 109, 110, 108, 109, 110, 111, 109, 110, 111, 112, 110, 111, 112, 113]) = va at HTWO ⊢
      generalize (ByteArray.mk #[50, 52, 56, 100, 54, 97, 54, 49, 100, 50, 48, 54, 51, 56, 98, 56, 101, 53, 99, 48, 50, 54, 57, 51, 48, 99, 51, 101, 54, 48, 51, 57, 97, 51, 51, 99, 101, 52, 53, 57, 54, 52, 102, 102, 50, 49, 54, 55, 102, 54, 101, 99, 101, 100, 100, 52, 49, 57, 100, 98, 48, 54, 99, 49]) = vb at HHX ⊢
      generalize Sha.sha Sha.two = D2 at HTWO HHX
      have HOF : Hid (∀ l : List UInt8, l.length ≤ 100 → ∀ V, KT V → Calls Tryd.prog 15 #[.string (str l)] V fun e w' => e = .returned (.string (str (Sha.sha l))) ∧ Below V.heap.size V w') := fun l hl V hV => by
        have := of_any (str l) V hV (by rw [str_size]; omega)
        rw [str_toList] at this; exact this
      have HRO : Hid (∀ l : List UInt8, l.length ≤ 100 → ∀ V, Calls Tryd.prog 16 #[.string (str l)] V fun e w' => e = .returned (.string (str (Sha.sha l))) ∧ Below V.heap.size V w') := fun l hl V => by
        have := refOf_any (str l) V (by rw [str_size]; omega)
        rw [str_toList] at this; exact this
      have HO1 := Lib.hid (HOF.out x HXL.out)
      have HO2 := Lib.hid (HOF.out (Sha.sha x) (by rw [Sha.sha_len]; omega))
      have HR1 := Lib.hid (HRO.out x HXL.out)
      have HR2 := Lib.hid (HRO.out (Sha.sha x) (by rw [Sha.sha_len]; omega))
      have HO3 := Lib.hid (HOF.out (List.replicate 65 u) (by rw [List.length_replicate]; omega))
      have HO4 := Lib.hid (HOF.out (List.replicate 64 u) (by rw [List.length_replicate]; omega))
      have HR3 := Lib.hid (HRO.out (List.replicate 65 u) (by rw [List.length_replicate]; omega))
      have HR4 := Lib.hid (HRO.out (List.replicate 64 u) (by rw [List.length_replicate]; omega))
      have HC1 : Hid (∀ V, Vec w1 (List.replicate 65 u) V → (convert 45 9 (.slice (some ⟨w1.heap.size, 0, none⟩) 65 65)).run Tryd.prog V = .ok (.string (str (List.replicate 65 u))) V) := fun V h =>
        h.conv _ (fun j hj => List.getElem?_eq_getElem hj) 65 65 (by rw [List.length_replicate]) 9 Tryd.underlying9
      have HC2 : Hid (∀ V, Vec w1 (List.replicate 65 u) V → (convert 45 9 (.slice (some ⟨w1.heap.size, 0, none⟩) 64 65)).run Tryd.prog V = .ok (.string (str (List.replicate 64 u))) V) := fun V h =>
        h.conv _ (fun j hj => by
          have hj' := hj
          rw [List.length_replicate] at hj'
          rw [List.getElem_replicate, List.getElem?_replicate, if_pos (by omega)]) 64 65 (by rw [List.length_replicate]) 9 Tryd.underlying9
      clear HOF HRO HXL
      generalize Sha.sha (Sha.sha x) = X2 at HO2 HR2
      generalize Sha.sha x = X at HO1 HO2 HR1 HR2
      generalize Sha.sha (List.replicate 65 u) = A at HO3 HR3
      generalize Sha.sha (List.replicate 64 u) = B at HO4 HR4
      generalize List.replicate 65 u = P at HV HO3 HR3 HC1 HC2
      generalize List.replicate 64 u = Q at HO4 HR4 HC2
      have hv := HV.out
      go_upto_region 10 with (first
        | (go_at_call 15; (with_reducible refine (Vec.call (W := w1) (p := P) ?_ (fun h => HTWO.out _ h)).mono ?_); (focus assumption); rintro e w4 ⟨rfl, h4⟩)
        | (go_at_call 15; (with_reducible refine (Vec.call (W := w1) (p := P) ?_ (fun h => HO1.out _ h)).mono ?_); (focus assumption); rintro e w4 ⟨rfl, h4⟩)
        | (go_at_call 15; (with_reducible refine (Vec.call (W := w1) (p := P) ?_ (fun h => HO2.out _ h)).mono ?_); (focus assumption); rintro e w4 ⟨rfl, h4⟩)
        | (go_at_call 24; (with_reducible refine (Vec.call (W := w1) (p := P) ?_ (fun _ => HHX.out _)).mono ?_); (focus assumption); rintro e w4 ⟨rfl, h4⟩)
        | (go_at_call 16; (with_reducible refine (Vec.call (W := w1) (p := P) ?_ (fun _ => HR1.out _)).mono ?_); (focus assumption); rintro e w4 ⟨rfl, h4⟩)
        | (go_at_call 16; (with_reducible refine (Vec.call (W := w1) (p := P) ?_ (fun _ => HR2.out _)).mono ?_); (focus assumption); rintro e w4 ⟨rfl, h4⟩))
      clear HTWO HHX HO1 HO2 HR1 HR2 hv HV HX
      have HSS : Hid (∀ V, Vec w1 P V → Vec w1 P V ∧ (convert 45 9 (.slice (some ⟨w1.heap.size, 0, none⟩) 65 65)).run Tryd.prog V = .ok (.string (str P)) V ∧ (convert 45 9 (.slice (some ⟨w1.heap.size, 0, none⟩) 64 65)).run Tryd.prog V = .ok (.string (str Q)) V) := fun V h => ⟨h, HC1.out V h, HC2.out V h⟩
      have hd := h4.drew
      go_region_held3 (fun V => Vec w1 P V ∧ (convert 45 9 (.slice (some ⟨w1.heap.size, 0, none⟩) 65 65)).run Tryd.prog V = .ok (.string (str P)) V ∧ (convert 45 9 (.slice (some ⟨w1.heap.size, 0, none⟩) 64 65)).run Tryd.prog V = .ok (.string (str Q)) V) (exact HSS.out _ (by assumption)) (first
        | (go_at_call 15; (with_reducible refine (Vec.call (W := w1) (p := P) ?_ (fun h => HO3.out _ h)).mono ?_); (focus assumption); rintro e w5 ⟨rfl, h5⟩)
        | (go_at_call 15; (with_reducible refine (Vec.call (W := w1) (p := P) ?_ (fun h => HO4.out _ h)).mono ?_); (focus assumption); rintro e w5 ⟨rfl, h5⟩)
        | (go_at_call 16; (with_reducible refine (Vec.call (W := w1) (p := P) ?_ (fun _ => HR3.out _)).mono ?_); (focus assumption); rintro e w5 ⟨rfl, h5⟩)
        | (go_at_call 16; (with_reducible refine (Vec.call (W := w1) (p := P) ?_ (fun _ => HR4.out _)).mono ?_); (focus assumption); rintro e w5 ⟨rfl, h5⟩))
      go_wp2_with fail
      go_ret
      exact ⟨rfl, h1.trans (h5.arr.below.mono h1.size)⟩

set_option maxRecDepth 100000 in
theorem lifted (os : Os) (started : os.Started) (H : Type) (enc : TypeId × Value → H) :
    ReturnsInHanded {} Tryd.checked os 12 .any (fun w args => (Rows.digestVectorsSpec.pre enc Tryd.prog Tryd.f12 [] false w args ∧ laidMetH Tryd.prog laid1 w) ∧ sizedMet enc Tryd.prog Tryd.f12 (OpenSpec.ofChange Rows.digestVectorsSpec) false w args) (Rows.digestVectorsSpec.post enc Tryd.prog Tryd.f12 false true false false) := by
  refine returnsInHanded_of_change_and (C := Tryd.checked) (X := fun w _ => laidMetH Tryd.prog laid1 w) (fun _ _ _ hh h => h.of_heap hh) own started (by kernel_rfl) Tryd.func12
    (ChangeSpec.witness_shaped (enc := enc) (C := Tryd.checked) (os := os) (X := fun w _ => laidMetH Tryd.prog laid1 w) false (World.doorLaid Tryd.prog 400 os) #[.int .u8 0, .string ByteArray.empty] 8 rfl (World.shaped_of_RefB (by kernel_rfl) (by kernel_rfl)) (by kernel_rfl) (by kernel_rfl) (by kernel_rfl) (door_met os _)) ?_
  intro W base args ds gs before hval0 hW _ hsz0 hL _
  have hval : ∀ (j : Nat) t v, Tryd.f12.params[j]? = some t → args[j]? = some v → Value.okWide Tryd.prog W .any base t v := hval0
  have hsz : (DataW.weightsEach Tryd.prog (Tryd.f12.params.toList ++ Rows.digestVectorsSpec.plain.varTypes Tryd.prog) (ds ++ gs)).all (· ≤ reachBytes) = true := hsz0
  have hW' := hW
  obtain ⟨p, q, hA0, hV, rfl, hfz, hnd⟩ := hW
  have hA : DataW.TrodAll enc Tryd.prog W 0 (fun _ => true) true Tryd.f12.params.toList args.toList ds p := hA0
  rw [Tryd.params12] at hA hval hsz
  obtain ⟨v0, v1, d0, d1, p0, p1, rfl, rfl, rfl, h0, h1⟩ := trodAll_two hA
  obtain ⟨rfl, rfl⟩ := trodVars_none hV
  obtain ⟨c, rfl, rfl, rfl, wc⟩ := open_int Tryd.underlying5 (hval 0 5 v0 rfl rfl) h0
  obtain ⟨s, rfl, rfl, rfl, ws⟩ := open_string Tryd.underlying9 (hval 1 9 v1 rfl rfl) h1
  have hs : s.size ≤ 140737488355328 := by have h := sized_string hsz (j := 1) (t := 9) rfl rfl; rw [lenS] at h; exact Nat.le_trans h (by decide)
  refine (walk c s W (kt_of_laid hL) wc hs).mono fun e W' ⟨he, hb⟩ => ?_
  subst he
  exact ⟨_, rfl, law_post hW' rfl (by kernel_rfl) rfl (by intro t ht; rw [Tryd.params12] at ht; simp at ht; rcases ht with rfl | rfl <;> exact ⟨by kernel_rfl, of_decide_eq_true (by kernel_rfl)⟩) hb⟩

theorem holds : Rows.DigestVectorsSaid :=
  OpenClaim.holds_of_wide 12 Tryd.f12 rfl rfl rfl rfl rfl rfl rfl ⟨rfl, rfl, rfl, rfl, rfl⟩ rfl rfl rfl rfl rfl (by kernel_rfl) Tryd.func12 (by kernel_rfl)
    (of_decide_eq_true (by kernel_rfl)) (by unfold Func.isWrapper; first | (rw [if_pos (by decide +kernel)]; kernel_rfl) | (rw [if_neg (by decide +kernel)]; exact ⟨rfl, rfl⟩))
    (fun os started H enc _ => lifted os started H enc)

theorem card_holds : Rows.DigestVectorsCardSaid :=
  Claim7.holds_tied_plain_at .later [] [.data] true Rows.digestVectorsCard.stood.harness false
    holds (fun _ h => by cases h) (by kernel_rfl) (fun _ h => by cases h) digestVectors_row_tie rfl ⟨rfl, rfl⟩ (by kernel_rfl) rfl
    (fun f fn hf hfn => by
      obtain rfl : f = 12 := Option.some.inj ((show Tryd.prog.funcNamed Rows.digestVectorsRow.func = some 12 by kernel_rfl).symm.trans hf) |>.symm
      obtain rfl : fn = Tryd.f12 := (Option.some.inj (Tryd.func12.symm.trans hfn)).symm
      exact ⟨by kernel_rfl, fun j t ht => by
        rw [Tryd.params12] at ht
        have hm : t ∈ [5, 9] := by simpa using Array.mem_of_getElem? ht
        have hall : ([5, 9].all fun u => !Tryd.prog.wantsStandIn u) = true := by kernel_rfl
        exact (show Tryd.prog.wantsStandIn t = false by simpa using List.all_eq_true.1 hall t hm)⟩)
    (by kernel_rfl)
end Go.Proofs.YtcpbadldplpedaaDoor.LVec
