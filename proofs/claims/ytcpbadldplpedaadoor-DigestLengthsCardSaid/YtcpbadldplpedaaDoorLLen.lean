/-
  DigestLengths: for every string and every list, the digests have 32 octets, are valid, and their hexadecimal form is read back. No conditions on the arguments; the table of round constants is as the program lays it (tied).
-/
import Derived.Test.YtcpbadldplpedaaDoorLaw
import Derived.Test.YtcpbadldplpedaaDoorSane
import Derived.Test.YtcpbadldplpedaaDoorValid
namespace Go.Proofs.YtcpbadldplpedaaDoor.LLen
open Go.ChangeShapes Go.WideShapes Go.ChangeAt Go.RowKit
open Go.ChangeMaps (open_string shut_string)
variable {W w w' : World}

/-- the two digests in their array -/
structure Two (W : World) (g : Nat) (X Y : List UInt8) (w : World) : Prop where
  own : ∃ t fr, w.heap[g]? = some (.cells #[.string (str X), .string (str Y)] t fr)
  at_ : W.heap.size ≤ g
  below : Below W.heap.size W w
theorem Two.later {W w w' : World} {g : Nat} {X Y : List UInt8} (h : Two W g X Y w) (hb : Below w.heap.size w w') : Two W g X Y w' := by
  obtain ⟨t, fr, ho⟩ := h.own
  exact ⟨⟨t, fr, by rw [hb.block g (Array.getElem?_eq_some_iff.1 ho).1]; exact ho⟩, h.at_, h.below.trans (hb.mono h.below.size)⟩
theorem Two.call {P : Program} {f : FuncId} {args : Array Value} {v : Value} {W w : World} {g : Nat} {X Y : List UInt8} (h : Two W g X Y w) (hc : Calls P f args w fun e w' => e = .returned v ∧ Below w.heap.size w w') :
    Calls P f args w fun e w' => e = .returned v ∧ Two W g X Y w' := hc.mono fun _ _ ⟨h1, h2⟩ => ⟨h1, h.later h2⟩
theorem Two.cell {W w : World} {g : Nat} {X Y : List UInt8} (h : Two W g X Y w) (k : Nat) (hk : k < 2) : w.cell? ⟨g, k, none⟩ = some (.string (str ([X, Y].getD k []))) := by
  obtain ⟨t, fr, ho⟩ := h.own
  rw [cell_of_row _ _ _ _ _ _ ho]
  match k, hk with
  | 0, _ => rfl
  | 1, _ => rfl

set_option maxHeartbeats 1000000 in
set_option maxRecDepth 100000 in
theorem walk (s : ByteArray) (a : List ByteArray) (pa : Option Addr) (na ca : Nat) (w : World) (hk : KT w) (hs : s.size ≤ 140737488355328) (ha : Args w pa na a) : Calls Tryd.prog 11 #[.string s, .slice pa na ca] w fun e w' => e = .returned (.bool true) ∧ Below w.heap.size w w' := by
  have HS : Hid (s.size ≤ 9223372036854775807) := Nat.le_trans hs (by decide)
  clear hs
  have HA := Lib.hid ha; clear ha
  have HL : Hid ((fewL a na).length < 1000) := by unfold Hid; rw [fewL_len]; omega
  have HX : Hid (∀ V, Calls Tryd.prog 14 #[.string s, .int .i64 400] V fun e w' => e = .returned (.string (str (s.data.toList.take 400))) ∧ V = w') := fun V => some_400 s V HS.out
  have HXL : Hid ((s.data.toList.take 400).length ≤ 400) := by unfold Hid; rw [List.length_take]; omega
  have HPX : Hid ((pre (fewL a na ++ [s.data.toList.take 400])).length ≤ 1000000) := by
    have h1 := pre_few a na
    have h2 := HXL.out
    unfold Hid
    rw [pre_flat] at h1 ⊢
    simp only [List.map_append, List.map_cons, List.map_nil, List.flatten_append, List.flatten_cons, List.flatten_nil, List.length_append, List.append_nil, piece_len]
    omega
  clear HS
  generalize s.data.toList.take 400 = x at HX HXL HPX
  go_enter Tryd.func11, Tryd.ntmps11
  go_upto_region 3 with (first
    | (go_at_call 13; (with_reducible refine (sane_any _ hk).mono ?_); rintro e w1 ⟨rfl, h1⟩)
    | (go_at_call 17; (with_reducible refine (list_any a _ _ _ _ (HA.out.later h1)).mono ?_); rintro e w2 ⟨v, rfl, h2, b2⟩; have hb2 : Below w.heap.size w w2 := h1.trans (b2.mono h1.size)))
  have hB1 : w1.heap.size ≤ w2.heap.size := b2.size
  go_upto_region 4 with (first
    | (go_at_call 14; (with_reducible refine (HX.out _).mono ?_); rintro e w3 ⟨rfl, rfl⟩)
    | (at_builtin; refine wp_appS rfl (.tmp 14) (.tmp 17) rfl w1.heap.size w2 _ (fewL a na) x _ (by rfl) h2 (by rfl) rfl HL.out hB1 ?_; intro v' w3 ho3 hb3))
  have hB3 : Below w.heap.size w w3 := hb2.trans (hb3.mono (Nat.le_trans h1.size (Nat.le_refl _)))
  clear b2 hb2 h2 hB1 hb3 h1 HA
  have HOF : Hid (∀ V, KT V → Calls Tryd.prog 15 #[.string (str x)] V fun e w' => e = .returned (.string (str (Sha.sha x))) ∧ Below V.heap.size V w') := fun V hV => by
    have := of_any (str x) V hV (by rw [str_size]; have := HXL.out; omega)
    rw [str_toList] at this; exact this
  have HJ : Hid (∀ V, KT V → Below w3.heap.size w3 V → Calls Tryd.prog 18 #[v'] V fun e w' => e = .returned (.string (str (Sha.sha (pre (fewL a na ++ [x]))))) ∧ Below V.heap.size V w') := fun V hV hb => join_any _ _ _ hV (ho3.strs.later hb) HPX.out
  have HZX : Hid ((Sha.sha x).length = 32) := Sha.sha_len _
  have HZY : Hid ((Sha.sha (pre (fewL a na ++ [x]))).length = 32) := Sha.sha_len _
  clear ho3 HPX HXL HL
  generalize Sha.sha (pre (fewL a na ++ [x])) = Y at HJ HZY
  generalize Sha.sha x = X at HOF HZX
  have hk3 := hk.later hB3
  go_upto_region 5 with (first
    | (go_at_call 14; (with_reducible refine (HX.out _).mono ?_); rintro e w4 ⟨rfl, rfl⟩)
    | (go_at_call 15; (with_reducible refine (HOF.out _ hk3).mono ?_); rintro e w4 ⟨rfl, h4⟩)
    | (go_at_call 18; (with_reducible refine (HJ.out _ (hk3.later h4) h4).mono ?_); rintro e w5 ⟨rfl, h5⟩))
  have hB5 : Below w.heap.size w w5 := hB3.trans ((h4.trans (h5.mono h4.size)).mono hB3.size)
  have HT : Hid (Two w w5.heap.size X Y (w5.alloc (Obj.cells #[Value.string (str X), Value.string (str Y)] 47))) := ⟨⟨_, _, heap_alloc_new _ _⟩, hB5.size, hB5.alloc hB5.size _⟩
  clear h4 h5 hB5 hB3 hk3 HJ HOF HX
  generalize w5.alloc (Obj.cells #[Value.string (str X), Value.string (str Y)] 47) = w6 at HT ⊢
  generalize w5.heap.size = g at HT ⊢
  go_wp2_with fail
  go_loopw [8, 9, 10] (fun i x e wr => ∃ k : Nat, k ≤ 2 ∧ i = .int .i64 k ∧ Hid (Two w g X Y wr)) (fun i _ _ _ => 2 - (intOf i).toNat)
  case atStart => exact ⟨0, Nat.zero_le _, rfl, HT⟩
  case round =>
    clear HT
    obtain ⟨k, hk2, rfl, HT⟩ := hrel
    by_cases hlt : k < 2
    · have HZ : Hid (([X, Y].getD k []).length = 32) := by
        match k, hlt with
        | 0, _ => exact HZX.out
        | 1, _ => exact HZY.out
      have hc := HT.out.cell k hlt
      have HC : Hid (∀ V, Two w g X Y V → V.cell? ⟨g, k, none⟩ = some (.string (str ([X, Y].getD k [])))) := fun V h => h.cell k hlt
      generalize [X, Y].getD k [] = Z at HZ hc HC
      have HHEX : Hid (∀ V, Calls Tryd.prog 24 #[.string (str Z)] V fun e w' => e = .returned (.string (str (Sha.hexL Z))) ∧ Below V.heap.size V w') := fun V => by
        have := hex_any (str Z) V; rw [str_toList] at this; exact this
      have HPAR : Hid (∀ V, Calls Tryd.prog 22 #[.string (str (Sha.hexL Z))] V fun e w' => e = .returned (.tuple #[.string (str Z), .int .i64 0]) ∧ Below V.heap.size V w') := fun V => by
        have := parse_any (str (Sha.hexL Z)) V
        unfold Sha.parD Sha.parE at this
        rw [str_toList, Sha.par_hex HZ.out] at this; exact this
      have HV : Hid (∀ V, Calls Tryd.prog 26 #[.string (str Z)] V fun e w' => e = .returned (.bool true) ∧ V = w') := fun V => valid_yes _ V (by rw [str_size]; exact HZ.out)
      have hsz : (str Z).size = 32 := by rw [str_size]; exact HZ.out
      generalize Sha.hexL Z = h at HHEX HPAR
      go_upto_region 9 with (first
        | (go_at_call 24; (with_reducible refine (HT.out.call (HHEX.out _)).mono ?_); rintro e w7 ⟨rfl, h7⟩)
        | (go_at_call 22; (with_reducible refine (h7.call (HPAR.out _)).mono ?_); rintro e w8 ⟨rfl, h8⟩))
      have hc8 := HC.out _ h8
      clear hc h7
      go_wp2_with (go_at_call 26; (with_reducible refine (HV.out _).mono ?_); rintro e w9 ⟨rfl, rfl⟩)
      go_roundw
      case rel => exact ⟨k + 1, by omega, by go_num, h8⟩
      case measure => simp [intOf]; omega
    · obtain rfl : k = 2 := by omega
      go_wp2_with fail
      go_ret
      exact ⟨rfl, HT.out.below⟩

set_option maxRecDepth 100000 in
theorem lifted (os : Os) (started : os.Started) (H : Type) (enc : TypeId × Value → H) :
    ReturnsInHanded {} Tryd.checked os 11 .any (fun w args => (Rows.digestLengthsSpec.pre enc Tryd.prog Tryd.f11 [] false w args ∧ laidMetH Tryd.prog laid1 w) ∧ sizedMet enc Tryd.prog Tryd.f11 (OpenSpec.ofChange Rows.digestLengthsSpec) false w args) (Rows.digestLengthsSpec.post enc Tryd.prog Tryd.f11 false true false false) := by
  refine returnsInHanded_of_change_and (C := Tryd.checked) (X := fun w _ => laidMetH Tryd.prog laid1 w) (fun _ _ _ hh h => h.of_heap hh) own started (by kernel_rfl) Tryd.func11
    (ChangeSpec.witness_shaped (enc := enc) (C := Tryd.checked) (os := os) (X := fun w _ => laidMetH Tryd.prog laid1 w) false (World.doorLaid Tryd.prog 400 os) #[.string ByteArray.empty, .slice none 0 0] 8 rfl (World.shaped_of_RefB (by kernel_rfl) (by kernel_rfl)) (by kernel_rfl) (by kernel_rfl) (by kernel_rfl) (door_met os _)) ?_
  intro W base args ds gs before hval0 hW _ hsz0 hL _
  have hval : ∀ (j : Nat) t v, Tryd.f11.params[j]? = some t → args[j]? = some v → Value.okWide Tryd.prog W .any base t v := hval0
  have hsz : (DataW.weightsEach Tryd.prog (Tryd.f11.params.toList ++ Rows.digestLengthsSpec.plain.varTypes Tryd.prog) (ds ++ gs)).all (· ≤ reachBytes) = true := hsz0
  have hW' := hW
  obtain ⟨p, q, hA0, hV, rfl, hfz, hnd⟩ := hW
  have hA : DataW.TrodAll enc Tryd.prog W 0 (fun _ => true) true Tryd.f11.params.toList args.toList ds p := hA0
  rw [Tryd.params11] at hA hval hsz
  obtain ⟨v0, v1, d0, d1, p0, p1, rfl, rfl, rfl, h0, h1⟩ := trodAll_two hA
  obtain ⟨rfl, rfl⟩ := trodVars_none hV
  obtain ⟨s, rfl, rfl, rfl, ws⟩ := open_string Tryd.underlying9 (hval 0 9 v0 rfl rfl) h0
  have hs : s.size ≤ 140737488355328 := by have h := sized_string hsz (j := 0) (t := 9) rfl rfl; rw [lenS] at h; exact Nat.le_trans h (by decide)
  obtain ⟨poa, na, ca, a, rfl, ha⟩ := opened_strings (hval 1 28 v1 rfl rfl) h1
  refine (walk s a poa na ca W (kt_of_laid hL) hs ha).mono fun e W' ⟨he, hb⟩ => ?_
  subst he
  exact ⟨_, rfl, law_post hW' rfl (by kernel_rfl) rfl (by intro t ht; rw [Tryd.params11] at ht; simp at ht; rcases ht with rfl | rfl <;> exact ⟨by kernel_rfl, of_decide_eq_true (by kernel_rfl)⟩) hb⟩

theorem holds : Rows.DigestLengthsSaid :=
  OpenClaim.holds_of_wide 11 Tryd.f11 rfl rfl rfl rfl rfl rfl rfl ⟨rfl, rfl, rfl, rfl, rfl⟩ rfl rfl rfl rfl rfl (by kernel_rfl) Tryd.func11 (by kernel_rfl)
    (of_decide_eq_true (by kernel_rfl)) (by unfold Func.isWrapper; first | (rw [if_pos (by decide +kernel)]; kernel_rfl) | (rw [if_neg (by decide +kernel)]; exact ⟨rfl, rfl⟩))
    (fun os started H enc _ => lifted os started H enc)

theorem card_holds : Rows.DigestLengthsCardSaid :=
  Claim7.holds_tied_plain_at .later [] [.data] true Rows.digestLengthsCard.stood.harness false
    holds (fun _ h => by cases h) (by kernel_rfl) (fun _ h => by cases h) digestLengths_row_tie rfl ⟨rfl, rfl⟩ (by kernel_rfl) rfl
    (fun f fn hf hfn => by
      obtain rfl : f = 11 := Option.some.inj ((show Tryd.prog.funcNamed Rows.digestLengthsRow.func = some 11 by kernel_rfl).symm.trans hf) |>.symm
      obtain rfl : fn = Tryd.f11 := (Option.some.inj (Tryd.func11.symm.trans hfn)).symm
      exact ⟨by kernel_rfl, fun j t ht => by
        rw [Tryd.params11] at ht
        have hm : t ∈ [9, 28] := by simpa using Array.mem_of_getElem? ht
        have hall : ([9, 28].all fun u => !Tryd.prog.wantsStandIn u) = true := by kernel_rfl
        exact (show Tryd.prog.wantsStandIn t = false by simpa using List.all_eq_true.1 hall t hm)⟩)
    (by kernel_rfl)
end Go.Proofs.YtcpbadldplpedaaDoor.LLen
