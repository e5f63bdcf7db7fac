/-
  DigestNested: for every two lists, their digests can be joined in turn, and order and grouping are part of the preimage. No conditions on the arguments; the table of round constants is as the program lays it (tied).
-/
import Derived.Test.YtcpbadldplpedaaDoorLaw
import Derived.Test.YtcpbadldplpedaaDoorSane
namespace Go.Proofs.YtcpbadldplpedaaDoor.LNest
open Go.ChangeShapes Go.WideShapes Go.ChangeAt Go.RowKit
open Go.ChangeMaps (open_string shut_string)
variable {W w w' : World}

theorem join2 (X Y : List UInt8) (V : World) (hk : KT V) (hs : (pre [X, Y]).length ≤ 1000000) : Calls Tryd.prog 18 #[.slice (some ⟨V.heap.size, 0, none⟩) 2 2] (V.alloc (.cells #[.string (str X), .string (str Y)] 9)) fun e w' => e = .returned (.string (str (Sha.sha (pre [X, Y])))) ∧ Below V.heap.size V w' := by
  have hb : Below V.heap.size V (V.alloc (.cells #[.string (str X), .string (str Y)] 9)) := (Below.refl _ _).alloc (Nat.le_refl _) _
  have hv : StrsAt (V.alloc (.cells #[.string (str X), .string (str Y)] 9)) (.slice (some ⟨V.heap.size, 0, none⟩) 2 2) [X, Y] := by
    refine ⟨some ⟨V.heap.size, 0, none⟩, 2, rfl, Nat.le_refl _, by omega, fun i hi => ⟨V.heap.size, 0, rfl, by simp, ?_⟩⟩
    rw [cell_of_row _ _ _ _ _ _ (heap_alloc_new _ _)]
    match i, hi with
    | 0, _ => rfl
    | 1, _ => rfl
  exact (join_any _ [X, Y] _ (hk.later hb) hv hs).mono fun _ _ ⟨h1, h2⟩ => ⟨h1, hb.trans (h2.mono hb.size)⟩
theorem join1 (X : List UInt8) (V : World) (hk : KT V) (hs : (pre [X]).length ≤ 1000000) : Calls Tryd.prog 18 #[.slice (some ⟨V.heap.size, 0, none⟩) 1 1] (V.alloc (.cells #[.string (str X)] 9)) fun e w' => e = .returned (.string (str (Sha.sha (pre [X])))) ∧ Below V.heap.size V w' := by
  have hb : Below V.heap.size V (V.alloc (.cells #[.string (str X)] 9)) := (Below.refl _ _).alloc (Nat.le_refl _) _
  have hv : StrsAt (V.alloc (.cells #[.string (str X)] 9)) (.slice (some ⟨V.heap.size, 0, none⟩) 1 1) [X] := by
    refine ⟨some ⟨V.heap.size, 0, none⟩, 1, rfl, Nat.le_refl _, by omega, fun i hi => ⟨V.heap.size, 0, rfl, by simp, ?_⟩⟩
    rw [cell_of_row _ _ _ _ _ _ (heap_alloc_new _ _)]
    match i, hi with
    | 0, _ => rfl
  exact (join_any _ [X] _ (hk.later hb) hv hs).mono fun _ _ ⟨h1, h2⟩ => ⟨h1, hb.trans (h2.mono hb.size)⟩
theorem join0 (V : World) (hk : KT V) : Calls Tryd.prog 18 #[.slice (some ⟨V.heap.size, 0, none⟩) 1 1] (V.alloc (.cells #[.string ⟨#[]⟩] 9)) fun e w' => e = .returned (.string (str (Sha.sha (pre [[]])))) ∧ Below V.heap.size V w' := join1 [] V hk (by decide)
theorem pre_two {X Y : List UInt8} (hx : X.length = 32) (hy : Y.length = 32) : (⟨#[0, 0, 0, 0, 0, 0, 0, 32]⟩ ++ str X ++ ⟨#[0, 0, 0, 0, 0, 0, 0, 32]⟩ ++ str Y : ByteArray) = str (pre [X, Y]) := by
  have e : (⟨#[0, 0, 0, 0, 0, 0, 0, 32]⟩ : ByteArray) = str (putN 32 8) := by unfold str; rfl
  rw [e, str_append, str_append, str_append, pre_flat]
  simp [piece, hx, hy]
theorem pre_one {X : List UInt8} (hx : X.length = 32) : (⟨#[0, 0, 0, 0, 0, 0, 0, 32]⟩ ++ str X : ByteArray) = str (pre [X]) := by
  have e : (⟨#[0, 0, 0, 0, 0, 0, 0, 32]⟩ : ByteArray) = str (putN 32 8) := by unfold str; rfl
  rw [e, str_append, pre_flat]
  simp [piece, hx]
theorem of_is {m : ByteArray} {P : List UInt8} (h : m = str P) (hs : P.length ≤ 1000000) (V : World) (hk : KT V) : Calls Tryd.prog 15 #[.string m] V fun e w' => e = .returned (.string (str (Sha.sha P))) ∧ Below V.heap.size V w' := by
  subst h
  have := of_any (str P) V hk (by rw [str_size]; exact hs)
  rw [str_toList] at this; exact this
theorem KT.call2 {P : Program} {f : FuncId} {args : Array Value} {v : Value} {w0 V : World} {o : Obj} (hk : KT w0) (hb : Below w0.heap.size w0 V)
    (h : KT V → Calls P f args (V.alloc o) fun e w' => e = .returned v ∧ Below V.heap.size V w') : Calls P f args (V.alloc o) fun e w' => e = .returned v ∧ Below w0.heap.size w0 w' :=
  (h (hk.later hb)).mono fun _ _ ⟨h1, h2⟩ => ⟨h1, hb.trans (h2.mono hb.size)⟩

set_option maxHeartbeats 2000000 in
set_option maxRecDepth 100000 in
theorem walk (a : List ByteArray) (pa : Option Addr) (na ca : Nat) (b : List ByteArray) (pb : Option Addr) (nb cb : Nat) (w : World) (hk : KT w) (ha : Args w pa na a) (hb : Args w pb nb b) : Calls Tryd.prog 7 #[.slice pa na ca, .slice pb nb cb] w fun e w' => e = .returned (.bool true) ∧ Below w.heap.size w w' := by
  have HA := Lib.hid ha; clear ha
  have HB := Lib.hid hb; clear hb
  have HPX : Hid ((pre (fewL a na)).length ≤ 1000000) := by have := pre_few a na; unfold Hid; omega
  have HPY : Hid ((pre (fewL b nb)).length ≤ 1000000) := by have := pre_few b nb; unfold Hid; omega
  go_enter Tryd.func7, Tryd.ntmps7
  go_upto_region 3 with (first
    | (go_at_call 13; (with_reducible refine (sane_any _ hk).mono ?_); rintro e w1 ⟨rfl, h1⟩)
    | (go_at_call 17; (with_reducible refine (list_any a _ _ _ _ (HA.out.later h1)).mono ?_); rintro e w2 ⟨v, rfl, h2, b2⟩; have hb2 : Below w.heap.size w w2 := h1.trans (b2.mono h1.size))
    | (go_at_call 18; (with_reducible refine (KT.call (w0 := w) hk hb2 (fun h => join_any _ _ _ h h2.strs HPX.out)).mono ?_); rintro e w3 ⟨rfl, hb3⟩))
  clear h2 b2 h1 hb2
  go_upto_region 5 with (first
    | (go_at_call 17; (with_reducible refine (list_any b _ _ _ _ (HB.out.later hb3)).mono ?_); rintro e w4 ⟨v, rfl, h4, b4⟩; have hb4 : Below w.heap.size w w4 := hb3.trans (b4.mono hb3.size))
    | (go_at_call 18; (with_reducible refine (KT.call (w0 := w) hk hb4 (fun h => join_any _ _ _ h h4.strs HPY.out)).mono ?_); rintro e w5 ⟨rfl, hb5⟩))
  clear h4 b4 hb3 hb4 HA HB HPX HPY
  have HXL : Hid ((Sha.sha (pre (fewL a na))).length = 32) := Sha.sha_len _
  have HYL : Hid ((Sha.sha (pre (fewL b nb))).length = 32) := Sha.sha_len _
  generalize Sha.sha (pre (fewL a na)) = X at HXL ⊢
  generalize Sha.sha (pre (fewL b nb)) = Y at HYL ⊢
  have HJ2 : Hid ((pre [X, Y]).length ≤ 1000000) := by
    have := HXL.out; have := HYL.out
    unfold Hid; rw [pre_flat]; simp [piece_len]; omega
  have HJ1 : Hid ((pre [X]).length ≤ 1000000) := by
    have := HXL.out
    unfold Hid; rw [pre_flat]; simp [piece_len]; omega
  have hx : (str X).size ≤ 32 := by rw [str_size]; exact Nat.le_of_eq HXL.out
  have hy : (str Y).size ≤ 32 := by rw [str_size]; exact Nat.le_of_eq HYL.out
  have H0 : Hid ((⟨#[0, 0, 0, 0, 0, 0, 0, 0]⟩ : ByteArray) = str (pre [[]])) := by unfold Hid str; rfl
  go_wp2_with (first
    | (go_at_call 18; (with_reducible refine (KT.call2 (w0 := w) hk ?_ (fun h => join2 _ _ _ h HJ2.out)).mono ?_); (focus assumption); rintro e w6 ⟨rfl, hb6⟩)
    | (go_at_call 18; (with_reducible refine (KT.call2 (w0 := w) hk ?_ (fun h => join0 _ h)).mono ?_); (focus assumption); rintro e w6 ⟨rfl, hb6⟩)
    | (go_at_call 18; (with_reducible refine (KT.call2 (w0 := w) hk ?_ (fun h => join1 _ _ h HJ1.out)).mono ?_); (focus assumption); rintro e w6 ⟨rfl, hb6⟩)
    | (go_at_call 15; (with_reducible refine (KT.call (w0 := w) hk ?_ (fun h => of_is (pre_two HXL.out HYL.out) HJ2.out _ h)).mono ?_); (focus assumption); rintro e w6 ⟨rfl, hb6⟩)
    | (go_at_call 15; (with_reducible refine (KT.call (w0 := w) hk ?_ (fun h => of_is (pre_one HXL.out) HJ1.out _ h)).mono ?_); (focus assumption); rintro e w6 ⟨rfl, hb6⟩)
    | (go_at_call 15; (with_reducible refine (KT.call (w0 := w) hk ?_ (fun h => of_is H0.out (by decide) _ h)).mono ?_); (focus assumption); rintro e w6 ⟨rfl, hb6⟩))
  go_ret
  exact ⟨rfl, by assumption⟩

set_option maxRecDepth 100000 in
theorem lifted (os : Os) (started : os.Started) (H : Type) (enc : TypeId × Value → H) :
    ReturnsInHanded {} Tryd.checked os 7 .any (fun w args => (Rows.digestNestedSpec.pre enc Tryd.prog Tryd.f7 [] false w args ∧ laidMetH Tryd.prog laid1 w) ∧ sizedMet enc Tryd.prog Tryd.f7 (OpenSpec.ofChange Rows.digestNestedSpec) false w args) (Rows.digestNestedSpec.post enc Tryd.prog Tryd.f7 false true false false) := by
  refine returnsInHanded_of_change_and (C := Tryd.checked) (X := fun w _ => laidMetH Tryd.prog laid1 w) (fun _ _ _ hh h => h.of_heap hh) own started (by kernel_rfl) Tryd.func7
    (ChangeSpec.witness_shaped (enc := enc) (C := Tryd.checked) (os := os) (X := fun w _ => laidMetH Tryd.prog laid1 w) false (World.doorLaid Tryd.prog 400 os) #[.slice none 0 0, .slice none 0 0] 8 rfl (World.shaped_of_RefB (by kernel_rfl) (by kernel_rfl)) (by kernel_rfl) (by kernel_rfl) (by kernel_rfl) (door_met os _)) ?_
  intro W base args ds gs before hval0 hW _ hsz0 hL _
  have hval : ∀ (j : Nat) t v, Tryd.f7.params[j]? = some t → args[j]? = some v → Value.okWide Tryd.prog W .any base t v := hval0
  have hsz : (DataW.weightsEach Tryd.prog (Tryd.f7.params.toList ++ Rows.digestNestedSpec.plain.varTypes Tryd.prog) (ds ++ gs)).all (· ≤ reachBytes) = true := hsz0
  have hW' := hW
  obtain ⟨p, q, hA0, hV, rfl, hfz, hnd⟩ := hW
  have hA : DataW.TrodAll enc Tryd.prog W 0 (fun _ => true) true Tryd.f7.params.toList args.toList ds p := hA0
  rw [Tryd.params7] at hA hval hsz
  obtain ⟨v0, v1, d0, d1, p0, p1, rfl, rfl, rfl, h0, h1⟩ := trodAll_two hA
  obtain ⟨rfl, rfl⟩ := trodVars_none hV
  obtain ⟨poa, na, ca, a, rfl, ha⟩ := opened_strings (hval 0 28 v0 rfl rfl) h0
  obtain ⟨pob, nb, cb, b, rfl, hb⟩ := opened_strings (hval 1 28 v1 rfl rfl) h1
  refine (walk a poa na ca b pob nb cb W (kt_of_laid hL) ha hb).mono fun e W' ⟨he, hb⟩ => ?_
  subst he
  exact ⟨_, rfl, law_post hW' rfl (by kernel_rfl) rfl (by intro t ht; rw [Tryd.params7] at ht; simp at ht; subst ht; exact ⟨by kernel_rfl, of_decide_eq_true (by kernel_rfl)⟩) hb⟩

theorem holds : Rows.DigestNestedSaid :=
  OpenClaim.holds_of_wide 7 Tryd.f7 rfl rfl rfl rfl rfl rfl rfl ⟨rfl, rfl, rfl, rfl, rfl⟩ rfl rfl rfl rfl rfl (by kernel_rfl) Tryd.func7 (by kernel_rfl)
    (of_decide_eq_true (by kernel_rfl)) (by unfold Func.isWrapper; first | (rw [if_pos (by decide +kernel)]; kernel_rfl) | (rw [if_neg (by decide +kernel)]; exact ⟨rfl, rfl⟩))
    (fun os started H enc _ => lifted os started H enc)

theorem card_holds : Rows.DigestNestedCardSaid :=
  Claim7.holds_tied_plain_at .later [] [.data] true Rows.digestNestedCard.stood.harness false
    holds (fun _ h => by cases h) (by kernel_rfl) (fun _ h => by cases h) digestNested_row_tie rfl ⟨rfl, rfl⟩ (by kernel_rfl) rfl
    (fun f fn hf hfn => by
      obtain rfl : f = 7 := Option.some.inj ((show Tryd.prog.funcNamed Rows.digestNestedRow.func = some 7 by kernel_rfl).symm.trans hf) |>.symm
      obtain rfl : fn = Tryd.f7 := (Option.some.inj (Tryd.func7.symm.trans hfn)).symm
      exact ⟨by kernel_rfl, fun j t ht => by
        rw [Tryd.params7] at ht
        have hm : t ∈ [28, 28] := by simpa using Array.mem_of_getElem? ht
        have hall : ([28, 28].all fun u => !Tryd.prog.wantsStandIn u) = true := by kernel_rfl
        exact (show Tryd.prog.wantsStandIn t = false by simpa using List.all_eq_true.1 hall t hm)⟩)
    (by kernel_rfl)
end Go.Proofs.YtcpbadldplpedaaDoor.LNest
