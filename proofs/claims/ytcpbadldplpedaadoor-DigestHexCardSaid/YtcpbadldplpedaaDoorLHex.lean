/-
  DigestHex: for every digest value and every string, Hex, Valid and Parse return what the reference returns. No conditions on the arguments; the table of round constants is as the program lays it (tied).
-/
import Derived.Test.YtcpbadldplpedaaDoorLaw
import Derived.Test.YtcpbadldplpedaaDoorSane
import Derived.Test.YtcpbadldplpedaaDoorRefHex
namespace Go.Proofs.YtcpbadldplpedaaDoor.LHex
open Go.ChangeShapes Go.WideShapes Go.ChangeAt Go.RowKit
open Go.ChangeMaps (open_string shut_string)
variable {W w w' : World}

theorem valid_is (d : ByteArray) (b : Bool) (h : b = ((d.size : Int) == 32)) (w : World) : Calls Tryd.prog 26 #[.string d] w fun e w' => e = .returned (.bool b) ∧ w = w' := by
  subst h
  by_cases h : d.size = 32
  · rw [show ((d.size : Int) == 32) = true from by simp [h]]; exact valid_yes d w h
  · rw [show ((d.size : Int) == 32) = false from by simp; omega]; exact valid_no d w h
set_option maxHeartbeats 1000000 in
set_option maxRecDepth 100000 in
theorem walk (d s : ByteArray) (w : World) (hk : KT w) (hd : d.size ≤ 140737488355328) (hs : s.size ≤ 140737488355328) : Calls Tryd.prog 8 #[.string d, .string s] w fun e w' => e = .returned (.bool true) ∧ Below w.heap.size w w' := by
  have HD : Hid (d.size ≤ 9223372036854775807) := by unfold Hid; omega
  have HS : Hid (s.size ≤ 9223372036854775807) := by unfold Hid; omega
  clear hd hs
  go_enter Tryd.func8, Tryd.ntmps8
  go_upto_region 4 with (first
    | (go_at_call 13; (with_reducible refine (sane_any _ hk).mono ?_); rintro e w1 ⟨rfl, h1⟩)
    | (go_at_call 14; (with_reducible refine (some_40 _ _ HD.out).mono ?_); rintro e w' ⟨rfl, rfl⟩)
    | (go_at_call 14; (with_reducible refine (some_80 _ _ HS.out).mono ?_); rintro e w' ⟨rfl, rfl⟩))
  generalize str (d.data.toList.take 40) = d
  generalize str (s.data.toList.take 80) = s
  generalize hval : ((d.size : Int) == 32) = vb
  have HVB := Lib.hid (fun w => valid_is d vb hval.symm w)
  go_upto_region 6 with (first
    | (go_at_call 22; (with_reducible refine (Below.call (w0 := w) h1 (parse_any _ _)).mono ?_); rintro e w2 ⟨rfl, h2⟩)
    | (go_at_call 23; (with_reducible refine (Below.call (w0 := w) h2 (refParse_any _ _)).mono ?_); rintro e w3 ⟨rfl, h3⟩))
  have hw4 : Below w.heap.size w (w3.alloc (Obj.cells #[Value.string (str (Sha.parD s.data.toList)), Value.int IntKind.i64 (Sha.parE s.data.toList)] 40)) := h3.alloc h3.size _
  have HW := Lib.hid hw4; clear hw4
  have HG : Hid ((w3.alloc (Obj.cells #[Value.string (str (Sha.parD s.data.toList)), Value.int IntKind.i64 (Sha.parE s.data.toList)] 40)).heap[w3.heap.size]? = some (.cells #[Value.string (str (Sha.parD s.data.toList)), Value.int IntKind.i64 (Sha.parE s.data.toList)] 40 (0, 0))) := heap_alloc_new _ _
  have HGL : Hid (w3.heap.size < (w3.alloc (Obj.cells #[Value.string (str (Sha.parD s.data.toList)), Value.int IntKind.i64 (Sha.parE s.data.toList)] 40)).heap.size) := by unfold Hid; simp
  clear h1 h2 h3
  generalize w3.alloc (Obj.cells #[Value.string (str (Sha.parD s.data.toList)), Value.int IntKind.i64 (Sha.parE s.data.toList)] 40) = w4 at HW HG HGL ⊢
  generalize w3.heap.size = g at HG HGL ⊢
  generalize str (Sha.parD s.data.toList) = D at HG ⊢
  generalize Sha.parE s.data.toList = E at HG ⊢
  have hb := Below.refl w4.heap.size w4
  have HC : Hid (∀ V, Below w4.heap.size w4 V → V.cell? ⟨g, 0, none⟩ = some (.string D) ∧ V.cell? ⟨g, 1, none⟩ = some (.int .i64 E)) := fun V hV => by
    rw [hV.cell (p := ⟨g, 0, none⟩) HGL.out, hV.cell (p := ⟨g, 1, none⟩) HGL.out, cell_of_row _ _ _ _ _ _ HG.out, cell_of_row _ _ _ _ _ _ HG.out]
    exact ⟨rfl, rfl⟩
  have HVAL := Lib.hid hval; clear hval
  have hval : ((d.size : Int) == 32) = vb := HVAL.out
  go_wp2_with (first
    | (go_at_call 24; (with_reducible refine (Below.call (w0 := w4) ?_ (hex_any _ _)).mono ?_); (focus assumption); rintro e w5 ⟨rfl, hb5⟩)
    | (go_at_call 25; (with_reducible refine (Below.call (w0 := w4) ?_ (refHex_any _ _)).mono ?_); (focus assumption); rintro e w6 ⟨rfl, hb6⟩; obtain ⟨hc0, hc1⟩ := HC.out _ hb6)
    | (go_at_call 26; (with_reducible refine (HVB.out _).mono ?_); rintro e w7 ⟨rfl, rfl⟩))
  go_ret
  exact ⟨rfl, HW.out.trans (hb6.mono HW.out.size)⟩

set_option maxRecDepth 100000 in
theorem lifted (os : Os) (started : os.Started) (H : Type) (enc : TypeId × Value → H) :
    ReturnsInHanded {} Tryd.checked os 8 .any (fun w args => (Rows.digestHexSpec.pre enc Tryd.prog Tryd.f8 [] false w args ∧ laidMetH Tryd.prog laid1 w) ∧ sizedMet enc Tryd.prog Tryd.f8 (OpenSpec.ofChange Rows.digestHexSpec) false w args) (Rows.digestHexSpec.post enc Tryd.prog Tryd.f8 false true false false) := by
  refine returnsInHanded_of_change_and (C := Tryd.checked) (X := fun w _ => laidMetH Tryd.prog laid1 w) (fun _ _ _ hh h => h.of_heap hh) own started (by kernel_rfl) Tryd.func8
    (ChangeSpec.witness_shaped (enc := enc) (C := Tryd.checked) (os := os) (X := fun w _ => laidMetH Tryd.prog laid1 w) false (World.doorLaid Tryd.prog 400 os) #[.string ByteArray.empty, .string ByteArray.empty] 8 rfl (World.shaped_of_RefB (by kernel_rfl) (by kernel_rfl)) (by kernel_rfl) (by kernel_rfl) (by kernel_rfl) (door_met os _)) ?_
  intro W base args ds gs before hval0 hW _ hsz0 hL _
  have hval : ∀ (j : Nat) t v, Tryd.f8.params[j]? = some t → args[j]? = some v → Value.okWide Tryd.prog W .any base t v := hval0
  have hsz : (DataW.weightsEach Tryd.prog (Tryd.f8.params.toList ++ Rows.digestHexSpec.plain.varTypes Tryd.prog) (ds ++ gs)).all (· ≤ reachBytes) = true := hsz0
  have hW' := hW
  obtain ⟨p, q, hA0, hV, rfl, hfz, hnd⟩ := hW
  have hA : DataW.TrodAll enc Tryd.prog W 0 (fun _ => true) true Tryd.f8.params.toList args.toList ds p := hA0
  rw [Tryd.params8] at hA hval hsz
  obtain ⟨v0, v1, d0, d1, p0, p1, rfl, rfl, rfl, h0, h1⟩ := trodAll_two hA
  obtain ⟨rfl, rfl⟩ := trodVars_none hV
  obtain ⟨d, rfl, rfl, rfl, wd⟩ := open_string Tryd.underlying9 (hval 0 9 v0 rfl rfl) h0
  have hd : d.size ≤ 140737488355328 := by have h := sized_string hsz (j := 0) (t := 9) rfl rfl; rw [lenS] at h; exact Nat.le_trans h (by decide)
  obtain ⟨s, rfl, rfl, rfl, ws⟩ := open_string Tryd.underlying9 (hval 1 9 v1 rfl rfl) h1
  have hs : s.size ≤ 140737488355328 := by have h := sized_string hsz (j := 1) (t := 9) rfl rfl; rw [lenS] at h; exact Nat.le_trans h (by decide)
  refine (walk d s W (kt_of_laid hL) hd hs).mono fun e W' ⟨he, hb⟩ => ?_
  subst he
  exact ⟨_, rfl, law_post hW' rfl (by kernel_rfl) rfl (by intro t ht; rw [Tryd.params8] at ht; simp at ht; subst ht; exact ⟨by kernel_rfl, of_decide_eq_true (by kernel_rfl)⟩) hb⟩

theorem holds : Rows.DigestHexSaid :=
  OpenClaim.holds_of_wide 8 Tryd.f8 rfl rfl rfl rfl rfl rfl rfl ⟨rfl, rfl, rfl, rfl, rfl⟩ rfl rfl rfl rfl rfl (by kernel_rfl) Tryd.func8 (by kernel_rfl)
    (of_decide_eq_true (by kernel_rfl)) (by unfold Func.isWrapper; first | (rw [if_pos (by decide +kernel)]; kernel_rfl) | (rw [if_neg (by decide +kernel)]; exact ⟨rfl, rfl⟩))
    (fun os started H enc _ => lifted os started H enc)

theorem card_holds : Rows.DigestHexCardSaid :=
  Claim7.holds_tied_plain_at .later [] [.data] true Rows.digestHexCard.stood.harness false
    holds (fun _ h => by cases h) (by kernel_rfl) (fun _ h => by cases h) digestHex_row_tie rfl ⟨rfl, rfl⟩ (by kernel_rfl) rfl
    (fun f fn hf hfn => by
      obtain rfl : f = 8 := Option.some.inj ((show Tryd.prog.funcNamed Rows.digestHexRow.func = some 8 by kernel_rfl).symm.trans hf) |>.symm
      obtain rfl : fn = Tryd.f8 := (Option.some.inj (Tryd.func8.symm.trans hfn)).symm
      exact ⟨by kernel_rfl, fun j t ht => by
        rw [Tryd.params8] at ht
        have hm : t ∈ [9, 9] := by simpa using Array.mem_of_getElem? ht
        have hall : ([9, 9].all fun u => !Tryd.prog.wantsStandIn u) = true := by kernel_rfl
        exact (show Tryd.prog.wantsStandIn t = false by simpa using List.all_eq_true.1 hall t hm)⟩)
    (by kernel_rfl)
end Go.Proofs.YtcpbadldplpedaaDoor.LHex
