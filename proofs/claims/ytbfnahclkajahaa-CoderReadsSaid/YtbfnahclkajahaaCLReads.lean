/-
  CoderReads: a reader returns the bits of the reference and uses as many bytes, for every string (at most 100 bytes) and sequence of contexts (at most 400).
-/
import Derived.Test.YtbfnahclkajahaaCLaw
import Derived.Test.YtbfnahclkajahaaCLoop
namespace Go.Proofs.Ytbfnahclkajahaa.C.CLReads
open Go.ChangeShapes Go.WideShapes Go.ChangeAt Go.RowKit Go.Shelf
open Go.ChangeMaps (open_string)
set_option maxRecDepth 100000

/-- the coder behind the first contexts read, and the code's first byte -/
def rs (F : Nat → Nat) (zs : List Int) : Nat → Cd × Nat
  | 0 => (c0, 0)
  | k + 1 => (stp (rs F zs k).1 (ctx (zs.getD k 0)) (rbit (rs F zs k).1 F (rs F zs k).2 (ctx (zs.getD k 0))), (rs F zs k).2 + (out (rs F zs k).1 (ctx (zs.getD k 0)) (rbit (rs F zs k).1 F (rs F zs k).2 (ctx (zs.getD k 0)))).length)
theorem rs_ok (F : Nat → Nat) (zs : List Int) : ∀ k, Ok (rs F zs k).1 ∧ (rs F zs k).2 ≤ 4 * k
  | 0 => ⟨c0_ok, Nat.le_refl _⟩
  | k + 1 => by
    have h := rs_ok F zs k
    have h2 := out_len h.1 (ctx (zs.getD k 0)) (rbit (rs F zs k).1 F (rs F zs k).2 (ctx (zs.getD k 0)))
    exact ⟨stp_ok h.1 _ _, by show (rs F zs k).2 + (out _ _ _).length ≤ _; omega⟩

set_option maxHeartbeats 8000000 in
set_option maxRecDepth 100000 in
theorem walk (s : ByteArray) (po : Option Addr) (n c : Nat) (zs : List Int) (w : World) (hs : s.size ≤ 140737488355328) (_hn : n ≤ 9223372036854775807) (hI : ∀ i, i < n → IntAt w po i (zs.getD i 0)) : Calls Try.prog 7 #[.string s, .slice po n c] w fun e w' => e = .returned (.bool true) ∧ Below w.heap.size w w' := by
  have h0 := HS.start w
  have HI := Lib.hid hI
  have HSO : Hid (∀ V, Calls Try.prog 14 #[.string s, .int .i64 100] V fun e w' => e = .returned (.string (hd s 100)) ∧ V = w') := fun V => some_any s 100 V hs (by omega)
  clear hI
  generalize hd s 100 = t at *
  go_enter Try.func7, Try.ntmps7
  go_wp2_with (first
    | (go_at_call 13; (with_reducible refine (h0.call (sanity_any _)).mono ?_); rintro e w1 ⟨rfl, h1⟩)
    | (go_at_call 14; (with_reducible refine (HSO.out _).mono ?_); rintro e w2 ⟨rfl, rfl⟩)
    | (go_at_call 25; (with_reducible refine (newR_any t _ h1).mono ?_); rintro e w3 ⟨r, rfl, h3⟩)
    | (go_at_call 26; (with_reducible refine (rnewR_any t _ h3).mono ?_); rintro e w4 ⟨v, rfl, h4⟩; have h5 := h4.swap)
    | (go_at_call 27; (with_reducible refine (used_any r 0 _ _ _ _ t _ h5 (by omega)).mono ?_); rintro e w6 ⟨rfl, rfl⟩))
  have H3 : Hid (HS w [(r, rob (rs (sx t.data.toList) zs 0).1 t (rs (sx t.data.toList) zs 0).2), (v, rrob (rs (sx t.data.toList) zs 0).1 t (rs (sx t.data.toList) zs 0).2)] w4) := h5
  clear h0 h1 h3 h4 h5
  go_loopw [8, 9, 10] (fun i _ _ V => ∃ k : Nat, k ≤ 400 ∧ i = .int .i64 (k : Int) ∧ Hid (HS w [(r, rob (rs (sx t.data.toList) zs k).1 t (rs (sx t.data.toList) zs k).2), (v, rrob (rs (sx t.data.toList) zs k).1 t (rs (sx t.data.toList) zs k).2)] V)) (fun i _ _ _ => 400 - (intOf i).toNat)
  case atStart => exact ⟨0, by omega, rfl, H3⟩
  case round =>
    obtain ⟨k, hk, rfl, HT⟩ := hrel
    clear H3
    by_cases h1 : k < n
    · by_cases h2 : k < 400
      · obtain ⟨bl, off, rfl, hbi⟩ := (HI.out k h1).at
        have HBI := Lib.hid hbi
        clear hbi
        have hok := rs_ok (sx t.data.toList) zs k
        have hok2 := rs_ok (sx t.data.toList) zs (k + 1)
        have HB1 : Hid (∀ V, HS w [(r, rob (rs (sx t.data.toList) zs k).1 t (rs (sx t.data.toList) zs k).2), (v, rrob (rs (sx t.data.toList) zs k).1 t (rs (sx t.data.toList) zs k).2)] V → Calls Try.prog 28 #[.pointer (some ⟨r, 0, none⟩), .int .i64 (zs.getD k 0)] V fun e w' => e = .returned (.int .i64 (rbit (rs (sx t.data.toList) zs k).1 (sx t.data.toList) (rs (sx t.data.toList) zs k).2 (ctx (zs.getD k 0)) : Nat)) ∧ HS w [(r, rob (rs (sx t.data.toList) zs (k + 1)).1 t (rs (sx t.data.toList) zs (k + 1)).2), (v, rrob (rs (sx t.data.toList) zs k).1 t (rs (sx t.data.toList) zs k).2)] w') := fun V hV => bitR_any r _ _ _ t V hok.1 hV (by omega)
        have HB2 : Hid (∀ V, HS w [(r, rob (rs (sx t.data.toList) zs (k + 1)).1 t (rs (sx t.data.toList) zs (k + 1)).2), (v, rrob (rs (sx t.data.toList) zs k).1 t (rs (sx t.data.toList) zs k).2)] V → Calls Try.prog 29 #[.pointer (some ⟨v, 0, none⟩), .int .i64 (zs.getD k 0)] V fun e w' => e = .returned (.int .i64 (rbit (rs (sx t.data.toList) zs k).1 (sx t.data.toList) (rs (sx t.data.toList) zs k).2 (ctx (zs.getD k 0)) : Nat)) ∧ HS w [(r, rob (rs (sx t.data.toList) zs (k + 1)).1 t (rs (sx t.data.toList) zs (k + 1)).2), (v, rrob (rs (sx t.data.toList) zs (k + 1)).1 t (rs (sx t.data.toList) zs (k + 1)).2)] w') := fun V hV => (rbitR_any v _ _ _ t V hok.1 hV.swap (by omega)).mono fun e w' ⟨h1, h2⟩ => ⟨h1, HS.swap h2⟩
        have HU : Hid (∀ V m, HS w [(r, rob (rs (sx t.data.toList) zs (k + 1)).1 t (rs (sx t.data.toList) zs (k + 1)).2), (v, rrob (rs (sx t.data.toList) zs (k + 1)).1 t (rs (sx t.data.toList) zs (k + 1)).2)] V → V.cell? ⟨v, 259, none⟩ = some (.int .i64 (((rs (sx t.data.toList) zs (k + 1)).2 + 4 : Nat) : Int)) ∧ Calls Try.prog 27 #[.pointer (some ⟨r, 0, none⟩)] (V.drewN m) fun e w' => e = .returned (.int .i64 (((rs (sx t.data.toList) zs (k + 1)).2 + 4 : Nat) : Int)) ∧ V.drewN m = w') := fun V m hV => ⟨hV.swap.hd_r 3, by
          have h := used_any r _ _ _ _ _ t _ (hV.drewN m) (by omega)
          rwa [Nat.add_comm 4] at h⟩
        clear hok hok2
        generalize rbit (rs (sx t.data.toList) zs k).1 (sx t.data.toList) (rs (sx t.data.toList) zs k).2 (ctx (zs.getD k 0)) = y at *
        generalize (rs (sx t.data.toList) zs (k + 1)).2 + 4 = u at HU
        generalize zs.getD k 0 = z at *
        have hcx := HBI.out _ HT.out.below
        go_upto_region 11 with (go_at_call 28; refine (HB1.out _ HT.out).mono ?_; rintro e w5 ⟨rfl, h5⟩; have hcx2 := HBI.out _ h5.below; have H5 := Lib.hid h5; clear h5)
        go_upto_region 12 with (go_at_call 29; refine (HB2.out _ H5.out).mono ?_; rintro e w6 ⟨rfl, h6⟩; have H6 := Lib.hid h6; clear h6)
        clear hcx hcx2
        have hcu := (HU.out _ 0 H6.out).1
        go_quiet (first | (go_at_call 27; exact quiet1 (HU.out _ _ H6.out).2))
        have H7 := Lib.hid (H6.out.drewN nq)
        clear hcu
        generalize w6.drewN nq = w7 at *
        go_wp2_with fail
        go_roundw
        case rel => exact ⟨k + 1, by omega, by go_num, H7⟩
        case measure => simp [intOf]; omega
      · go_wp2_with fail
        go_ret
        exact ⟨rfl, HT.out.below⟩
    · go_wp2_with fail
      go_ret
      exact ⟨rfl, HT.out.below⟩
theorem lifted (os : Os) (started : os.Started) (H : Type) (enc : TypeId × Value → H) :
    ReturnsInHanded {} Try.checked os 7 .any (Rows.coderReadsSpec.pre6 enc Try.prog Try.f7 Rows.coderReadsRow.domain false) (Rows.coderReadsSpec.post enc Try.prog Try.f7 false true false false) := by
  refine returnsInHanded_of_change_sized (C := Try.checked) own started (by kernel_rfl) Try.func7
    (ChangeSpec.witness6 (enc := enc) (C := Try.checked) false ⟨#[], #[.string ByteArray.empty, .slice none 0 0], []⟩ 8 (by kernel_rfl) (by kernel_rfl) (by kernel_rfl) (by kernel_rfl)) ?_
  intro W base args ds gs before hval0 hW _ hsz0 _
  have hval : ∀ (j : Nat) t v, Try.f7.params[j]? = some t → args[j]? = some v → Value.okWide Try.prog W .any base t v := hval0
  have hW' := hW
  obtain ⟨p, q, hA0, hV, rfl, hfz, hnd⟩ := hW
  have hA : DataW.TrodAll enc Try.prog W 0 (fun _ => true) true Try.f7.params.toList args.toList ds p := hA0
  have hsz : (DataW.weightsEach Try.prog (Try.f7.params.toList ++ Rows.coderReadsSpec.plain.varTypes Try.prog) (ds ++ gs)).all (· ≤ reachBytes) = true := hsz0
  rw [Try.params7] at hA hval hsz
  obtain ⟨v0, v1, d0, d1, p0, p1, rfl, rfl, rfl, h0, h1⟩ := trodAll_two hA
  obtain ⟨rfl, rfl⟩ := trodVars_none hV
  obtain ⟨s, rfl, rfl, rfl, ws⟩ := open_string Try.underlying9 (hval 0 9 v0 rfl rfl) h0
  have hs : s.size ≤ 140737488355328 := by have h := sized_string hsz (j := 0) (t := 9) rfl rfl; rw [show s.data.toList.length = s.size from Array.length_toList] at h; exact Nat.le_trans h (by decide)
  obtain ⟨po, n, c, zs, rfl, hn, hI⟩ := opened_ints (hval 1 46 v1 rfl rfl) h1
  refine (walk s po n c zs W hs hn hI).mono fun e W' ⟨he, hb⟩ => ?_
  subst he
  exact ⟨_, rfl, law_post hW' rfl (by kernel_rfl) rfl (by intro t ht; rw [Try.params7] at ht; simp at ht; rcases ht with rfl | rfl <;> exact ⟨by kernel_rfl, of_decide_eq_true (by kernel_rfl)⟩) hb⟩

theorem holds : Rows.CoderReadsSaid :=
  OpenClaim.holds_of_wide 7 Try.f7 rfl rfl rfl rfl rfl rfl rfl ⟨rfl, rfl, rfl, rfl, rfl⟩ rfl rfl rfl rfl rfl (by kernel_rfl) Try.func7 (by kernel_rfl)
    (of_decide_eq_true (by kernel_rfl)) (by unfold Func.isWrapper; first | (rw [if_pos (by decide +kernel)]; kernel_rfl) | (rw [if_neg (by decide +kernel)]; exact ⟨rfl, rfl⟩))
    (fun os started H enc _ => lifted os started H enc)
end Go.Proofs.Ytbfnahclkajahaa.C.CLReads
