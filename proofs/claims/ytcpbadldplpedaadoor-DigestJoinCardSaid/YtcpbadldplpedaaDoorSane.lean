/-
  The statements' common test 'sanity' (the chapter's examples) returns true.
-/
import Derived.Test.YtcpbadldplpedaaDoorJoin
import Derived.Test.YtcpbadldplpedaaDoorHex
namespace Go.Proofs.YtcpbadldplpedaaDoor
open Go.RowKit
variable {W w w' : World}

theorem hexSha0 : Sha.hexL (Sha.sha []) = [101, 51, 98, 48, 99, 52, 52, 50, 57, 56, 102, 99, 49, 99, 49, 52, 57, 97, 102, 98, 102, 52, 99, 56, 57, 57, 54, 102, 98, 57, 50, 52, 50, 55, 97, 101, 52, 49, 101, 52, 54, 52, 57, 98, 57, 51, 52, 99, 97, 52, 57, 53, 57, 57, 49, 98, 55, 56, 53, 50, 98, 56, 53, 53] := by rw [Sha.sha_empty]; decide +kernel
theorem hexShaA : Sha.hexL (Sha.sha [97, 98, 99]) = [98, 97, 55, 56, 49, 54, 98, 102, 56, 102, 48, 49, 99, 102, 101, 97, 52, 49, 52, 49, 52, 48, 100, 101, 53, 100, 97, 101, 50, 50, 50, 51, 98, 48, 48, 51, 54, 49, 97, 51, 57, 54, 49, 55, 55, 97, 57, 99, 98, 52, 49, 48, 102, 102, 54, 49, 102, 50, 48, 48, 49, 53, 97, 100] := by rw [Sha.sha_abc]; decide +kernel
theorem parShaA : Sha.parL [98, 97, 55, 56, 49, 54, 98, 102, 56, 102, 48, 49, 99, 102, 101, 97, 52, 49, 52, 49, 52, 48, 100, 101, 53, 100, 97, 101, 50, 50, 50, 51, 98, 48, 48, 51, 54, 49, 97, 51, 57, 54, 49, 55, 55, 97, 57, 99, 98, 52, 49, 48, 102, 102, 54, 49, 102, 50, 48, 48, 49, 53, 97, 100] = some (Sha.sha [97, 98, 99]) := by rw [Sha.sha_abc]; decide +kernel
theorem parCut (b : ByteArray) (h : b.size = 64) : Sha.parL (b.extract 0 62).data.toList = none := by
  unfold Sha.parL
  rw [if_neg (by rw [lenS, ByteArray.size_extract]; omega)]

theorem of_empty (w : World) (hk : KT w) : Calls Tryd.prog 15 #[.string ⟨#[]⟩] w fun e w' => e = .returned (.string (str (Sha.sha []))) ∧ Below w.heap.size w w' := of_any ⟨#[]⟩ w hk (by decide)
theorem of_abc (w : World) (hk : KT w) : Calls Tryd.prog 15 #[.string ⟨#[97, 98, 99]⟩] w fun e w' => e = .returned (.string (str (Sha.sha [97, 98, 99]))) ∧ Below w.heap.size w w' := of_any ⟨#[97, 98, 99]⟩ w hk (by decide)
theorem hex_empty (w : World) : Calls Tryd.prog 24 #[.string (str (Sha.sha []))] w fun e w' => e = .returned (.string ⟨#[101, 51, 98, 48, 99, 52, 52, 50, 57, 56, 102, 99, 49, 99, 49, 52, 57, 97, 102, 98, 102, 52, 99, 56, 57, 57, 54, 102, 98, 57, 50, 52, 50, 55, 97, 101, 52, 49, 101, 52, 54, 52, 57, 98, 57, 51, 52, 99, 97, 52, 57, 53, 57, 57, 49, 98, 55, 56, 53, 50, 98, 56, 53, 53]⟩) ∧ Below w.heap.size w w' := by
  have h := hex_any (str (Sha.sha [])) w
  rw [str_toList, hexSha0] at h; exact h
theorem hex_abc (w : World) : Calls Tryd.prog 24 #[.string (str (Sha.sha [97, 98, 99]))] w fun e w' => e = .returned (.string ⟨#[98, 97, 55, 56, 49, 54, 98, 102, 56, 102, 48, 49, 99, 102, 101, 97, 52, 49, 52, 49, 52, 48, 100, 101, 53, 100, 97, 101, 50, 50, 50, 51, 98, 48, 48, 51, 54, 49, 97, 51, 57, 54, 49, 55, 55, 97, 57, 99, 98, 52, 49, 48, 102, 102, 54, 49, 102, 50, 48, 48, 49, 53, 97, 100]⟩) ∧ Below w.heap.size w w' := by
  have h := hex_any (str (Sha.sha [97, 98, 99])) w
  rw [str_toList, hexShaA] at h; exact h
theorem parse_abc (w : World) : Calls Tryd.prog 22 #[.string ⟨#[98, 97, 55, 56, 49, 54, 98, 102, 56, 102, 48, 49, 99, 102, 101, 97, 52, 49, 52, 49, 52, 48, 100, 101, 53, 100, 97, 101, 50, 50, 50, 51, 98, 48, 48, 51, 54, 49, 97, 51, 57, 54, 49, 55, 55, 97, 57, 99, 98, 52, 49, 48, 102, 102, 54, 49, 102, 50, 48, 48, 49, 53, 97, 100]⟩] w fun e w' => e = .returned (.tuple #[.string (str (Sha.sha [97, 98, 99])), .int .i64 0]) ∧ Below w.heap.size w w' := by
  have h := parse_any ⟨#[98, 97, 55, 56, 49, 54, 98, 102, 56, 102, 48, 49, 99, 102, 101, 97, 52, 49, 52, 49, 52, 48, 100, 101, 53, 100, 97, 101, 50, 50, 50, 51, 98, 48, 48, 51, 54, 49, 97, 51, 57, 54, 49, 55, 55, 97, 57, 99, 98, 52, 49, 48, 102, 102, 54, 49, 102, 50, 48, 48, 49, 53, 97, 100]⟩ w
  have e : Sha.parL (ByteArray.mk #[98, 97, 55, 56, 49, 54, 98, 102, 56, 102, 48, 49, 99, 102, 101, 97, 52, 49, 52, 49, 52, 48, 100, 101, 53, 100, 97, 101, 50, 50, 50, 51, 98, 48, 48, 51, 54, 49, 97, 51, 57, 54, 49, 55, 55, 97, 57, 99, 98, 52, 49, 48, 102, 102, 54, 49, 102, 50, 48, 48, 49, 53, 97, 100]).data.toList = some (Sha.sha [97, 98, 99]) := parShaA
  unfold Sha.parD Sha.parE at h
  rw [e] at h; exact h
theorem parse_cut (b : ByteArray) (hb : b.size = 64) (w : World) : Calls Tryd.prog 22 #[.string (b.extract 0 62)] w fun e w' => e = .returned (.tuple #[.string ⟨#[]⟩, .int .i64 11]) ∧ Below w.heap.size w w' := by
  have h := parse_any (b.extract 0 62) w
  unfold Sha.parD Sha.parE at h
  rw [parCut b hb] at h; exact h
theorem join_none (w : World) (hk : KT w) : Calls Tryd.prog 18 #[.slice none 0 0] w fun e w' => e = .returned (.string (str (Sha.sha []))) ∧ Below w.heap.size w w' := join_any _ [] w hk (strs_nil w) (by decide)
theorem valid_abc (w : World) : Calls Tryd.prog 26 #[.string (str (Sha.sha [97, 98, 99]))] w fun e w' => e = .returned (.bool true) ∧ w = w' := valid_yes _ w (by rw [str_size]; exact Sha.sha_len _)
theorem valid_none (w : World) : Calls Tryd.prog 26 #[.string ⟨#[]⟩] w fun e w' => e = .returned (.bool false) ∧ w = w' := valid_no _ w (by decide)

theorem KT.call {P : Program} {f : FuncId} {args : Array Value} {v : Value} {w0 : World} (hk : KT w0) (hb : Below w0.heap.size w0 w)
    (h : KT w → Calls P f args w fun e w' => e = .returned v ∧ Below w.heap.size w w') : Calls P f args w fun e w' => e = .returned v ∧ Below w0.heap.size w0 w' :=
  Below.call hb (h (hk.later hb))

set_option maxHeartbeats 1000000 in
set_option maxRecDepth 100000 in
theorem sane_any (w : World) (hk : KT w) : Calls Tryd.prog 13 #[] w fun e w' => e = .returned (.bool true) ∧ Below w.heap.size w w' := by
  go_enter Tryd.func13, Tryd.ntmps13
  go_upto_region 4 with (go_at_call 22; (with_reducible refine (Below.call (w0 := w) (Below.refl _ _) (parse_abc _)).mono ?_); rintro e w1 ⟨rfl, h1⟩)
  have HA : Hid (∀ w, Calls Tryd.prog 24 #[.string (str (Sha.sha []))] w fun e w' => e = .returned (.string ⟨#[101, 51, 98, 48, 99, 52, 52, 50, 57, 56, 102, 99, 49, 99, 49, 52, 57, 97, 102, 98, 102, 52, 99, 56, 57, 57, 54, 102, 98, 57, 50, 52, 50, 55, 97, 101, 52, 49, 101, 52, 54, 52, 57, 98, 57, 51, 52, 99, 97, 52, 57, 53, 57, 57, 49, 98, 55, 56, 53, 50, 98, 56, 53, 53]⟩) ∧ Below w.heap.size w w') := hex_empty
  have HB : Hid (∀ w, Calls Tryd.prog 24 #[.string (str (Sha.sha [97, 98, 99]))] w fun e w' => e = .returned (.string ⟨#[98, 97, 55, 56, 49, 54, 98, 102, 56, 102, 48, 49, 99, 102, 101, 97, 52, 49, 52, 49, 52, 48, 100, 101, 53, 100, 97, 101, 50, 50, 50, 51, 98, 48, 48, 51, 54, 49, 97, 51, 57, 54, 49, 55, 55, 97, 57, 99, 98, 52, 49, 48, 102, 102, 54, 49, 102, 50, 48, 48, 49, 53, 97, 100]⟩) ∧ Below w.heap.size w w') := hex_abc
  generalize (ByteArray.mk #[101, 51, 98, 48, 99, 52, 52, 50, 57, 56, 102, 99, 49, 99, 49, 52, 57, 97, 102, 98, 102, 52, 99, 56, 57, 57, 54, 102, 98, 57, 50, 52, 50, 55, 97, 101, 52, 49, 101, 52, 54, 52, 57, 98, 57, 51, 52, 99, 97, 52, 57, 53, 57, 57, 49, 98, 55, 56, 53, 50, 98, 56, 53, 53]) = va at HA ⊢
  have HZ : Hid (ByteArray.size ⟨#[98, 97, 55, 56, 49, 54, 98, 102, 56, 102, 48, 49, 99, 102, 101, 97, 52, 49, 52, 49, 52, 48, 100, 101, 53, 100, 97, 101, 50, 50, 50, 51, 98, 48, 48, 51, 54, 49, 97, 51, 57, 54, 49, 55, 55, 97, 57, 99, 98, 52, 49, 48, 102, 102, 54, 49, 102, 50, 48, 48, 49, 53, 97, 100]⟩ = 64) := rfl
  generalize (ByteArray.mk #[98, 97, 55, 56, 49, 54, 98, 102, 56, 102, 48, 49, 99, 102, 101, 97, 52, 49, 52, 49, 52, 48, 100, 101, 53, 100, 97, 101, 50, 50, 50, 51, 98, 48, 48, 51, 54, 49, 97, 51, 57, 54, 49, 55, 55, 97, 57, 99, 98, 52, 49, 48, 102, 102, 54, 49, 102, 50, 48, 48, 49, 53, 97, 100]) = vb at HB HZ ⊢
  have z1 : (62 : Int) ≤ vb.size := by have := HZ.out; omega
  have HC := Lib.hid (parse_cut vb HZ.out)
  go_wp2_with (first
    | (go_at_call 22; (with_reducible refine (Below.call (w0 := w) ?_ (HC.out _)).mono ?_); (focus assumption); rintro e w' ⟨rfl, hb⟩)
    | (go_at_call 15; (with_reducible refine (KT.call (w0 := w) hk ?_ (of_empty _)).mono ?_); (focus assumption); rintro e w' ⟨rfl, hb⟩)
    | (go_at_call 15; (with_reducible refine (KT.call (w0 := w) hk ?_ (of_abc _)).mono ?_); (focus assumption); rintro e w' ⟨rfl, hb⟩)
    | (go_at_call 24; (with_reducible refine (Below.call (w0 := w) ?_ (HA.out _)).mono ?_); (focus assumption); rintro e w' ⟨rfl, hb⟩)
    | (go_at_call 24; (with_reducible refine (Below.call (w0 := w) ?_ (HB.out _)).mono ?_); (focus assumption); rintro e w' ⟨rfl, hb⟩)
    | (go_at_call 18; (with_reducible refine (KT.call (w0 := w) hk ?_ (join_none _)).mono ?_); (focus assumption); rintro e w' ⟨rfl, hb⟩)
    | (go_at_call 26; (with_reducible refine (valid_abc _).mono ?_); rintro e w' ⟨rfl, rfl⟩)
    | (go_at_call 26; (with_reducible refine (valid_none _).mono ?_); rintro e w' ⟨rfl, rfl⟩))
  go_ret
  exact ⟨rfl, by assumption⟩
end Go.Proofs.YtcpbadldplpedaaDoor
