/-
  The reference's Preimage and Join.
-/
import Derived.Test.YtcpbadldplpedaaDoorRefOf
import Derived.Test.YtcpbadldplpedaaDoorJoin
namespace Go.Proofs.YtcpbadldplpedaaDoor
open Go.RowKit
variable {W w w' : World}

set_option maxHeartbeats 1000000 in
set_option maxRecDepth 100000 in
theorem preimage_any (v : Value) (ls : List (List UInt8)) (w : World) (hv : StrsAt w v ls) (hs : (pre ls).length ≤ 1000000) : Calls Tryd.prog 21 #[v] w fun e w' => e = .returned (.string (str (pre ls))) ∧ Below w.heap.size w w' := by
  obtain ⟨po, c, rfl, hn, hc, HI⟩ := hv
  have HS : Hid (∀ i, i < ls.length → (preTo ls i).length + 8 + (ls.getD i []).length ≤ 1000000) := fun i hi => by
    have := preTo_le (ls := ls) (show i + 1 ≤ ls.length from hi)
    have e : (preTo ls (i + 1)).length = (preTo ls i).length + (8 + (ls.getD i []).length) := by rw [preTo, List.length_append, piece_len]
    have : (pre ls).length = (preTo ls ls.length).length := rfl
    omega
  clear hs
  go_enter Tryd.func21, Tryd.ntmps21
  go_wp2
  go_loopw [3, 4] (fun s i wr => ∃ k : Nat, k ≤ ls.length ∧ i = .int .i64 k ∧ s = .string (str (preTo ls k)) ∧ Hid (Below w.heap.size w wr)) (fun _ i _ => ls.length - (intOf i).toNat)
  case atStart => exact ⟨0, Nat.zero_le _, rfl, rfl, Below.refl _ _⟩
  case round =>
    obtain ⟨k, hk, rfl, rfl, HW⟩ := hrel
    by_cases hlt : k < ls.length
    · obtain ⟨b, off, rfl, hb, hcell⟩ := HI.out k hlt
      have hcw : wr.cell? ⟨b, off + k, none⟩ = some (.string (str (ls.getD k []))) := by rw [HW.out.cell (p := ⟨b, off + k, none⟩) hb]; exact hcell
      have HS1 := Lib.hid (HS.out k hlt)
      have HP : Hid (str (preTo ls k) ++ str (putN (ls.getD k []).length 8) ++ str (ls.getD k []) = str (preTo ls (k + 1))) := by unfold Hid; rw [str_append, str_append, List.append_assoc]; rfl
      generalize ls.getD k [] = l at hcell hcw HS1 HP
      have hs1 : (str (preTo ls k)).size ≤ 1000000 := by rw [str_size]; have := HS1.out; omega
      generalize preTo ls k = p at HS1 HP hs1
      have hs2 : (str (putN l.length 8)).size ≤ 8 := by rw [str_size, putN_len]; omega
      have hs3 : (str l).size ≤ 1000000 := by rw [str_size]; have := HS1.out; omega
      have HPUT : Hid (∀ V, Calls Tryd.prog 33 #[.int .u64 ((str l).size : Int), .int .i64 8] V fun e w' => e = .returned (.string (str (putN l.length 8))) ∧ Below V.heap.size V w') := fun V => by
        have := HS1.out
        rw [str_size]; exact big8 _ (by omega) _
      go_upto_region 5 with fail
      have r1 : IntKind.u64.wrap ((str l).size : Int) = ((str l).size : Int) := by rw [IntKind.wrap_u64]; omega
      have hbw : b < wr.heap.size := Nat.lt_of_lt_of_le hb HW.out.size
      first
      | (go_region_with (go_at_call 33; (with_reducible refine (Below.call (w0 := wr) ?_ (HPUT.out _)).mono ?_); (focus (repeat (first | exact Below.refl _ _ | apply Below.drew))); rintro e w1 ⟨rfl, h1⟩; have hc1 := (h1.cell (p := ⟨b, off + k, none⟩) hbw).trans hcw))
      | fail
      all_goals go_wp2_with fail
      all_goals
        go_roundw
        case rel => exact ⟨k + 1, hlt, by go_num, by rw [← HP.out], HW.out.trans (h1.mono HW.out.size)⟩
        case measure => simp [intOf]; omega
    · obtain rfl : k = ls.length := by omega
      go_wp2
      go_ret
      exact ⟨rfl, HW.out⟩

theorem refJoin_any (v : Value) (ls : List (List UInt8)) (w : World) (hv : StrsAt w v ls) (hs : (pre ls).length ≤ 1000000) : Calls Tryd.prog 19 #[v] w fun e w' => e = .returned (.string (str (Sha.sha (pre ls)))) ∧ Below w.heap.size w w' := by
  have HV := Lib.hid hv
  obtain ⟨po, c, rfl, _, _, _⟩ := hv
  have HS := Lib.hid hs; clear hs
  have HZ : Hid ((str (pre ls)).size ≤ 1000000) := by unfold Hid; rw [str_size]; exact HS.out
  go_enter Tryd.func19, Tryd.ntmps19
  go_wp2_with (first
    | (go_at_call 21; (with_reducible refine (preimage_any _ _ _ HV.out HS.out).mono ?_); rintro e w1 ⟨rfl, h1⟩)
    | (go_at_call 16; (with_reducible refine (Below.call (w0 := w) h1 (refOf_any _ _ HZ.out)).mono ?_); rintro e w2 ⟨rfl, h2⟩))
  go_ret
  exact ⟨ret_str (by rw [str_toList]), h2⟩
end Go.Proofs.YtcpbadldplpedaaDoor
