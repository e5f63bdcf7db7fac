/-
  Encode (contract).
-/
import Derived.Test.YtbfnahclkajahaaCNew
namespace Go.Proofs.Ytbfnahclkajahaa.C
open Go.RowKit Go.Shelf
set_option maxRecDepth 100000
variable {W w w' : World} {L : List (Nat × Obj)}

theorem byt_lt (b : UInt8) : b.toNat < 256 := b.toNat_lt
theorem sops_take {l : List UInt8} {k : Nat} {x : UInt8} (h : l[k]? = some x) : sops (l.take (k + 1)) = sops (l.take k) ++ bops x.toNat := by rw [take_next h, sops_snoc]
theorem sops_take_len (l : List UInt8) (k : Nat) : (sops (l.take k)).length ≤ 8 * k := by rw [sops_len]; have : (l.take k).length ≤ k := List.length_take_le ..; omega
theorem toL (s : ByteArray) (k : Nat) (h : k < s.size) : s.data.toList[k]? = some s[k] := by
  rw [Array.getElem?_toList, Array.getElem?_eq_getElem (by exact h)]; rfl
set_option maxHeartbeats 2000000 in
theorem encode_any (s : ByteArray) (w : World) (hs : s.size ≤ 20000) : Calls Try.prog 15 #[.string s] w fun e w' => e = .returned (.string (str (enc s.data.toList))) ∧ Below w.heap.size w w' := by
  have h0 := HS.start w
  go_enter Try.func15, Try.ntmps15
  go_wp2_with (go_at_call 19; refine (newW_ws h0).mono ?_; rintro e w1 ⟨b, rfl, h1⟩)
  have H1 := Lib.hid h1
  clear h0 h1
  go_loopw [4, 8] (fun _ i V => ∃ k : Nat, k ≤ s.size ∧ i = .int .i64 (k : Int) ∧ Hid (WS w [] b (fin c0 (sops (s.data.toList.take k))) (wt c0 (sops (s.data.toList.take k))) V)) (fun _ i _ => s.size - (intOf i).toNat)
  case atStart => exact ⟨0, by omega, rfl, H1⟩
  case round =>
    obtain ⟨k, hk, rfl, HT⟩ := hrel
    clear H1
    have hlen : (wt c0 (sops (s.data.toList.take k))).length ≤ 700000 := by have h1 := wt_len c0_ok (sops (s.data.toList.take k)); have h2 := sops_take_len s.data.toList k; omega
    by_cases hlt : k < s.size
    · have HN := Lib.hid (toL s k hlt)
      have HL := Lib.hid hlen
      clear hlen
      go_wp2_with (go_at_call 30; refine (writeByte_any b _ _ _ _ (byt_lt s[k]) (fin_ok c0_ok _) HT.out HL.out).mono ?_; rintro e w2 ⟨rfl, h2⟩; have H2 := Lib.hid h2; clear h2)
      go_roundw
      case rel => exact ⟨k + 1, by omega, by go_num, Lib.hid (by have := H2.out; rwa [← fin_app, ← wt_app, ← sops_take HN.out] at this)⟩
      case measure => simp [intOf]; omega
    · obtain rfl : k = s.size := by omega
      have e1 : s.data.toList.take s.size = s.data.toList := List.take_of_length_le (by rw [Array.length_toList]; exact Nat.le_refl _)
      rw [e1] at HT hlen
      have HL := Lib.hid hlen
      clear hlen e1
      go_wp2_with (go_at_call 23; refine (bytes_ws (fin_ok c0_ok _) HT.out (by have := HL.out; omega)).mono ?_; rintro e w2 ⟨rfl, h2, _⟩)
      go_ret
      exact ⟨rfl, h2.hs.below⟩
end Go.Proofs.Ytbfnahclkajahaa.C
