/-
  digest.Join; the reference's Preimage and Join; the statements' helpers some and list.
-/
import Derived.Test.YtcpbadldplpedaaDoorOf
import Derived.Deep.DeepCutAuto
namespace Go.Proofs.YtcpbadldplpedaaDoor
open Go.RowKit

/-- v is a slice of these strings -/
def StrsAt (w : World) (v : Value) (ls : List (List UInt8)) : Prop :=
  ∃ po c, v = .slice po ls.length c ∧ ls.length ≤ c ∧ c ≤ 9223372036854775807 ∧ Hid (∀ i, i < ls.length → ∃ b off, po = some ⟨b, off, none⟩ ∧ b < w.heap.size ∧ w.cell? ⟨b, off + i, none⟩ = some (.string (str (ls.getD i []))))
theorem StrsAt.later {w w' : World} {v : Value} {ls : List (List UInt8)} (h : StrsAt w v ls) (hb : Below w.heap.size w w') : StrsAt w' v ls := by
  obtain ⟨po, c, rfl, h1, h2, h3⟩ := h
  refine ⟨po, c, rfl, h1, h2, fun i hi => ?_⟩
  obtain ⟨b, off, h4, h5, h6⟩ := h3.out i hi
  exact ⟨b, off, h4, Nat.lt_of_lt_of_le h5 hb.size, by rw [hb.cell (p := ⟨b, off + i, none⟩) h5]; exact h6⟩
theorem strs_nil (w : World) : StrsAt w (.slice none 0 0) [] := ⟨none, 0, rfl, Nat.le_refl _, by omega, fun i hi => by simp at hi⟩

def piece (l : List UInt8) : List UInt8 := putN l.length 8 ++ l
def preTo (ls : List (List UInt8)) : Nat → List UInt8
  | 0 => []
  | i + 1 => preTo ls i ++ piece (ls.getD i [])
def pre (ls : List (List UInt8)) : List UInt8 := preTo ls ls.length
theorem preTo_le {ls : List (List UInt8)} {i j : Nat} (h : i ≤ j) : (preTo ls i).length ≤ (preTo ls j).length := by
  induction j with
  | zero => rw [Nat.le_zero.1 h]; exact Nat.le_refl _
  | succ j ih =>
    by_cases he : i = j + 1
    · rw [he]; exact Nat.le_refl _
    · have := ih (by omega)
      rw [preTo, List.length_append]; omega
theorem piece_len (l : List UInt8) : (piece l).length = 8 + l.length := by unfold piece; rw [List.length_append, putN_len]

theorem preTo_snoc (ls : List (List UInt8)) (i : Nat) (h : i ≤ ls.length) : preTo ls i = ((ls.take i).map piece).flatten := by
  induction i with
  | zero => simp [preTo]
  | succ i ih =>
    rw [preTo, ih (by omega), List.take_succ_eq_append_getElem (by omega), List.map_append, List.flatten_append]
    simp [List.getElem?_eq_getElem (show i < ls.length by omega)]
theorem pre_flat (ls : List (List UInt8)) : pre ls = (ls.map piece).flatten := by
  unfold pre; rw [preTo_snoc ls ls.length (Nat.le_refl _), List.take_length]
theorem putN_inj (k : Nat) : ∀ u v : Nat, u < 256 ^ k → v < 256 ^ k → putN u k = putN v k → u = v := by
  induction k with
  | zero => intro u v hu hv _; simp at hu hv; omega
  | succ k ih =>
    intro u v hu hv h
    rw [putN, putN] at h
    have hl := List.append_inj h (by rw [putN_len, putN_len])
    rw [Nat.pow_succ] at hu hv
    have h1 := ih (u / 256) (v / 256) (by omega) (by omega) hl.1
    have h2 : UInt8.ofNat (u % 256) = UInt8.ofNat (v % 256) := by simpa using hl.2
    have h3 := congrArg UInt8.toNat h2
    rw [nat_u8 (by omega), nat_u8 (by omega)] at h3
    omega
theorem piece_inj {a b r t : List UInt8} (ha : a.length < 1000000) (hb : b.length < 1000000) (h : piece a ++ r = piece b ++ t) : a = b ∧ r = t := by
  unfold piece at h
  rw [List.append_assoc, List.append_assoc] at h
  have h1 := List.append_inj h (by rw [putN_len, putN_len])
  have h2 := putN_inj 8 _ _ (by omega) (by omega) h1.1
  exact List.append_inj h1.2 h2
theorem flat_inj : ∀ (x y : List (List UInt8)), (∀ l ∈ x, l.length < 1000000) → (∀ l ∈ y, l.length < 1000000) → (x.map piece).flatten = (y.map piece).flatten → x = y
  | [], [], _, _, _ => rfl
  | [], b :: y, _, _, h => by
    have := congrArg List.length h
    simp [piece_len] at this <;> omega
  | a :: x, [], _, _, h => by
    have := congrArg List.length h
    simp [piece_len] at this <;> omega
  | a :: x, b :: y, hx, hy, h => by
    simp only [List.map_cons, List.flatten_cons] at h
    obtain ⟨h1, h2⟩ := piece_inj (hx a (by simp)) (hy b (by simp)) h
    rw [h1, flat_inj x y (fun l hl => hx l (by simp [hl])) (fun l hl => hy l (by simp [hl])) h2]
theorem pre_inj {x y : List (List UInt8)} (hx : ∀ l ∈ x, l.length < 1000000) (hy : ∀ l ∈ y, l.length < 1000000) (h : pre x = pre y) : x = y := by
  rw [pre_flat, pre_flat] at h; exact flat_inj x y hx hy h
theorem eq_of_getD2 {x y : List (List UInt8)} (hl : x.length = y.length) (h : ∀ i, i < x.length → x.getD i [] = y.getD i []) : x = y := by
  apply List.ext_getElem?
  intro i
  by_cases hi : i < x.length
  · have := h i hi
    rw [List.getD_eq_getElem?_getD, List.getD_eq_getElem?_getD, List.getElem?_eq_getElem hi, List.getElem?_eq_getElem (by omega)] at this
    rw [List.getElem?_eq_getElem hi, List.getElem?_eq_getElem (by omega)]
    simpa using this
  · rw [List.getElem?_eq_none (by omega), List.getElem?_eq_none (by omega)]

variable {W w w' : World}

set_option maxHeartbeats 1000000 in
set_option maxRecDepth 100000 in
theorem join_any (v : Value) (ls : List (List UInt8)) (w : World) (hk : KT w) (hv : StrsAt w v ls) (hs : (pre ls).length ≤ 1000000) : Calls Tryd.prog 18 #[v] w fun e w' => e = .returned (.string (str (Sha.sha (pre ls)))) ∧ Below w.heap.size w w' := by
  obtain ⟨po, c, rfl, hn, hc, HI⟩ := hv
  have HS : Hid (∀ i, i < ls.length → (preTo ls i).length + 8 + (ls.getD i []).length ≤ 1000000) := fun i hi => by
    have := preTo_le (ls := ls) (show i + 1 ≤ ls.length from hi)
    have e : (preTo ls (i + 1)).length = (preTo ls i).length + (8 + (ls.getD i []).length) := by rw [preTo, List.length_append, piece_len]
    have : (pre ls).length = (preTo ls ls.length).length := rfl
    omega
  have HSZ := Lib.hid hs; clear hs
  have HK := Lib.hid hk; clear hk
  go_enter Tryd.func18, Tryd.ntmps18
  go_wp2
  have HB0 := Lib.hid (builder0 w)
  have HW0 : Hid (Below w.heap.size w (w.alloc (.cells #[.pointer none, .slice none 0 0] 64))) := (Below.refl _ _).alloc (Nat.le_refl _) _
  go_loopw [8, 5] (fun i _ wr => ∃ k : Nat, k ≤ ls.length ∧ i = .int .i64 k ∧ Hid (Bld w.heap.size w.heap.size (preTo ls k) wr) ∧ Hid (Below w.heap.size w wr)) (fun i _ _ => ls.length - (intOf i).toNat)
  case atStart => exact ⟨0, Nat.zero_le _, rfl, HB0, HW0⟩
  case round =>
    clear HB0 HW0
    obtain ⟨k, hk, rfl, HB, HW⟩ := hrel
    by_cases hlt : k < ls.length
    · obtain ⟨b, off, rfl, hb, hcell⟩ := HI.out k hlt
      have hcw : wr.cell? ⟨b, off + k, none⟩ = some (.string (str (ls.getD k []))) := by rw [HW.out.cell (p := ⟨b, off + k, none⟩) hb]; exact hcell
      have HS1 := Lib.hid (HS.out k hlt)
      have HP : Hid (preTo ls (k + 1) = preTo ls k ++ putN (ls.getD k []).length 8 ++ ls.getD k []) := by unfold Hid; rw [List.append_assoc]; rfl
      generalize ls.getD k [] = l at hcell hcw HS1 HP
      generalize preTo ls k = p at HB HS1 HP
      have hsz : (str l).size = l.length := str_size l
      have HZ := Lib.hid hsz; clear hsz
      have HPUT : Hid (∀ V, Calls Tryd.prog 20 #[.int .i64 ((str l).size : Int), .int .i64 8] V fun e w' => e = .returned (.string (str (putN l.length 8))) ∧ Below V.heap.size V w') := fun V => by
        have := HS1.out
        rw [HZ.out]; exact put8 _ _ (by omega)
      go_wp2_with (first
        | (go_at_call 20; (with_reducible refine (HPUT.out _).mono ?_); rintro e w1 ⟨rfl, h1⟩)
        | (go_at_call 35; (with_reducible refine (bld_write (m := l) h2 (by have := HS1.out; rw [List.length_append, putN_len]; omega)).mono ?_); rintro e w3 ⟨rfl, h3, b3⟩)
        | (go_at_call 35; (with_reducible refine (bld_write (m := putN l.length 8) (HB.out.later h1) (by have := HS1.out; rw [putN_len]; omega)).mono ?_); rintro e w2 ⟨rfl, h2, b2⟩))
      go_roundw
      case rel =>
        refine ⟨k + 1, hlt, by go_num, by rw [HP.out]; exact h3, ?_⟩
        exact ((HW.out.trans (h1.mono HW.out.size)).trans b2).trans b3
      case measure => simp [intOf]; omega
    · obtain rfl : k = ls.length := by omega
      have HD : Hid (preTo ls ls.length = pre ls) := rfl
      rw [HD.out] at HB
      have HZ : Hid ((str (pre ls)).size ≤ 1000000) := by unfold Hid; rw [str_size]; exact HSZ.out
      go_wp2_with (first
        | (go_at_call 36; (with_reducible refine (bld_string HB.out).mono ?_); rintro e w1 ⟨rfl, h1⟩)
        | (go_at_call 15; (with_reducible refine (Below.call (w0 := w) (HW.out.trans h1) (of_any _ _ (HK.out.later (HW.out.trans h1)) HZ.out)).mono ?_); rintro e w2 ⟨rfl, h2⟩))
      go_ret
      exact ⟨ret_str (by rw [str_toList]), h2⟩
end Go.Proofs.YtcpbadldplpedaaDoor
