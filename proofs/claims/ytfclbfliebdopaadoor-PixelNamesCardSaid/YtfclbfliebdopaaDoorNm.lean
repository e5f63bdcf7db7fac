/-
  The names of the blend modes: Name and Mode, of pixel and of the reference (contracts).
-/
import Derived.Test.YtfclbfliebdopaaDoorTabS
import Derived.Test.YtfclbfliebdopaaDoorSane
namespace Go.Proofs.YtfclbfliebdopaaDoor
open Go.RowKit

theorem lenS (s : ByteArray) : s.data.toList.length = s.size := Array.length_toList
def NL : List (List UInt8) := [[110, 111, 114, 109, 97, 108], [109, 117, 108, 116, 105, 112, 108, 121], [115, 99, 114, 101, 101, 110], [111, 118, 101, 114, 108, 97, 121], [100, 97, 114, 107, 101, 110], [108, 105, 103, 104, 116, 101, 110], [100, 111, 100, 103, 101], [98, 117, 114, 110], [104, 97, 114, 100, 108, 105, 103, 104, 116], [115, 111, 102, 116, 108, 105, 103, 104, 116], [100, 105, 102, 102, 101, 114, 101, 110, 99, 101], [101, 120, 99, 108, 117, 115, 105, 111, 110], [97, 100, 100], [115, 117, 98, 116, 114, 97, 99, 116], [97, 118, 101, 114, 97, 103, 101], [110, 101, 103, 97, 116, 105, 111, 110]]
def nb (k : Nat) : ByteArray := ⟨(NL.getD k []).toArray⟩
/-- the table lies in block 0 -/
structure LT (W : World) : Prop where
  lt : 0 < W.heap.size
  cell : ∀ i, i < 16 → W.cell? ⟨0, i, none⟩ = some (.string (nb i))
theorem LT.later {W w : World} (h : LT W) (hb : Below W.heap.size W w) : LT w :=
  ⟨Nat.lt_of_lt_of_le h.lt hb.size, fun i hi => by rw [hb.cell (p := ⟨0, i, none⟩) h.lt]; exact h.cell i hi⟩
def nmi (m : Int) : ByteArray := if 0 ≤ m ∧ m < 16 then nb m.toNat else ⟨#[]⟩
theorem name_any (m : Int) (w : World) (hT : LT w) : Calls Tryd.prog 6 #[.int .i64 m] w fun e w' => e = .returned (.string (nmi m)) ∧ w = w' := by
  by_cases h : 0 ≤ m ∧ m < 16
  · obtain ⟨k, rfl⟩ : ∃ k : Nat, m = k := ⟨m.toNat, by omega⟩
    have hc := hT.cell k (by omega)
    have hn : nmi (k : Int) = nb k := if_pos h
    rw [hn]
    generalize nb k = s at hc ⊢
    go_enter Tryd.func6, Tryd.ntmps6
    go_wp2_with (go_at_call 13; (with_reducible refine (isMode_yes _ _ h).mono ?_); rintro e w1 ⟨rfl, rfl⟩)
    go_ret
    exact ⟨rfl, rfl⟩
  · have hn : nmi m = ⟨#[]⟩ := if_neg h
    rw [hn]
    go_enter Tryd.func6, Tryd.ntmps6
    go_wp2_with (go_at_call 13; (with_reducible refine (isMode_no _ _ h).mono ?_); rintro e w1 ⟨rfl, rfl⟩)
    go_ret
    exact ⟨rfl, rfl⟩
abbrev NA : Array Value := #[.string ⟨#[110, 111, 114, 109, 97, 108]⟩, .string ⟨#[109, 117, 108, 116, 105, 112, 108, 121]⟩, .string ⟨#[115, 99, 114, 101, 101, 110]⟩, .string ⟨#[111, 118, 101, 114, 108, 97, 121]⟩, .string ⟨#[100, 97, 114, 107, 101, 110]⟩, .string ⟨#[108, 105, 103, 104, 116, 101, 110]⟩, .string ⟨#[100, 111, 100, 103, 101]⟩, .string ⟨#[98, 117, 114, 110]⟩, .string ⟨#[104, 97, 114, 100, 108, 105, 103, 104, 116]⟩, .string ⟨#[115, 111, 102, 116, 108, 105, 103, 104, 116]⟩, .string ⟨#[100, 105, 102, 102, 101, 114, 101, 110, 99, 101]⟩, .string ⟨#[101, 120, 99, 108, 117, 115, 105, 111, 110]⟩, .string ⟨#[97, 100, 100]⟩, .string ⟨#[115, 117, 98, 116, 114, 97, 99, 116]⟩, .string ⟨#[97, 118, 101, 114, 97, 103, 101]⟩, .string ⟨#[110, 101, 103, 97, 116, 105, 111, 110]⟩]
theorem na_at (k : Nat) (h : k < 16) : NA[k]? = some (.string (nb k)) := by
  rcases (by omega : k = 0 ∨ k = 1 ∨ k = 2 ∨ k = 3 ∨ k = 4 ∨ k = 5 ∨ k = 6 ∨ k = 7 ∨ k = 8 ∨ k = 9 ∨ k = 10 ∨ k = 11 ∨ k = 12 ∨ k = 13 ∨ k = 14 ∨ k = 15) with rfl | rfl | rfl | rfl | rfl | rfl | rfl | rfl | rfl | rfl | rfl | rfl | rfl | rfl | rfl | rfl <;> rfl
theorem index_na (k : Nat) (h : k < 16) (w : World) : (Instr.index 33 (.agg NA) (.int .i64 (k : Int))).run Tryd.prog w = .ok (.string (nb k)) w := by
  rcases (by omega : k = 0 ∨ k = 1 ∨ k = 2 ∨ k = 3 ∨ k = 4 ∨ k = 5 ∨ k = 6 ∨ k = 7 ∨ k = 8 ∨ k = 9 ∨ k = 10 ∨ k = 11 ∨ k = 12 ∨ k = 13 ∨ k = 14 ∨ k = 15) with rfl | rfl | rfl | rfl | rfl | rfl | rfl | rfl | rfl | rfl | rfl | rfl | rfl | rfl | rfl | rfl <;> rfl
theorem refNames_any (w : World) : Calls Tryd.prog 14 #[] w fun e w' => e = .returned (.agg NA) ∧ Below w.heap.size w w' := by
  go_enter Tryd.func14, Tryd.ntmps14
  go_wp2
  exact bodyPost_ret (v := .agg NA) (by simp [results, Tryd.results14, go_sem]) rfl ⟨rfl, below1⟩
theorem refName_any (m : Int) (w : World) : Calls Tryd.prog 7 #[.int .i64 m] w fun e w' => e = .returned (.string (nmi m)) ∧ Below w.heap.size w w' := by
  by_cases h : 0 ≤ m ∧ m < 16
  · obtain ⟨k, rfl⟩ : ∃ k : Nat, m = k := ⟨m.toNat, by omega⟩
    have hn : nmi (k : Int) = nb k := if_pos h
    have hk : k < 16 := by omega
    have h1 : ¬ (15 : Int) < k := by omega
    have hna := na_at k hk
    rw [hn]
    generalize nb k = s at hna ⊢
    have h0 := St.start w
    go_enter Tryd.func7, Tryd.ntmps7
    go_upto_region 4 with (go_at_call 14; (with_reducible refine (St.call h0 (refNames_any _)).mono ?_); rintro e w1 ⟨rfl, h2⟩)
    have h3 := h2.alloc (.cells NA 33)
    have hc := (h3.cell (b := w1.heap.size) (cs := NA) (t := 33) (by simp) k).trans hna
    generalize w1.heap.size = bn at h3 hc ⊢
    generalize w1.alloc (.cells NA 33) = w2 at h3 hc ⊢
    go_wp2_with fail
    go_ret
    exact ⟨rfl, h3.below⟩
  · have hn : nmi m = ⟨#[]⟩ := if_neg h
    rw [hn]
    rcases (by omega : m < 0 ∨ (¬ m < 0 ∧ 15 < m)) with h1 | ⟨h1, h2⟩
    · go_enter Tryd.func7, Tryd.ntmps7
      go_wp2
      go_ret
      exact ⟨rfl, Below.refl _ _⟩
    · go_enter Tryd.func7, Tryd.ntmps7
      go_wp2
      go_ret
      exact ⟨rfl, Below.refl _ _⟩
/-- where a name stands among those from k on -/
def mdf (s : ByteArray) : Nat → Nat → Int × Bool
  | 0, _ => (0, false)
  | n + 1, k => if nb k = s then ((k : Int), true) else mdf s n (k + 1)
theorem mdf_hit {s : ByteArray} {k : Nat} (hk : k < 16) (h : mdf s (16 - k) k = mdf s 16 0) (he : nb k = s) : mdf s 16 0 = ((k : Int), true) := by
  rw [← h, show 16 - k = (15 - k) + 1 by omega]; exact if_pos he
theorem mdf_miss {s : ByteArray} {k : Nat} (hk : k < 16) (h : mdf s (16 - k) k = mdf s 16 0) (he : ¬ nb k = s) : mdf s (16 - (k + 1)) (k + 1) = mdf s 16 0 := by
  rw [← h, show 16 - k = (15 - k) + 1 by omega, show 16 - (k + 1) = 15 - k by omega]; exact (if_neg he).symm
theorem mdf_own (k : Nat) (hk : k < 16) : mdf (nb k) 16 0 = ((k : Int), true) := by
  rcases (by omega : k = 0 ∨ k = 1 ∨ k = 2 ∨ k = 3 ∨ k = 4 ∨ k = 5 ∨ k = 6 ∨ k = 7 ∨ k = 8 ∨ k = 9 ∨ k = 10 ∨ k = 11 ∨ k = 12 ∨ k = 13 ∨ k = 14 ∨ k = 15) with rfl | rfl | rfl | rfl | rfl | rfl | rfl | rfl | rfl | rfl | rfl | rfl | rfl | rfl | rfl | rfl <;> decide
theorem str_ne {t s : ByteArray} (h : ¬ t = s) : (t.toList == s.toList) = false := by
  rw [ByteArray.toList_eq, ByteArray.toList_eq]
  exact beq_eq_false_iff_ne.2 (fun e => h (ByteArray.ext (Array.toList_inj.1 e)))
set_option maxHeartbeats 4000000 in
theorem mode_any (s : ByteArray) (w : World) (hT : LT w) : Calls Tryd.prog 5 #[.string s] w fun e w' => e = .returned (.tuple #[.int .i64 (mdf s 16 0).1, .bool (mdf s 16 0).2]) ∧ w = w' := by
  have t0 := hT.cell 0 (by decide)
  have t1 := hT.cell 1 (by decide)
  have t2 := hT.cell 2 (by decide)
  have t3 := hT.cell 3 (by decide)
  have t4 := hT.cell 4 (by decide)
  have t5 := hT.cell 5 (by decide)
  have t6 := hT.cell 6 (by decide)
  have t7 := hT.cell 7 (by decide)
  have t8 := hT.cell 8 (by decide)
  have t9 := hT.cell 9 (by decide)
  have t10 := hT.cell 10 (by decide)
  have t11 := hT.cell 11 (by decide)
  have t12 := hT.cell 12 (by decide)
  have t13 := hT.cell 13 (by decide)
  have t14 := hT.cell 14 (by decide)
  have t15 := hT.cell 15 (by decide)
  rw [show nb 0 = ⟨#[110, 111, 114, 109, 97, 108]⟩ from rfl] at t0
  rw [show nb 1 = ⟨#[109, 117, 108, 116, 105, 112, 108, 121]⟩ from rfl] at t1
  rw [show nb 2 = ⟨#[115, 99, 114, 101, 101, 110]⟩ from rfl] at t2
  rw [show nb 3 = ⟨#[111, 118, 101, 114, 108, 97, 121]⟩ from rfl] at t3
  rw [show nb 4 = ⟨#[100, 97, 114, 107, 101, 110]⟩ from rfl] at t4
  rw [show nb 5 = ⟨#[108, 105, 103, 104, 116, 101, 110]⟩ from rfl] at t5
  rw [show nb 6 = ⟨#[100, 111, 100, 103, 101]⟩ from rfl] at t6
  rw [show nb 7 = ⟨#[98, 117, 114, 110]⟩ from rfl] at t7
  rw [show nb 8 = ⟨#[104, 97, 114, 100, 108, 105, 103, 104, 116]⟩ from rfl] at t8
  rw [show nb 9 = ⟨#[115, 111, 102, 116, 108, 105, 103, 104, 116]⟩ from rfl] at t9
  rw [show nb 10 = ⟨#[100, 105, 102, 102, 101, 114, 101, 110, 99, 101]⟩ from rfl] at t10
  rw [show nb 11 = ⟨#[101, 120, 99, 108, 117, 115, 105, 111, 110]⟩ from rfl] at t11
  rw [show nb 12 = ⟨#[97, 100, 100]⟩ from rfl] at t12
  rw [show nb 13 = ⟨#[115, 117, 98, 116, 114, 97, 99, 116]⟩ from rfl] at t13
  rw [show nb 14 = ⟨#[97, 118, 101, 114, 97, 103, 101]⟩ from rfl] at t14
  rw [show nb 15 = ⟨#[110, 101, 103, 97, 116, 105, 111, 110]⟩ from rfl] at t15
  go_enter Tryd.func5, Tryd.ntmps5
  go_wp2_with fail
  clear t0 t1 t2 t3 t4 t5 t6 t7 t8 t9 t10 t11 t12 t13 t14 t15
  go_loopw [7] (fun v wr => ∃ k : Nat, k ≤ 16 ∧ v = .int .i64 k ∧ Hid (mdf s (16 - k) k = mdf s 16 0) ∧ w = wr) (fun v _ => 16 - (intOf v).toNat)
  case atStart => exact ⟨0, by omega, rfl, rfl, rfl⟩
  case round =>
    obtain ⟨k, hk, rfl, HM, rfl⟩ := hrel
    by_cases hlt : (k : Int) < 16
    · have hk16 : k < 16 := by omega
      have hi := fun w => index_na k hk16 w
      have hm : Hid (nb k = s → mdf s 16 0 = ((k : Int), true)) := fun he => mdf_hit hk16 HM.out he
      have hn : Hid (¬ nb k = s → mdf s (16 - (k + 1)) (k + 1) = mdf s 16 0) := fun he => mdf_miss hk16 HM.out he
      generalize nb k = t at hi hm hn
      by_cases he : t = s
      · have hm' := hm.out he
        subst he
        go_wp2_with fail
        go_ret2
        exact ⟨by first | rfl | (rw [hm']; rfl), rfl⟩
      · have hn' := Lib.hid (hn.out he)
        have hbe := str_ne he
        clear hm hn HM
        go_wp2_with fail
        go_roundw
        case rel => exact ⟨k + 1, by omega, by go_num, hn', by trivial⟩
        case measure => simp [intOf]; omega
    · obtain rfl : k = 16 := by omega
      have hm' : mdf s 16 0 = (0, false) := HM.out.symm
      clear HM
      go_wp2_with fail
      go_ret2
      exact ⟨by first | rfl | (rw [hm']; rfl), rfl⟩
set_option maxHeartbeats 4000000 in
theorem refMode_any (s : ByteArray) (w : World) : Calls Tryd.prog 8 #[.string s] w fun e w' => e = .returned (.tuple #[.int .i64 (mdf s 16 0).1, .bool (mdf s 16 0).2]) ∧ Below w.heap.size w w' := by
  have h0 := St.start w
  go_enter Tryd.func8, Tryd.ntmps8
  go_upto_region 2 with (go_at_call 14; (with_reducible refine (St.call h0 (refNames_any _)).mono ?_); rintro e w1 ⟨rfl, h2⟩)
  have h3 := h2.alloc (.cells NA 33)
  have HA : Hid (∀ k : Nat, k < 16 → (w1.alloc (.cells NA 33)).cell? ⟨w1.heap.size, k, none⟩ = some (.string (nb k))) := fun k hk => (h3.cell (b := w1.heap.size) (cs := NA) (t := 33) (by simp) k).trans (na_at k hk)
  have hb := h3.below
  clear h0 h2 h3
  generalize w1.heap.size = bn at HA ⊢
  generalize w1.alloc (.cells NA 33) = w2 at HA hb ⊢
  generalize (Value.agg NA) = arr
  go_wp2_with fail
  go_loopw [5] (fun v wr => ∃ k : Nat, k ≤ 16 ∧ v = .int .i64 k ∧ Hid (mdf s (16 - k) k = mdf s 16 0) ∧ w2 = wr) (fun v _ => 16 - (intOf v).toNat)
  case atStart => exact ⟨0, by omega, rfl, rfl, rfl⟩
  case round =>
    obtain ⟨k, hk, rfl, HM, rfl⟩ := hrel
    by_cases hlt : (k : Int) < 16
    · have hk16 : k < 16 := by omega
      have hi := HA.out k hk16
      have hm : Hid (nb k = s → mdf s 16 0 = ((k : Int), true)) := fun he => mdf_hit hk16 HM.out he
      have hn : Hid (¬ nb k = s → mdf s (16 - (k + 1)) (k + 1) = mdf s 16 0) := fun he => mdf_miss hk16 HM.out he
      generalize nb k = t at hi hm hn
      by_cases he : t = s
      · have hm' := hm.out he
        subst he
        go_wp2_with fail
        go_ret2
        exact ⟨by first | rfl | (rw [hm']; rfl), hb⟩
      · have hn' := Lib.hid (hn.out he)
        have hbe := str_ne he
        clear hm hn HM
        go_wp2_with fail
        go_roundw
        case rel => exact ⟨k + 1, by omega, by go_num, hn', by trivial⟩
        case measure => simp [intOf]; omega
    · obtain rfl : k = 16 := by omega
      have hm' : mdf s 16 0 = (0, false) := HM.out.symm
      clear HM
      go_wp2_with fail
      go_ret2
      exact ⟨by first | rfl | (rw [hm']; rfl), hb⟩
end Go.Proofs.YtfclbfliebdopaaDoor
