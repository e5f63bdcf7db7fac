/-
  slices.IndexFunc and slices.ContainsFunc.
-/
import Derived.Test.YtcmplgiilcfncaaKRow
namespace Go.Proofs.Ytcmplgiilcfncaa.K
open Go.RowKit
variable {W w w' : World} {L : List (Nat × Obj)}

/-- the first of 0 .. n - 1 for which p, counted from k on, or -1 -/
def fst (p : Nat → Bool) : Nat → Nat → Int
  | 0, _ => -1
  | n + 1, k => if p k then k else fst p n (k + 1)
theorem fst_ge (p : Nat → Bool) : ∀ n k, (0 ≤ fst p n k ↔ ∃ i, k ≤ i ∧ i < k + n ∧ p i = true)
  | 0, k => ⟨fun h => absurd h (by unfold fst; omega), fun ⟨i, h1, h2, _⟩ => by omega⟩
  | n + 1, k => by
    unfold fst
    by_cases hp : p k = true
    · rw [if_pos hp]
      exact ⟨fun _ => ⟨k, by omega, by omega, hp⟩, fun _ => by omega⟩
    · rw [if_neg hp, fst_ge p n (k + 1)]
      constructor
      · rintro ⟨i, h1, h2, h3⟩; exact ⟨i, by omega, by omega, h3⟩
      · rintro ⟨i, h1, h2, h3⟩
        refine ⟨i, ?_, by omega, h3⟩
        by_cases he : i = k
        · subst he; exact absurd h3 hp
        · omega
set_option maxRecDepth 100000 in
set_option maxHeartbeats 4000000 in
theorem indexC_any (f : Nat) (cb : Array Value) (cs : Nat → C3) (p : Nat → Bool) (b off n cap : Nat) (w : World) (ef : ∀ args w, (callFunc f args).run Try.prog w = .ok (.enter f args) w) (hn : n ≤ 4611686018427387904)
    (hc : ∀ V, Below w.heap.size w V → ∀ i, i < n → CB3 V b (off + i * 3) (cs i))
    (hf : ∀ V, Below w.heap.size w V → ∀ i, i < n → Calls Try.prog f (#[(cs i).v] ++ cb) V fun e w' => e = .returned (.bool (p i)) ∧ Below V.heap.size V w') :
    Calls Try.prog 46 #[.slice (some ⟨b, off, none⟩) n cap, .func (.func f) #[] cb] w fun e w' => e = .returned (.int .i64 (fst p n 0)) ∧ Below w.heap.size w w' := by
  have HC := Lib.hid hc
  have HF := Lib.hid hf
  clear hc hf
  go_enter Try.func46, Try.ntmps46
  go_upto_region 2 with fail
  go_loopw [8] (fun i wr => ∃ k : Nat, k ≤ n ∧ i = .int .i64 k ∧ Hid (fst p (n - k) k = fst p n 0) ∧ Hid (Below w.heap.size w wr)) (fun i _ => n - (intOf i).toNat)
  case atStart => exact ⟨0, by omega, rfl, rfl, Below.refl _ _⟩
  case round =>
    obtain ⟨i, hi, rfl, HP, HB⟩ := hrel
    by_cases hlt : i < n
    · have hcell := HC.out _ HB.out i hlt
      have HCall := Lib.hid (HF.out _ HB.out i hlt)
      have hs : Hid (fst p (n - i) i = if p i then (i : Int) else fst p (n - (i + 1)) (i + 1)) := by
        rw [show n - i = (n - (i + 1)) + 1 by omega]; rfl
      have q1 : (0 : Int) ≤ (i : Int) := by omega
      have q2 : (i : Int) < n := by omega
      clear HC HF
      generalize p i = r at HCall hs
      obtain ⟨l0, l1, l2⟩ := hcell
      generalize cs i = x at l0 l1 l2 HCall
      go_upto_region 4 with fail
      go_wp2_with fail
      refine HCall.out.mono ?_
      rintro e w2 ⟨rfl, hb⟩
      have HB2 : Hid (Below w.heap.size w w2) := HB.out.trans (hb.mono HB.out.size)
      clear hb HCall ef
      cases r
      · go_wp2_with fail
        go_roundw
        case rel => exact ⟨i + 1, by omega, by go_num, by rw [← HP.out, hs.out]; rfl, HB2⟩
        case measure => simp [intOf]; omega
      · go_wp2_with fail
        go_ret
        exact ⟨ret_int (by rw [← HP.out, hs.out]; rfl), HB2.out⟩
    · obtain rfl : i = n := by omega
      have hz : Hid (fst p i 0 = -1) := by rw [← HP.out, Nat.sub_self]; rfl
      clear ef HC HF
      go_wp2_with fail
      go_ret
      exact ⟨ret_int (by rw [hz.out]), HB.out⟩
set_option maxHeartbeats 1000000 in
theorem containsC_any (f : Nat) (cb : Array Value) (cs : Nat → C3) (p : Nat → Bool) (r : Bool) (b off n cap : Nat) (w : World) (ef : ∀ args w, (callFunc f args).run Try.prog w = .ok (.enter f args) w) (hn : n ≤ 4611686018427387904)
    (hc : ∀ V, Below w.heap.size w V → ∀ i, i < n → CB3 V b (off + i * 3) (cs i))
    (hf : ∀ V, Below w.heap.size w V → ∀ i, i < n → Calls Try.prog f (#[(cs i).v] ++ cb) V fun e w' => e = .returned (.bool (p i)) ∧ Below V.heap.size V w') (hr : r = true ↔ ∃ i, i < n ∧ p i = true) :
    Calls Try.prog 30 #[.slice (some ⟨b, off, none⟩) n cap, .func (.func f) #[] cb] w fun e w' => e = .returned (.bool r) ∧ Below w.heap.size w w' := by
  have HI := Lib.hid (indexC_any f cb _ p b off n cap w ef hn hc hf)
  have HR : Hid (decide (0 ≤ fst p n 0) = r) := by
    have := fst_ge p n 0
    unfold Hid
    cases r
    · have h0 : ¬ ∃ i, i < n ∧ p i = true := fun h => by have := hr.2 h; cases this
      rw [decide_eq_false_iff_not, this]
      rintro ⟨i, _, h2, h3⟩
      exact h0 ⟨i, by omega, h3⟩
    · obtain ⟨i, h1, h2⟩ := hr.1 rfl
      rw [decide_eq_true_iff, this]
      exact ⟨i, by omega, by omega, h2⟩
  clear hc hf hr ef
  generalize fst p n 0 = z at HI HR
  go_enter Try.func30, Try.ntmps30
  go_wp2_with (go_at_call 46; (refine HI.out.mono ?_); rintro e w2 ⟨rfl, h2⟩)
  go_ret
  exact ⟨ret_bool (by first | exact HR.out | (rw [← HR.out]; simp)), h2⟩
set_option maxRecDepth 100000 in
set_option maxHeartbeats 4000000 in
theorem indexS_any (f : Nat) (cb : Array Value) (ss : Nat → Sp) (p : Nat → Bool) (b off n cap : Nat) (w : World) (ef : ∀ args w, (callFunc f args).run Try.prog w = .ok (.enter f args) w) (hn : n ≤ 4611686018427387904)
    (hc : ∀ V, Below w.heap.size w V → ∀ i, i < n → (loadVar 46 ⟨b, off + i * 21, none⟩).run Try.prog V = .ok (ss i).v V)
    (hf : ∀ V, Below w.heap.size w V → ∀ i, i < n → Calls Try.prog f (#[(ss i).v] ++ cb) V fun e w' => e = .returned (.bool (p i)) ∧ Below V.heap.size V w') :
    Calls Try.prog 57 #[.slice (some ⟨b, off, none⟩) n cap, .func (.func f) #[] cb] w fun e w' => e = .returned (.int .i64 (fst p n 0)) ∧ Below w.heap.size w w' := by
  have HC := Lib.hid hc
  have HF := Lib.hid hf
  clear hc hf
  go_enter Try.func57, Try.ntmps57
  go_upto_region 2 with fail
  go_loopw [8] (fun i wr => ∃ k : Nat, k ≤ n ∧ i = .int .i64 k ∧ Hid (fst p (n - k) k = fst p n 0) ∧ Hid (Below w.heap.size w wr)) (fun i _ => n - (intOf i).toNat)
  case atStart => exact ⟨0, by omega, rfl, rfl, Below.refl _ _⟩
  case round =>
    obtain ⟨i, hi, rfl, HP, HB⟩ := hrel
    by_cases hlt : i < n
    · have hcell := HC.out _ HB.out i hlt
      have HCall := Lib.hid (HF.out _ HB.out i hlt)
      have hs : Hid (fst p (n - i) i = if p i then (i : Int) else fst p (n - (i + 1)) (i + 1)) := by
        rw [show n - i = (n - (i + 1)) + 1 by omega]; rfl
      have q1 : (0 : Int) ≤ (i : Int) := by omega
      have q2 : (i : Int) < n := by omega
      clear HC HF
      generalize p i = r at HCall hs
      have HL := Lib.hid hcell; clear hcell
      generalize (ss i).v = x at HL HCall
      go_upto_region 4 with fail
      go_wp2_with (refine wpList_load_at rfl 46 _ rfl _ _ rfl _ HL.out ?_)
      refine HCall.out.mono ?_
      rintro e w2 ⟨rfl, hb⟩
      have HB2 : Hid (Below w.heap.size w w2) := HB.out.trans (hb.mono HB.out.size)
      clear hb HCall ef HL
      cases r
      · go_wp2_with fail
        go_roundw
        case rel => exact ⟨i + 1, by omega, by go_num, by rw [← HP.out, hs.out]; rfl, HB2⟩
        case measure => simp [intOf]; omega
      · go_wp2_with fail
        go_ret
        exact ⟨ret_int (by rw [← HP.out, hs.out]; rfl), HB2.out⟩
    · obtain rfl : i = n := by omega
      have hz : Hid (fst p i 0 = -1) := by rw [← HP.out, Nat.sub_self]; rfl
      clear ef HC HF
      go_wp2_with fail
      go_ret
      exact ⟨ret_int (by rw [hz.out]), HB.out⟩
set_option maxHeartbeats 1000000 in
theorem containsS_any (f : Nat) (cb : Array Value) (ss : Nat → Sp) (p : Nat → Bool) (r : Bool) (b off n cap : Nat) (w : World) (ef : ∀ args w, (callFunc f args).run Try.prog w = .ok (.enter f args) w) (hn : n ≤ 4611686018427387904)
    (hc : ∀ V, Below w.heap.size w V → ∀ i, i < n → (loadVar 46 ⟨b, off + i * 21, none⟩).run Try.prog V = .ok (ss i).v V)
    (hf : ∀ V, Below w.heap.size w V → ∀ i, i < n → Calls Try.prog f (#[(ss i).v] ++ cb) V fun e w' => e = .returned (.bool (p i)) ∧ Below V.heap.size V w') (hr : r = true ↔ ∃ i, i < n ∧ p i = true) :
    Calls Try.prog 38 #[.slice (some ⟨b, off, none⟩) n cap, .func (.func f) #[] cb] w fun e w' => e = .returned (.bool r) ∧ Below w.heap.size w w' := by
  have HI := Lib.hid (indexS_any f cb _ p b off n cap w ef hn hc hf)
  have HR : Hid (decide (0 ≤ fst p n 0) = r) := by
    have := fst_ge p n 0
    unfold Hid
    cases r
    · have h0 : ¬ ∃ i, i < n ∧ p i = true := fun h => by have := hr.2 h; cases this
      rw [decide_eq_false_iff_not, this]
      rintro ⟨i, _, h2, h3⟩
      exact h0 ⟨i, by omega, h3⟩
    · obtain ⟨i, h1, h2⟩ := hr.1 rfl
      rw [decide_eq_true_iff, this]
      exact ⟨i, by omega, by omega, h2⟩
  clear hc hf hr ef
  generalize fst p n 0 = z at HI HR
  go_enter Try.func38, Try.ntmps38
  go_wp2_with (go_at_call 57; (refine HI.out.mono ?_); rintro e w2 ⟨rfl, h2⟩)
  go_ret
  exact ⟨ret_bool (by first | exact HR.out | (rw [← HR.out]; simp)), h2⟩
set_option maxRecDepth 100000 in
set_option maxHeartbeats 4000000 in
theorem indexV_any (f : Nat) (cb : Array Value) (vs : Nat → Value) (p : Nat → Bool) (b off n cap : Nat) (w : World) (ef : ∀ args w, (callFunc f args).run Try.prog w = .ok (.enter f args) w) (hn : n ≤ 4611686018427387904)
    (hc : ∀ V, Below w.heap.size w V → ∀ i, i < n → V.cell? ⟨b, off + i, none⟩ = some (vs i))
    (hf : ∀ V, Below w.heap.size w V → ∀ i, i < n → Calls Try.prog f (#[vs i] ++ cb) V fun e w' => e = .returned (.bool (p i)) ∧ Below V.heap.size V w') :
    Calls Try.prog 65 #[.slice (some ⟨b, off, none⟩) n cap, .func (.func f) #[] cb] w fun e w' => e = .returned (.int .i64 (fst p n 0)) ∧ Below w.heap.size w w' := by
  have HC := Lib.hid hc
  have HF := Lib.hid hf
  clear hc hf
  go_enter Try.func65, Try.ntmps65
  go_upto_region 2 with fail
  go_loopw [8] (fun i wr => ∃ k : Nat, k ≤ n ∧ i = .int .i64 k ∧ Hid (fst p (n - k) k = fst p n 0) ∧ Hid (Below w.heap.size w wr)) (fun i _ => n - (intOf i).toNat)
  case atStart => exact ⟨0, by omega, rfl, rfl, Below.refl _ _⟩
  case round =>
    obtain ⟨i, hi, rfl, HP, HB⟩ := hrel
    by_cases hlt : i < n
    · have hcell := HC.out _ HB.out i hlt
      have HCall := Lib.hid (HF.out _ HB.out i hlt)
      have hs : Hid (fst p (n - i) i = if p i then (i : Int) else fst p (n - (i + 1)) (i + 1)) := by
        rw [show n - i = (n - (i + 1)) + 1 by omega]; rfl
      have q1 : (0 : Int) ≤ (i : Int) := by omega
      have q2 : (i : Int) < n := by omega
      clear HC HF
      generalize p i = r at HCall hs
      generalize vs i = x at hcell HCall
      go_upto_region 4 with fail
      go_wp2_with fail
      refine HCall.out.mono ?_
      rintro e w2 ⟨rfl, hb⟩
      have HB2 : Hid (Below w.heap.size w w2) := HB.out.trans (hb.mono HB.out.size)
      clear hb HCall ef
      cases r
      · go_wp2_with fail
        go_roundw
        case rel => exact ⟨i + 1, by omega, by go_num, by rw [← HP.out, hs.out]; rfl, HB2⟩
        case measure => simp [intOf]; omega
      · go_wp2_with fail
        go_ret
        exact ⟨ret_int (by rw [← HP.out, hs.out]; rfl), HB2.out⟩
    · obtain rfl : i = n := by omega
      have hz : Hid (fst p i 0 = -1) := by rw [← HP.out, Nat.sub_self]; rfl
      clear ef HC HF
      go_wp2_with fail
      go_ret
      exact ⟨ret_int (by rw [hz.out]), HB.out⟩
set_option maxHeartbeats 1000000 in
theorem containsV_any (f : Nat) (cb : Array Value) (vs : Nat → Value) (p : Nat → Bool) (r : Bool) (b off n cap : Nat) (w : World) (ef : ∀ args w, (callFunc f args).run Try.prog w = .ok (.enter f args) w) (hn : n ≤ 4611686018427387904)
    (hc : ∀ V, Below w.heap.size w V → ∀ i, i < n → V.cell? ⟨b, off + i, none⟩ = some (vs i))
    (hf : ∀ V, Below w.heap.size w V → ∀ i, i < n → Calls Try.prog f (#[vs i] ++ cb) V fun e w' => e = .returned (.bool (p i)) ∧ Below V.heap.size V w') (hr : r = true ↔ ∃ i, i < n ∧ p i = true) :
    Calls Try.prog 54 #[.slice (some ⟨b, off, none⟩) n cap, .func (.func f) #[] cb] w fun e w' => e = .returned (.bool r) ∧ Below w.heap.size w w' := by
  have HI := Lib.hid (indexV_any f cb _ p b off n cap w ef hn hc hf)
  have HR : Hid (decide (0 ≤ fst p n 0) = r) := by
    have := fst_ge p n 0
    unfold Hid
    cases r
    · have h0 : ¬ ∃ i, i < n ∧ p i = true := fun h => by have := hr.2 h; cases this
      rw [decide_eq_false_iff_not, this]
      rintro ⟨i, _, h2, h3⟩
      exact h0 ⟨i, by omega, h3⟩
    · obtain ⟨i, h1, h2⟩ := hr.1 rfl
      rw [decide_eq_true_iff, this]
      exact ⟨i, by omega, by omega, h2⟩
  clear hc hf hr ef
  generalize fst p n 0 = z at HI HR
  go_enter Try.func54, Try.ntmps54
  go_wp2_with (go_at_call 65; (refine HI.out.mono ?_); rintro e w2 ⟨rfl, h2⟩)
  go_ret
  exact ⟨ret_bool (by first | exact HR.out | (rw [← HR.out]; simp)), h2⟩
set_option maxRecDepth 100000 in
set_option maxHeartbeats 4000000 in
theorem indexI_any (f : Nat) (cb : Array Value) (vs : Nat → Value) (p : Nat → Bool) (b off n cap : Nat) (w : World) (ef : ∀ args w, (callFunc f args).run Try.prog w = .ok (.enter f args) w) (hn : n ≤ 4611686018427387904)
    (hc : ∀ V, Below w.heap.size w V → ∀ i, i < n → V.cell? ⟨b, off + i, none⟩ = some (vs i))
    (hf : ∀ V, Below w.heap.size w V → ∀ i, i < n → Calls Try.prog f (#[vs i] ++ cb) V fun e w' => e = .returned (.bool (p i)) ∧ Below V.heap.size V w') :
    Calls Try.prog 75 #[.slice (some ⟨b, off, none⟩) n cap, .func (.func f) #[] cb] w fun e w' => e = .returned (.int .i64 (fst p n 0)) ∧ Below w.heap.size w w' := by
  have HC := Lib.hid hc
  have HF := Lib.hid hf
  clear hc hf
  go_enter Try.func75, Try.ntmps75
  go_upto_region 2 with fail
  go_loopw [8] (fun i wr => ∃ k : Nat, k ≤ n ∧ i = .int .i64 k ∧ Hid (fst p (n - k) k = fst p n 0) ∧ Hid (Below w.heap.size w wr)) (fun i _ => n - (intOf i).toNat)
  case atStart => exact ⟨0, by omega, rfl, rfl, Below.refl _ _⟩
  case round =>
    obtain ⟨i, hi, rfl, HP, HB⟩ := hrel
    by_cases hlt : i < n
    · have hcell := HC.out _ HB.out i hlt
      have HCall := Lib.hid (HF.out _ HB.out i hlt)
      have hs : Hid (fst p (n - i) i = if p i then (i : Int) else fst p (n - (i + 1)) (i + 1)) := by
        rw [show n - i = (n - (i + 1)) + 1 by omega]; rfl
      have q1 : (0 : Int) ≤ (i : Int) := by omega
      have q2 : (i : Int) < n := by omega
      clear HC HF
      generalize p i = r at HCall hs
      generalize vs i = x at hcell HCall
      go_upto_region 4 with fail
      go_wp2_with fail
      refine HCall.out.mono ?_
      rintro e w2 ⟨rfl, hb⟩
      have HB2 : Hid (Below w.heap.size w w2) := HB.out.trans (hb.mono HB.out.size)
      clear hb HCall ef
      cases r
      · go_wp2_with fail
        go_roundw
        case rel => exact ⟨i + 1, by omega, by go_num, by rw [← HP.out, hs.out]; rfl, HB2⟩
        case measure => simp [intOf]; omega
      · go_wp2_with fail
        go_ret
        exact ⟨ret_int (by rw [← HP.out, hs.out]; rfl), HB2.out⟩
    · obtain rfl : i = n := by omega
      have hz : Hid (fst p i 0 = -1) := by rw [← HP.out, Nat.sub_self]; rfl
      clear ef HC HF
      go_wp2_with fail
      go_ret
      exact ⟨ret_int (by rw [hz.out]), HB.out⟩
set_option maxHeartbeats 1000000 in
theorem containsI_any (f : Nat) (cb : Array Value) (vs : Nat → Value) (p : Nat → Bool) (r : Bool) (b off n cap : Nat) (w : World) (ef : ∀ args w, (callFunc f args).run Try.prog w = .ok (.enter f args) w) (hn : n ≤ 4611686018427387904)
    (hc : ∀ V, Below w.heap.size w V → ∀ i, i < n → V.cell? ⟨b, off + i, none⟩ = some (vs i))
    (hf : ∀ V, Below w.heap.size w V → ∀ i, i < n → Calls Try.prog f (#[vs i] ++ cb) V fun e w' => e = .returned (.bool (p i)) ∧ Below V.heap.size V w') (hr : r = true ↔ ∃ i, i < n ∧ p i = true) :
    Calls Try.prog 67 #[.slice (some ⟨b, off, none⟩) n cap, .func (.func f) #[] cb] w fun e w' => e = .returned (.bool r) ∧ Below w.heap.size w w' := by
  have HI := Lib.hid (indexI_any f cb _ p b off n cap w ef hn hc hf)
  have HR : Hid (decide (0 ≤ fst p n 0) = r) := by
    have := fst_ge p n 0
    unfold Hid
    cases r
    · have h0 : ¬ ∃ i, i < n ∧ p i = true := fun h => by have := hr.2 h; cases this
      rw [decide_eq_false_iff_not, this]
      rintro ⟨i, _, h2, h3⟩
      exact h0 ⟨i, by omega, h3⟩
    · obtain ⟨i, h1, h2⟩ := hr.1 rfl
      rw [decide_eq_true_iff, this]
      exact ⟨i, by omega, by omega, h2⟩
  clear hc hf hr ef
  generalize fst p n 0 = z at HI HR
  go_enter Try.func67, Try.ntmps67
  go_wp2_with (go_at_call 75; (refine HI.out.mono ?_); rintro e w2 ⟨rfl, h2⟩)
  go_ret
  exact ⟨ret_bool (by first | exact HR.out | (rw [← HR.out]; simp)), h2⟩
end Go.Proofs.Ytcmplgiilcfncaa.K
