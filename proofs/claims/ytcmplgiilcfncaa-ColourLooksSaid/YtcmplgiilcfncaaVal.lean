/-
  Whether a curve is valid, and its value at an argument: of curve and of the reference.
-/
import Derived.Test.YtcmplgiilcfncaaNum
namespace Go.Proofs.Ytcmplgiilcfncaa
open Go.RowKit
variable {w : World}

def Asc (c : List Int) : Prop := ∀ i, i + 1 < c.length → cg c i ≤ cg c (i + 1)
/-- the loop of IsSorted: from k on nothing falls -/
def AscFrom (c : List Int) (k : Nat) : Prop := ∀ i, k ≤ i → i + 1 < c.length → cg c i ≤ cg c (i + 1)
set_option maxRecDepth 100000 in
set_option maxHeartbeats 2000000 in
theorem sorted_any (c : List Int) (n b off cap : Nat) (s : Bool) (w : World) (hn : c.length = n) (h1 : 1 ≤ n) (hm : n ≤ 1000) (hr : Row w b off c) (hs : s = true ↔ Asc c) :
    Calls Try.prog 64 #[.slice (some ⟨b, off, none⟩) n cap] w fun e w' => e = .returned (.bool s) ∧ Below w.heap.size w w' := by
  have HN := Lib.hid hn; clear hn
  have HR := Lib.hid hr; clear hr
  have HS := Lib.hid hs; clear hs
  go_enter Try.func64, Try.ntmps64
  go_wp2
  go_loopw [3] (fun i wr => ∃ k : Nat, k + 1 ≤ n ∧ i = .int .i64 k ∧ Hid (AscFrom c k) ∧ Hid (Below w.heap.size w wr)) (fun i _ => (intOf i).toNat)
  case atStart => exact ⟨n - 1, by omega, by rw [show ((n - 1 : Nat) : Int) = n - 1 by omega], fun i h2 h3 => absurd h3 (by rw [HN.out]; omega), Below.refl _ _⟩
  case round =>
    obtain ⟨k, hk, rfl, HA, HB⟩ := hrel
    by_cases h0 : 0 < k
    · have hw := HR.out.later HB.out
      have c1 := hw.at' k (by rw [HN.out]; omega)
      have c2 := hw.at' (k - 1) (by rw [HN.out]; omega)
      have HE : Hid (decide (cg c k < cg c (k - 1)) = false → AscFrom c (k - 1)) := fun h i h2 h3 => by
        by_cases he : i = k - 1
        · subst he; have : k - 1 + 1 = k := by omega
          rw [this]; simpa using h
        · exact HA.out i (by omega) h3
      have HF : Hid (decide (cg c k < cg c (k - 1)) = true → s = false) := fun h => by
        cases hs : s with
        | false => rfl
        | true => have := (HS.out.1 hs) (k - 1) (by rw [HN.out]; omega)
                  rw [show k - 1 + 1 = k by omega] at this
                  have := of_decide_eq_true h; omega
      generalize cg c k = x at c1 HE HF
      generalize cg c (k - 1) = y at c2 HE HF
      have hk1 : ((k : Int) - 1).toNat = k - 1 := by omega
      have hge : (1 : Int) ≤ k := by omega
      clear hw
      go_upto_region 4 with fail
      go_quiet ((go_at_call 74; exact Calls.quiet_of_same ((less_any _ _ _).mono fun _ _ ⟨h, h'⟩ => ⟨h, h'.symm⟩)))
      have HB2 : Hid (Below w.heap.size w (wr.drewN nq)) := HB.out.trans ((belowN nq).mono HB.out.size)
      generalize wr.drewN nq = w2 at HB2 ⊢
      cases hd : decide (x < y)
      · go_wp2_with fail
        go_roundw
        case rel => exact ⟨k - 1, by omega, by rw [show ((k - 1 : Nat) : Int) = k - 1 by omega], HE.out hd, HB2⟩
        case measure => simp [intOf]; omega
      · have := HF.out hd
        subst this
        go_wp2_with fail
        go_ret
        exact ⟨rfl, HB2.out⟩
    · obtain rfl : k = 0 := by omega
      have : s = true := HS.out.2 (fun i hi => HA.out i (Nat.zero_le _) hi)
      subst this
      go_wp2
      go_ret
      exact ⟨rfl, HB.out⟩

theorem cv_iff (c : List Int) : Cv c ↔ (vc c.length = true ∧ Asc c ∧ 0 ≤ cg c 0 ∧ cg c (c.length - 1) ≤ 65535) := by
  rw [vc_iff]
  constructor
  · intro h
    have h2 := h.two; have h3 := h.max
    exact ⟨by omega, h.up, (h.rng 0 (by omega)).1, (h.rng (c.length - 1) (by omega)).2⟩
  · intro ⟨h1, h2, h3, h4⟩
    have mono : ∀ i j, i ≤ j → j < c.length → cg c i ≤ cg c j := fun i j hij => by
      induction j with
      | zero => intro _; rw [show i = 0 by omega]; exact Int.le_refl _
      | succ j ih =>
        intro hj
        by_cases he : i = j + 1
        · rw [he]; exact Int.le_refl _
        · exact Int.le_trans (ih (by omega) (by omega)) (h2 j hj)
    refine ⟨by omega, by omega, fun i hi => ⟨?_, ?_⟩, h2⟩
    · exact Int.le_trans h3 (mono 0 i (by omega) hi)
    · exact Int.le_trans (mono i (c.length - 1) (by omega) (by omega)) h4

/-- Valid, of the program -/
theorem valid_any (c : List Int) (v : Value) (r : Bool) (w : World) (hc : Cm w v c) (hr : r = true ↔ Cv c) :
    Calls Try.prog 53 #[v] w fun e w' => e = .returned (.bool r) ∧ Below w.heap.size w w' := by
  rw [cv_iff] at hr
  cases hv : vc c.length
  · obtain ⟨po, cap, rfl, _, _, _⟩ := hc
    have : r = false := by cases r with
      | false => rfl
      | true => have := (hr.1 rfl).1; rw [hv] at this; cases this
    subst this
    have HV := Lib.hid hv; clear hv hr
    go_enter Try.func53, Try.ntmps53
    go_wp2_with (go_at_call 40; (with_reducible refine (count_any _ _).mono ?_); rintro e w' ⟨rfl, rfl⟩; rw [HV.out])
    go_ret
    exact ⟨rfl, Below.refl _ _⟩
  · have hl := (vc_iff _).1 hv
    obtain ⟨b, off, cap, rfl, _, _, hrow⟩ := hc.row (by omega)
    obtain ⟨n, hn⟩ : ∃ n, n = c.length := ⟨_, rfl⟩
    rw [← hn] at hv hl hr ⊢
    have HV := Lib.hid hv; clear hv
    have h2 : 2 ≤ n := by omega
    have h3 : n ≤ 257 := by omega
    clear hl
    have hS : ∀ s : Bool, (s = true ↔ Asc c) → ∀ w2, Below w.heap.size w w2 → Calls Try.prog 64 #[.slice (some ⟨b, off, none⟩) n cap] w2 fun e w' => e = .returned (.bool s) ∧ (w'.cell? ⟨b, off, none⟩ = some (.int .i64 (cg c 0)) ∧ w'.cell? ⟨b, off + (n - 1), none⟩ = some (.int .i64 (cg c (n - 1)))) ∧ Below w.heap.size w w' := fun s hs w2 hb =>
      (sorted_any c n b off cap s w2 hn.symm (by omega) (by omega) (hrow.later hb) hs).mono fun e w' ⟨h, h'⟩ => by
        have hb' := hb.trans (h'.mono hb.size)
        have hr' := hrow.later hb'
        exact ⟨h, ⟨hr'.at' 0 (by omega), hr'.at' (n - 1) (by omega)⟩, hb'⟩
    generalize cg c 0 = x at hr hS
    generalize cg c (n - 1) = y at hr hS
    have hvt : vc (n : Int) = true := HV.out
    rw [hvt] at hr
    clear hvt hn hc hrow
    have hi : ((n : Int) - 1).toNat = n - 1 := by omega
    have hi0 : (0 : Int) ≤ (n : Int) - 1 := by omega
    have hlt : (n : Int) - 1 < n := by omega
    by_cases ha : Asc c
    · have HS := Lib.hid (hS true (by simp [ha])); clear hS
      by_cases hx : 0 ≤ x
      all_goals by_cases hy : y ≤ 65535
      all_goals
        have HR : Hid (r = (decide (0 ≤ x) && decide (y ≤ 65535))) := by
          unfold Hid; cases r <;> simp_all <;> omega
        clear hr ha
        go_enter Try.func53, Try.ntmps53
        go_wp2_with (first
          | (go_at_call 40; (with_reducible refine (count_any _ _).mono ?_); rintro e w' ⟨rfl, rfl⟩; rw [HV.out])
          | (go_at_call 64; (with_reducible refine (HS.out _ (Below.refl _ _)).mono ?_); rintro e w' ⟨rfl, ⟨c1, c2⟩, hb⟩))
        go_ret
        exact ⟨ret_bool (by rw [HR.out]; simp [*]), hb⟩
    · have HS := Lib.hid (hS false (by simp [ha])); clear hS
      have : r = false := by cases r with
        | false => rfl
        | true => exact absurd (hr.1 rfl).2.1 ha
      subst this
      clear hr ha
      go_enter Try.func53, Try.ntmps53
      go_wp2_with (first
        | (go_at_call 40; (with_reducible refine (count_any _ _).mono ?_); rintro e w' ⟨rfl, rfl⟩; rw [HV.out])
        | (go_at_call 64; (with_reducible refine (HS.out _ (Below.refl _ _)).mono ?_); rintro e w' ⟨rfl, ⟨c1, c2⟩, hb⟩))
      go_ret
      exact ⟨rfl, hb⟩
end Go.Proofs.Ytcmplgiilcfncaa
