/-
  The reference's Valid and At.
-/
import Derived.Test.YtbodmeiecdomfaaGreatRefVal
namespace Go.Proofs.YtbodmeiecdomfaaGreat
open Go.RowKit
variable {w : World}

def OkTo (c : List Int) (k : Nat) : Prop := ∀ j, j < k → (0 ≤ cg c j ∧ cg c j ≤ 65535) ∧ (0 < j → cg c (j - 1) ≤ cg c j)
theorem OkTo.cv {c : List Int} (h : OkTo c c.length) (hl : vc c.length = true) : Cv c := by
  have := (vc_iff _).1 hl
  exact ⟨by omega, by omega, fun i hi => (h i hi).1, fun i hi => (h (i + 1) hi).2 (by omega)⟩
theorem Cv.ok {c : List Int} (h : Cv c) : OkTo c c.length := fun j hj => ⟨h.rng j hj, fun h0 => by
  have := h.up (j - 1) (by omega); rwa [show j - 1 + 1 = j by omega] at this⟩
set_option maxRecDepth 100000 in
set_option maxHeartbeats 4000000 in
theorem refValid_any (c : List Int) (v : Value) (r : Bool) (w : World) (hc : Cm w v c) (hr : r = true ↔ Cv c) :
    Calls Tryz.prog 18 #[v] w fun e w' => e = .returned (.bool r) ∧ Below w.heap.size w w' := by
  cases hv : vc c.length
  · obtain ⟨po, cap, rfl, _, _, _⟩ := hc
    have : r = false := by cases r with
      | false => rfl
      | true => have := ((cv_iff c).1 (hr.1 rfl)).1; rw [hv] at this; cases this
    subst this
    have HV := Lib.hid hv; clear hv hr
    go_enter Tryz.func18, Tryz.ntmps18
    go_wp2_with (go_at_call 32; (with_reducible refine (points_any _ _).mono ?_); rintro e w' ⟨rfl, rfl⟩; rw [HV.out])
    go_ret
    exact ⟨rfl, Below.refl _ _⟩
  · have hl := (vc_iff _).1 hv
    obtain ⟨b, off, cap, rfl, _, _, hrow⟩ := hc.row (by omega)
    have HF : Hid (OkTo c c.length → r = true) := fun h => hr.2 (h.cv hv)
    have HG : Hid (r = true → OkTo c c.length) := fun h => (hr.1 h).ok
    have HR := Lib.hid hrow
    clear hr hc hrow
    obtain ⟨n, hn⟩ : ∃ n, n = c.length := ⟨_, rfl⟩
    have HN := Lib.hid hn
    rw [← hn] at hl HF HG hv ⊢
    have HV := Lib.hid hv; clear hv hn
    have h2 : 2 ≤ n := by omega
    have h3 : n ≤ 257 := by omega
    clear hl
    go_enter Tryz.func18, Tryz.ntmps18
    go_wp2_with (go_at_call 32; (with_reducible refine (points_any _ _).mono ?_); rintro e w' ⟨rfl, rfl⟩; rw [HV.out])
    go_loopw [4] (fun i wr => ∃ k : Nat, k ≤ n ∧ i = .int .i64 k ∧ Hid (OkTo c k) ∧ Hid (Below w.heap.size w wr)) (fun i _ => n - (intOf i).toNat)
    case atStart => exact ⟨0, by omega, rfl, fun j hj => absurd hj (Nat.not_lt_zero _), Below.refl _ _⟩
    case round =>
      obtain ⟨k, hk, rfl, HA, HB⟩ := hrel
      by_cases h0 : k < n
      · have hw := HR.out.later HB.out
        have c1 := hw.at' k (by rw [← HN.out]; omega)
        have c2 := hw.at' (k - 1) (by rw [← HN.out]; omega)
        have HE : Hid ((0 ≤ cg c k ∧ cg c k ≤ 65535) ∧ (0 < k → cg c (k - 1) ≤ cg c k) → OkTo c (k + 1)) := fun h j hj => by
          by_cases he : j = k
          · subst he; exact h
          · exact HA.out j (by omega)
        have HX : Hid (r = true → (0 ≤ cg c k ∧ cg c k ≤ 65535) ∧ (0 < k → cg c (k - 1) ≤ cg c k)) := fun h => HG.out h k h0
        generalize cg c k = x at c1 HE HX
        generalize cg c (k - 1) = y at c2 HE HX
        clear hw
        have stop : ∀ P : Prop, (¬ ((0 ≤ x ∧ x ≤ 65535) ∧ (0 < k → y ≤ x))) → r = false := fun _ h => by
          cases r with
          | false => rfl
          | true => exact absurd (HX.out rfl) h
        by_cases g1 : x < 0
        · have := stop True (by omega)
          subst this
          clear stop
          go_upto_region 7 with fail
          go_quiet (fail)
          have HB2 : Hid (Below w.heap.size w (wr.drewN nq)) := HB.out.trans ((belowN nq).mono HB.out.size)
          generalize wr.drewN nq = w2 at HB2 ⊢
          go_wp2_with fail
          go_ret
          exact ⟨rfl, HB2.out⟩
        by_cases g2 : 65535 < x
        · have := stop True (by omega)
          subst this
          clear stop
          go_upto_region 7 with fail
          go_quiet (fail)
          have HB2 : Hid (Below w.heap.size w (wr.drewN nq)) := HB.out.trans ((belowN nq).mono HB.out.size)
          generalize wr.drewN nq = w2 at HB2 ⊢
          go_wp2_with fail
          go_ret
          exact ⟨rfl, HB2.out⟩
        by_cases g3 : k = 0
        · have HE2 := Lib.hid (HE.out ⟨by omega, by omega⟩)
          have g6 : decide (0 < k) = false := by simp; omega
          have g7 : decide ((k : Int) > 0) = false := by simp; omega
          clear stop HE HX c2 g3
          go_upto_region 7 with fail
          go_quiet (fail)
          have HB2 : Hid (Below w.heap.size w (wr.drewN nq)) := HB.out.trans ((belowN nq).mono HB.out.size)
          generalize wr.drewN nq = w2 at HB2 ⊢
          go_wp2_with fail
          go_roundw
          case rel => exact ⟨k + 1, by omega, by go_num, HE2, HB2⟩
          case measure => simp [intOf]; omega
        have g4 : 0 < k := by omega
        have hk1 : ((k : Int) - 1).toNat = k - 1 := by omega
        have hge : (1 : Int) ≤ k := by omega
        by_cases g5 : x < y
        · have := stop True (by omega)
          subst this
          clear stop
          go_upto_region 7 with fail
          go_quiet (fail)
          have HB2 : Hid (Below w.heap.size w (wr.drewN nq)) := HB.out.trans ((belowN nq).mono HB.out.size)
          generalize wr.drewN nq = w2 at HB2 ⊢
          go_wp2_with fail
          go_ret
          exact ⟨rfl, HB2.out⟩
        · have HE2 := Lib.hid (HE.out ⟨by omega, by omega⟩)
          clear stop HE HX
          go_upto_region 7 with fail
          go_quiet (fail)
          have HB2 : Hid (Below w.heap.size w (wr.drewN nq)) := HB.out.trans ((belowN nq).mono HB.out.size)
          generalize wr.drewN nq = w2 at HB2 ⊢
          go_wp2_with fail
          go_roundw
          case rel => exact ⟨k + 1, by omega, by go_num, HE2, HB2⟩
          case measure => simp [intOf]; omega
      · obtain rfl : k = n := by omega
        have : r = true := HF.out HA.out
        subst this
        go_wp2
        go_ret
        exact ⟨rfl, HB.out⟩

end Go.Proofs.YtbodmeiecdomfaaGreat
