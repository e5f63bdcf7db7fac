/-
  Whether a filter is valid, of the program: its parts.
-/
import Derived.Test.YtbodmeiecdomfaaGreatOwn
import Derived.Test.YtbodmeiecdomfaaGreatRefValid
namespace Go.Proofs.YtbodmeiecdomfaaGreat.W
open Go.RowKit
set_option maxRecDepth 100000
variable {W w w' : World} {L : List (Nat × Obj)}

theorem bcall {P : Program} {f : FuncId} {args : Array Value} {w : World} {v : Value} {w0 : World} (hs : Below w0.heap.size w0 w)
    (h : Calls P f args w fun e w' => e = .returned v ∧ Below w.heap.size w w') : Calls P f args w fun e w' => e = .returned v ∧ Below w0.heap.size w0 w' ∧ Below w.heap.size w w' :=
  h.mono fun _ _ ⟨h1, h2⟩ => ⟨h1, hs.trans (h2.mono hs.size), h2⟩
theorem cm_elem {v : Value} {c : List Int} (h : Cm w v c) : ∃ po cap, v = .slice po c.length cap ∧ (c.length ≤ cap ∧ cap ≤ 9223372036854775807) ∧ ∀ V, Below w.heap.size w V → ∀ i, i < c.length → ∃ b off, po = some ⟨b, off, none⟩ ∧ V.cell? ⟨b, off + i, none⟩ = some (.int .i64 (cg c i)) := by
  obtain ⟨po, cap, rfl, h1, h2, h3⟩ := h
  refine ⟨po, cap, rfl, ⟨h1, h2⟩, fun V hV i hi => ?_⟩
  obtain ⟨b, off, rfl, hr⟩ := h3 (by omega)
  exact ⟨b, off, rfl, (hr.later hV).at' i hi⟩
/-- n is from lo to hi -/
def wi (n lo hi : Int) : Bool := decide (lo ≤ n) && decide (n ≤ hi)
theorem within_any (n lo hi : Int) (w : World) : Calls Tryz.prog 19 #[.int .i64 n, .int .i64 lo, .int .i64 hi] w fun e w' => e = .returned (.bool (wi n lo hi)) ∧ w = w' := by
  go_enter Tryz.func19, Tryz.ntmps19
  go_wp2
  all_goals go_ret
  all_goals exact ⟨ret_bool (by first | (simp_all [wi]; done) | (simp_all [wi]; omega)), rfl⟩
/-- a kernel entry out of range -/
def bad (x : Int) : Bool := !wi x (-4096) 4096
theorem bad_any (x : Int) (w : World) : Calls Tryz.prog 35 #[.int .i64 x] w fun e w' => e = .returned (.bool (bad x)) ∧ w = w' := by
  go_enter Tryz.func35, Tryz.ntmps35
  go_wp2_with (go_at_call 19; (with_reducible refine (within_any _ _ _ _).mono ?_); rintro e w' ⟨rfl, rfl⟩)
  go_ret
  exact ⟨ret_bool (by simp [bad]), rfl⟩
theorem size_any (r : Int) (w : World) : Calls Tryz.prog 33 #[.int .i64 r] w fun e w' => e = .returned (.int .i64 (wrap64 (wrap64 (wrap64 (2 * r) + 1) * wrap64 (wrap64 (2 * r) + 1)))) ∧ w = w' := by
  go_enter Tryz.func33, Tryz.ntmps33
  go_wp2
  go_ret
  exact ⟨rfl, rfl⟩
/-- the kernel has an entry out of range -/
theorem index_any (c : List Int) (v : Value) (w : World) (hc : Cm w v c) : Calls Tryz.prog 56 #[v, .func (.func 35) #[] #[]] w fun e w' => (∃ i, e = .returned (.int .i64 i) ∧ decide (0 ≤ i) = c.any bad) ∧ w = w' := by
  obtain ⟨po, cap, rfl, ⟨hlc, hcap⟩, hel⟩ := cm_elem hc
  have HL := Lib.hid hel; clear hel
  have HN : Hid (∀ k, k ≤ c.length → (∀ i, i < k → bad (cg c i) = false) → k = c.length → c.any bad = false) := fun k _ h e => by
    subst e
    simp only [List.any_eq_false]
    intro x hx
    obtain ⟨i, hi, rfl⟩ := List.getElem_of_mem hx
    have := h i hi
    simp [cg, List.getD, hi] at this
    simp [this]
  have HY : Hid (∀ k, k < c.length → bad (cg c k) = true → c.any bad = true) := fun k hk h => by
    simp only [List.any_eq_true]
    exact ⟨c[k], List.getElem_mem _, by simpa [cg, List.getD, hk] using h⟩
  obtain ⟨n, hn⟩ : ∃ n, n = c.length := ⟨_, rfl⟩
  rw [← hn] at HL HN HY hlc ⊢
  have hn2 : (n : Int) ≤ 9223372036854775807 := by omega
  generalize c.any bad = r at HN HY ⊢
  clear hn hc
  go_enter Tryz.func56, Tryz.ntmps56
  go_wp2
  go_loopw [8] (fun i wr => ∃ k : Nat, k ≤ n ∧ i = .int .i64 k ∧ Hid (∀ i, i < k → bad (cg c i) = false) ∧ w = wr) (fun i _ => n - (intOf i).toNat)
  case atStart => exact ⟨0, by omega, rfl, fun i h => absurd h (Nat.not_lt_zero _), rfl⟩
  case round =>
    obtain ⟨k, hk, rfl, HB, rfl⟩ := hrel
    by_cases hlt : k < n
    · obtain ⟨b, off, rfl, hcell⟩ := HL.out _ (Below.refl _ _) k hlt
      have HYk : Hid (bad (cg c k) = true → r = true) := fun h => HY.out k hlt h
      have HBk : Hid (bad (cg c k) = false → ∀ i, i < k + 1 → bad (cg c i) = false) := fun h i hi => by
        by_cases he : i = k
        · subst he; exact h
        · exact HB.out i (by omega)
      generalize cg c k = x at hcell HYk HBk
      cases hb : bad x
      · go_wp2_with (go_at_call 35; (with_reducible refine (bad_any _ _).mono ?_); rintro e w' ⟨rfl, rfl⟩; rw [hb])
        go_roundw
        case rel => exact ⟨k + 1, by omega, by go_num, HBk.out hb, by first | rfl | trivial⟩
        case measure => simp [intOf]; omega
      · go_wp2_with (go_at_call 35; (with_reducible refine (bad_any _ _).mono ?_); rintro e w' ⟨rfl, rfl⟩; rw [hb])
        go_ret
        exact ⟨⟨_, rfl, by rw [HYk.out hb]; simp⟩, rfl⟩
    · obtain rfl : k = n := by omega
      have hr := HN.out k (Nat.le_refl _) HB.out rfl
      go_wp2
      go_ret
      exact ⟨⟨_, rfl, by rw [hr]; decide⟩, rfl⟩
theorem contains_any (c : List Int) (v : Value) (w : World) (hc : Cm w v c) : Calls Tryz.prog 34 #[v, .func (.func 35) #[] #[]] w fun e w' => e = .returned (.bool (c.any bad)) ∧ w = w' := by
  go_enter Tryz.func34, Tryz.ntmps34
  go_wp2_with (go_at_call 56; (with_reducible refine (index_any c _ _ hc).mono ?_); rintro e w' ⟨⟨i, rfl, hi⟩, rfl⟩)
  go_ret
  exact ⟨ret_bool (by rw [← hi]), rfl⟩
/-- the size of a window -/
def wsz (r : Int) : Int := (2 * r + 1) * (2 * r + 1)
def ik (c : List Int) (r : Int) : Bool := decide ((c.length : Int) = wsz r) && !c.any bad
theorem kernel_any (c : List Int) (r : Int) (v : Value) (w : World) (hc : Cm w v c) (h0 : 0 ≤ r) (h3 : r ≤ 3) : Calls Tryz.prog 20 #[v, .int .i64 r] w fun e w' => e = .returned (.bool (ik c r)) ∧ w = w' := by
  have hs : wrap64 (wrap64 (wrap64 (2 * r) + 1) * wrap64 (wrap64 (2 * r) + 1)) = wsz r := by
    obtain rfl | rfl | rfl | rfl : r = 0 ∨ r = 1 ∨ r = 2 ∨ r = 3 := by omega
    all_goals (first | decide | kernel_rfl)
  have HC := Lib.hid hc
  obtain ⟨po, cap, rfl, hlc, hcap, _⟩ := hc
  have HI : Hid (ik c r = (decide ((c.length : Int) = wsz r) && !c.any bad)) := rfl
  have HS := Lib.hid hs; clear hs
  generalize ik c r = q at HI ⊢
  by_cases hl : (c.length : Int) = wsz r
  all_goals
    go_enter Tryz.func20, Tryz.ntmps20
    go_wp2_with (first
      | (go_at_call 33; (with_reducible refine (size_any _ _).mono ?_); rintro e w' ⟨rfl, rfl⟩; rw [HS.out])
      | (go_at_call 34; (with_reducible refine (contains_any c _ _ HC.out).mono ?_); rintro e w' ⟨rfl, rfl⟩))
    go_ret
    exact ⟨ret_bool (by rw [HI.out]; simp_all), rfl⟩
end Go.Proofs.YtbodmeiecdomfaaGreat.W
