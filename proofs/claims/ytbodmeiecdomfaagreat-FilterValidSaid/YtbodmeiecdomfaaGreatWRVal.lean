/-
  Whether a filter is valid, of the reference.
-/
import Derived.Test.YtbodmeiecdomfaaGreatWValid
namespace Go.Proofs.YtbodmeiecdomfaaGreat.W
open Go.RowKit
set_option maxRecDepth 100000
variable {W w w' : World} {L : List (Nat × Obj)}

def pln (kb vb cb rb : Bool) (r nk d v nc : Int) : Bool := (kb || (decide (nk = 0) && decide (d = 0))) && (vb || decide (v = 0)) && (cb || decide (nc = 0)) && (rb || decide (r = 0))
set_option maxHeartbeats 4000000 in
theorem plain_any (kb vb cb rb : Bool) (k r d v : Int) (pk pc : Option Addr) (nk ck nc cc : Nat) (w : World) : Calls Tryz.prog 17 #[fv k r (.slice pk nk ck) d v (.slice pc nc cc), .bool kb, .bool vb, .bool cb, .bool rb] w fun e w' => e = .returned (.bool (pln kb vb cb rb r nk d v nc)) ∧ Below w.heap.size w w' := by
  have HN : Hid (pln kb vb cb rb r nk d v nc = ((kb || (decide (nk = 0) && decide (d = 0))) && (vb || decide (v = 0)) && (cb || decide (nc = 0)) && (rb || decide (r = 0)))) := by unfold Hid pln; simp only [Int.natCast_eq_zero]
  generalize pln kb vb cb rb r nk d v nc = q at HN ⊢
  go_enter Tryz.func17, Tryz.ntmps17
  go_wp2
  all_goals go_ret
  all_goals exact ⟨ret_bool (by rw [HN.out]; first | (simp_all; done) | (simp_all; exact Bool.eq_iff_iff.2 (by simp))), below1⟩

set_option maxHeartbeats 4000000 in
theorem rvalid2 (r d v : Int) (ks cs : List Int) (pk pc : Option Addr) (nk ck nc cc : Nat) (w : World) (hK : Cm w (.slice pk nk ck) ks) (hC : Cm w (.slice pc nc cc) cs) (hn : ks.length = nk) (hm : cs.length = nc) : Calls Tryz.prog 6 #[fv 2 r (.slice pk nk ck) d v (.slice pc nc cc)] w fun e w' => e = .returned (.bool (vf 2 r ks d v cs)) ∧ Below w.heap.size w w' := by
  have HC : Hid (∀ V, Below w.heap.size w V → Cm V (.slice pc nc cc) cs) := fun V h => hC.later h
  have HV : Hid (vf 2 r ks d v cs = (wi r 0 3 && nof 0 nk d v nc)) := by subst hn hm; rfl
  generalize vf 2 r ks d v cs = q at HV ⊢
  clear hK hC hn hm
  go_enter Tryz.func6, Tryz.ntmps6
  go_wp2_with (first
          | (go_at_call 18; (with_reducible refine (bcall (w0 := w) ?_ (Go.Proofs.YtbodmeiecdomfaaGreat.refValid_any cs _ (cvb cs) _ (HC.out _ below1) (cvb_iff cs))).mono ?_); (focus (repeat' (first | with_reducible assumption | with_reducible exact below1 | with_reducible refine below_set ?_))); rintro e w' ⟨rfl, hb, hb'⟩; obtain ⟨hc, hf⟩ := bcell hb'; have hz0 : w.heap.size < w'.heap.size := (by have := hb'.size; (try simp at this); omega))
          | (go_at_call 17; (with_reducible refine (bcall (w0 := w) ?_ (plain_any _ _ _ _ _ _ _ _ _ _ _ _ _ _ _)).mono ?_); (focus (repeat' (first | with_reducible assumption | with_reducible exact below1 | with_reducible refine below_set ?_))); rintro e w' ⟨rfl, hb2, hb3⟩))
  all_goals go_ret
  all_goals exact ⟨ret_bool (by rw [HV.out]; (first | (simp_all [wi, nof, pln]; done) | (simp_all [wi, nof, pln]; omega) | (simp_all [wi, nof, pln]; (try intros); omega) | (simp_all [wi, nof, pln]; exact Bool.eq_iff_iff.2 (by simp; omega)))), by first | with_reducible assumption | exact below1⟩
set_option maxHeartbeats 4000000 in
theorem rvalid3 (r d v : Int) (ks cs : List Int) (pk pc : Option Addr) (nk ck nc cc : Nat) (w : World) (hK : Cm w (.slice pk nk ck) ks) (hC : Cm w (.slice pc nc cc) cs) (hn : ks.length = nk) (hm : cs.length = nc) : Calls Tryz.prog 6 #[fv 3 r (.slice pk nk ck) d v (.slice pc nc cc)] w fun e w' => e = .returned (.bool (vf 3 r ks d v cs)) ∧ Below w.heap.size w w' := by
  have HC : Hid (∀ V, Below w.heap.size w V → Cm V (.slice pc nc cc) cs) := fun V h => hC.later h
  have HV : Hid (vf 3 r ks d v cs = (wi r 0 3 && nof 0 nk d v nc)) := by subst hn hm; rfl
  generalize vf 3 r ks d v cs = q at HV ⊢
  clear hK hC hn hm
  go_enter Tryz.func6, Tryz.ntmps6
  go_wp2_with (first
          | (go_at_call 18; (with_reducible refine (bcall (w0 := w) ?_ (Go.Proofs.YtbodmeiecdomfaaGreat.refValid_any cs _ (cvb cs) _ (HC.out _ below1) (cvb_iff cs))).mono ?_); (focus (repeat' (first | with_reducible assumption | with_reducible exact below1 | with_reducible refine below_set ?_))); rintro e w' ⟨rfl, hb, hb'⟩; obtain ⟨hc, hf⟩ := bcell hb'; have hz0 : w.heap.size < w'.heap.size := (by have := hb'.size; (try simp at this); omega))
          | (go_at_call 17; (with_reducible refine (bcall (w0 := w) ?_ (plain_any _ _ _ _ _ _ _ _ _ _ _ _ _ _ _)).mono ?_); (focus (repeat' (first | with_reducible assumption | with_reducible exact below1 | with_reducible refine below_set ?_))); rintro e w' ⟨rfl, hb2, hb3⟩))
  all_goals go_ret
  all_goals exact ⟨ret_bool (by rw [HV.out]; (first | (simp_all [wi, nof, pln]; done) | (simp_all [wi, nof, pln]; omega) | (simp_all [wi, nof, pln]; (try intros); omega) | (simp_all [wi, nof, pln]; exact Bool.eq_iff_iff.2 (by simp; omega)))), by first | with_reducible assumption | exact below1⟩
set_option maxHeartbeats 4000000 in
theorem rvalid4 (r d v : Int) (ks cs : List Int) (pk pc : Option Addr) (nk ck nc cc : Nat) (w : World) (hK : Cm w (.slice pk nk ck) ks) (hC : Cm w (.slice pc nc cc) cs) (hn : ks.length = nk) (hm : cs.length = nc) : Calls Tryz.prog 6 #[fv 4 r (.slice pk nk ck) d v (.slice pc nc cc)] w fun e w' => e = .returned (.bool (vf 4 r ks d v cs)) ∧ Below w.heap.size w w' := by
  have HC : Hid (∀ V, Below w.heap.size w V → Cm V (.slice pc nc cc) cs) := fun V h => hC.later h
  have HV : Hid (vf 4 r ks d v cs = (wi r 0 3 && nof 0 nk d v nc)) := by subst hn hm; rfl
  generalize vf 4 r ks d v cs = q at HV ⊢
  clear hK hC hn hm
  go_enter Tryz.func6, Tryz.ntmps6
  go_wp2_with (first
          | (go_at_call 18; (with_reducible refine (bcall (w0 := w) ?_ (Go.Proofs.YtbodmeiecdomfaaGreat.refValid_any cs _ (cvb cs) _ (HC.out _ below1) (cvb_iff cs))).mono ?_); (focus (repeat' (first | with_reducible assumption | with_reducible exact below1 | with_reducible refine below_set ?_))); rintro e w' ⟨rfl, hb, hb'⟩; obtain ⟨hc, hf⟩ := bcell hb'; have hz0 : w.heap.size < w'.heap.size := (by have := hb'.size; (try simp at this); omega))
          | (go_at_call 17; (with_reducible refine (bcall (w0 := w) ?_ (plain_any _ _ _ _ _ _ _ _ _ _ _ _ _ _ _)).mono ?_); (focus (repeat' (first | with_reducible assumption | with_reducible exact below1 | with_reducible refine below_set ?_))); rintro e w' ⟨rfl, hb2, hb3⟩))
  all_goals go_ret
  all_goals exact ⟨ret_bool (by rw [HV.out]; (first | (simp_all [wi, nof, pln]; done) | (simp_all [wi, nof, pln]; omega) | (simp_all [wi, nof, pln]; (try intros); omega) | (simp_all [wi, nof, pln]; exact Bool.eq_iff_iff.2 (by simp; omega)))), by first | with_reducible assumption | exact below1⟩
set_option maxHeartbeats 4000000 in
theorem rvalid5 (r d v : Int) (ks cs : List Int) (pk pc : Option Addr) (nk ck nc cc : Nat) (w : World) (hK : Cm w (.slice pk nk ck) ks) (hC : Cm w (.slice pc nc cc) cs) (hn : ks.length = nk) (hm : cs.length = nc) : Calls Tryz.prog 6 #[fv 5 r (.slice pk nk ck) d v (.slice pc nc cc)] w fun e w' => e = .returned (.bool (vf 5 r ks d v cs)) ∧ Below w.heap.size w w' := by
  have HC : Hid (∀ V, Below w.heap.size w V → Cm V (.slice pc nc cc) cs) := fun V h => hC.later h
  have HV : Hid (vf 5 r ks d v cs = (cvb cs && nof r nk d v 0)) := by subst hn hm; rfl
  generalize vf 5 r ks d v cs = q at HV ⊢
  clear hK hC hn hm
  go_enter Tryz.func6, Tryz.ntmps6
  go_wp2_with (first
          | (go_at_call 18; (with_reducible refine (bcall (w0 := w) ?_ (Go.Proofs.YtbodmeiecdomfaaGreat.refValid_any cs _ (cvb cs) _ (HC.out _ below1) (cvb_iff cs))).mono ?_); (focus (repeat' (first | with_reducible assumption | with_reducible exact below1 | with_reducible refine below_set ?_))); rintro e w' ⟨rfl, hb, hb'⟩; obtain ⟨hc, hf⟩ := bcell hb'; have hz0 : w.heap.size < w'.heap.size := (by have := hb'.size; (try simp at this); omega))
          | (go_at_call 17; (with_reducible refine (bcall (w0 := w) ?_ (plain_any _ _ _ _ _ _ _ _ _ _ _ _ _ _ _)).mono ?_); (focus (repeat' (first | with_reducible assumption | with_reducible exact below1 | with_reducible refine below_set ?_))); rintro e w' ⟨rfl, hb2, hb3⟩))
  all_goals go_ret
  all_goals exact ⟨ret_bool (by rw [HV.out]; (first | (simp_all [wi, nof, pln]; done) | (simp_all [wi, nof, pln]; omega) | (simp_all [wi, nof, pln]; (try intros); omega) | (simp_all [wi, nof, pln]; exact Bool.eq_iff_iff.2 (by simp; omega)))), by first | with_reducible assumption | exact below1⟩
set_option maxHeartbeats 4000000 in
theorem rvalid6 (r d v : Int) (ks cs : List Int) (pk pc : Option Addr) (nk ck nc cc : Nat) (w : World) (hK : Cm w (.slice pk nk ck) ks) (hC : Cm w (.slice pc nc cc) cs) (hn : ks.length = nk) (hm : cs.length = nc) : Calls Tryz.prog 6 #[fv 6 r (.slice pk nk ck) d v (.slice pc nc cc)] w fun e w' => e = .returned (.bool (vf 6 r ks d v cs)) ∧ Below w.heap.size w w' := by
  have HC : Hid (∀ V, Below w.heap.size w V → Cm V (.slice pc nc cc) cs) := fun V h => hC.later h
  have HV : Hid (vf 6 r ks d v cs = nof r nk d v nc) := by subst hn hm; rfl
  generalize vf 6 r ks d v cs = q at HV ⊢
  clear hK hC hn hm
  go_enter Tryz.func6, Tryz.ntmps6
  go_wp2_with (first
          | (go_at_call 18; (with_reducible refine (bcall (w0 := w) ?_ (Go.Proofs.YtbodmeiecdomfaaGreat.refValid_any cs _ (cvb cs) _ (HC.out _ below1) (cvb_iff cs))).mono ?_); (focus (repeat' (first | with_reducible assumption | with_reducible exact below1 | with_reducible refine below_set ?_))); rintro e w' ⟨rfl, hb, hb'⟩; obtain ⟨hc, hf⟩ := bcell hb'; have hz0 : w.heap.size < w'.heap.size := (by have := hb'.size; (try simp at this); omega))
          | (go_at_call 17; (with_reducible refine (bcall (w0 := w) ?_ (plain_any _ _ _ _ _ _ _ _ _ _ _ _ _ _ _)).mono ?_); (focus (repeat' (first | with_reducible assumption | with_reducible exact below1 | with_reducible refine below_set ?_))); rintro e w' ⟨rfl, hb2, hb3⟩))
  all_goals go_ret
  all_goals exact ⟨ret_bool (by rw [HV.out]; (first | (simp_all [wi, nof, pln]; done) | (simp_all [wi, nof, pln]; omega) | (simp_all [wi, nof, pln]; (try intros); omega) | (simp_all [wi, nof, pln]; exact Bool.eq_iff_iff.2 (by simp; omega)))), by first | with_reducible assumption | exact below1⟩
set_option maxHeartbeats 4000000 in
theorem rvalid7 (r d v : Int) (ks cs : List Int) (pk pc : Option Addr) (nk ck nc cc : Nat) (w : World) (hK : Cm w (.slice pk nk ck) ks) (hC : Cm w (.slice pc nc cc) cs) (hn : ks.length = nk) (hm : cs.length = nc) : Calls Tryz.prog 6 #[fv 7 r (.slice pk nk ck) d v (.slice pc nc cc)] w fun e w' => e = .returned (.bool (vf 7 r ks d v cs)) ∧ Below w.heap.size w w' := by
  have HC : Hid (∀ V, Below w.heap.size w V → Cm V (.slice pc nc cc) cs) := fun V h => hC.later h
  have HV : Hid (vf 7 r ks d v cs = (wi v 0 256 && nof r nk d 0 nc)) := by subst hn hm; rfl
  generalize vf 7 r ks d v cs = q at HV ⊢
  clear hK hC hn hm
  go_enter Tryz.func6, Tryz.ntmps6
  go_wp2_with (first
          | (go_at_call 18; (with_reducible refine (bcall (w0 := w) ?_ (Go.Proofs.YtbodmeiecdomfaaGreat.refValid_any cs _ (cvb cs) _ (HC.out _ below1) (cvb_iff cs))).mono ?_); (focus (repeat' (first | with_reducible assumption | with_reducible exact below1 | with_reducible refine below_set ?_))); rintro e w' ⟨rfl, hb, hb'⟩; obtain ⟨hc, hf⟩ := bcell hb'; have hz0 : w.heap.size < w'.heap.size := (by have := hb'.size; (try simp at this); omega))
          | (go_at_call 17; (with_reducible refine (bcall (w0 := w) ?_ (plain_any _ _ _ _ _ _ _ _ _ _ _ _ _ _ _)).mono ?_); (focus (repeat' (first | with_reducible assumption | with_reducible exact below1 | with_reducible refine below_set ?_))); rintro e w' ⟨rfl, hb2, hb3⟩))
  all_goals go_ret
  all_goals exact ⟨ret_bool (by rw [HV.out]; (first | (simp_all [wi, nof, pln]; done) | (simp_all [wi, nof, pln]; omega) | (simp_all [wi, nof, pln]; (try intros); omega) | (simp_all [wi, nof, pln]; exact Bool.eq_iff_iff.2 (by simp; omega)))), by first | with_reducible assumption | exact below1⟩
set_option maxHeartbeats 4000000 in
theorem rvalid8 (r d v : Int) (ks cs : List Int) (pk pc : Option Addr) (nk ck nc cc : Nat) (w : World) (hK : Cm w (.slice pk nk ck) ks) (hC : Cm w (.slice pc nc cc) cs) (hn : ks.length = nk) (hm : cs.length = nc) : Calls Tryz.prog 6 #[fv 8 r (.slice pk nk ck) d v (.slice pc nc cc)] w fun e w' => e = .returned (.bool (vf 8 r ks d v cs)) ∧ Below w.heap.size w w' := by
  have HC : Hid (∀ V, Below w.heap.size w V → Cm V (.slice pc nc cc) cs) := fun V h => hC.later h
  have HV : Hid (vf 8 r ks d v cs = ((wi r (-3) 3 && wi v (-3) 3) && nof 0 nk d 0 nc)) := by subst hn hm; rfl
  generalize vf 8 r ks d v cs = q at HV ⊢
  clear hK hC hn hm
  go_enter Tryz.func6, Tryz.ntmps6
  go_wp2_with (first
          | (go_at_call 18; (with_reducible refine (bcall (w0 := w) ?_ (Go.Proofs.YtbodmeiecdomfaaGreat.refValid_any cs _ (cvb cs) _ (HC.out _ below1) (cvb_iff cs))).mono ?_); (focus (repeat' (first | with_reducible assumption | with_reducible exact below1 | with_reducible refine below_set ?_))); rintro e w' ⟨rfl, hb, hb'⟩; obtain ⟨hc, hf⟩ := bcell hb'; have hz0 : w.heap.size < w'.heap.size := (by have := hb'.size; (try simp at this); omega))
          | (go_at_call 17; (with_reducible refine (bcall (w0 := w) ?_ (plain_any _ _ _ _ _ _ _ _ _ _ _ _ _ _ _)).mono ?_); (focus (repeat' (first | with_reducible assumption | with_reducible exact below1 | with_reducible refine below_set ?_))); rintro e w' ⟨rfl, hb2, hb3⟩))
  all_goals go_ret
  all_goals exact ⟨ret_bool (by rw [HV.out]; (first | (simp_all [wi, nof, pln]; done) | (simp_all [wi, nof, pln]; omega) | (simp_all [wi, nof, pln]; (try intros); omega) | (simp_all [wi, nof, pln]; exact Bool.eq_iff_iff.2 (by simp; omega)))), by first | with_reducible assumption | exact below1⟩
set_option maxHeartbeats 8000000 in
theorem rvalid1 (r d v : Int) (ks cs : List Int) (pk pc : Option Addr) (nk ck nc cc : Nat) (w : World) (hK : Cm w (.slice pk nk ck) ks) (hC : Cm w (.slice pc nc cc) cs) (hn : ks.length = nk) (hm : cs.length = nc) : Calls Tryz.prog 6 #[fv 1 r (.slice pk nk ck) d v (.slice pc nc cc)] w fun e w' => e = .returned (.bool (vf 1 r ks d v cs)) ∧ Below w.heap.size w w' := by
  obtain ⟨po, cap, he, _, hel⟩ := cm_elem hK
  obtain ⟨rfl, rfl, rfl⟩ : po = pk ∧ ks.length = nk ∧ cap = ck := by simp at he; exact ⟨he.1.symm, he.2.1.symm, he.2.2.symm⟩
  have HL := Lib.hid hel; clear hel he
  have HN : Hid (∀ k, (∀ i, i < k → bad (cg ks i) = false) → k = ks.length → ks.any bad = false) := fun k h e => by
    subst e
    simp only [List.any_eq_false]
    intro x hx
    obtain ⟨i, hi, rfl⟩ := List.getElem_of_mem hx
    have := h i hi
    simp [cg, List.getD, hi] at this
    simp [this]
  have HY : Hid (∀ k, k < ks.length → bad (cg ks k) = true → ks.any bad = true) := fun k hk h => by
    simp only [List.any_eq_true]
    exact ⟨ks[k], List.getElem_mem _, by simpa [cg, List.getD, hk] using h⟩
  have HC : Hid (∀ V, Below w.heap.size w V → Cm V (.slice pc nc cc) cs) := fun V h => hC.later h
  have HV : Hid (vf 1 r ks d v cs = ((wi r 0 3 && (decide ((ks.length : Int) = wsz r) && !ks.any bad) && wi d 1 1048576) && nof 0 0 0 v nc)) := by subst hm; rfl
  generalize vf 1 r ks d v cs = q at HV ⊢
  clear hK hC hm
  generalize ks.length = n at *
  generalize ks.any bad = a at *
  have hws : 0 ≤ r → r ≤ 3 → wrap64 ((2 * r + 1) * (2 * r + 1)) = wsz r := fun h0 h3 => by
    obtain rfl | rfl | rfl | rfl : r = 0 ∨ r = 1 ∨ r = 2 ∨ r = 3 := by omega
    all_goals (first | decide | kernel_rfl)
  have HS := Lib.hid hws; clear hws
  by_cases h0 : 0 ≤ r
  · by_cases h3 : r ≤ 3
    · have hs := HS.out h0 h3
      by_cases hl : (n : Int) = wsz r
      · by_cases hd1 : 1 ≤ d
        · by_cases hd2 : d ≤ 1048576
          · have HV2 : Hid (q = ((!a) && nof 0 0 0 v nc)) := by unfold Hid; rw [HV.out]; simp [wi, h0, h3, hl, hd1, hd2]
            rw [← hl] at hs
            clear hl HS
            have hn2 : (n : Int) ≤ 9223372036854775807 := by omega
            go_enter Tryz.func6, Tryz.ntmps6
            go_upto_region 6 with fail
            go_wp2
            go_loopw [4] (fun i wr => ∃ k : Nat, k ≤ n ∧ i = .int .i64 k ∧ Hid (∀ i, i < k → bad (cg ks i) = false) ∧ wr = w.alloc (.cells #[.int .i64 1, .int .i64 r, .slice po n cap, .int .i64 d, .int .i64 v, .slice pc nc cc] 25)) (fun i _ => n - (intOf i).toNat)
            case atStart => exact ⟨0, by omega, rfl, fun i h => absurd h (Nat.not_lt_zero _), rfl⟩
            case round =>
              obtain ⟨k, hk, rfl, HB, rfl⟩ := hrel
              by_cases hlt : k < n
              · obtain ⟨b, off, rfl, hcell⟩ := HL.out (w.alloc (.cells #[.int .i64 1, .int .i64 r, .slice po n cap, .int .i64 d, .int .i64 v, .slice pc nc cc] 25)) below1 k hlt
                have HYk : Hid (bad (cg ks k) = true → a = true) := fun h => HY.out k hlt h
                have HBk : Hid (bad (cg ks k) = false → ∀ i, i < k + 1 → bad (cg ks i) = false) := fun h i hi => by
                  by_cases he : i = k
                  · subst he; exact h
                  · exact HB.out i (by omega)
                generalize cg ks k = x at hcell HYk HBk
                by_cases x1 : x < -4096
                · go_wp2
                  go_ret
                  have ha := HYk.out (by simp [bad, wi]; omega)
                  exact ⟨ret_bool (by rw [HV2.out, ha]; rfl), below1⟩
                · by_cases x2 : 4096 < x
                  · go_wp2
                    go_ret
                    have ha := HYk.out (by simp [bad, wi]; omega)
                    exact ⟨ret_bool (by rw [HV2.out, ha]; rfl), below1⟩
                  · go_wp2
                    go_roundw
                    case rel => exact ⟨k + 1, by omega, by go_num, HBk.out (by simp [bad, wi]; omega), by first | rfl | trivial⟩
                    case measure => simp [intOf]; omega
              · obtain rfl : k = n := by omega
                have ha := HN.out k HB.out rfl
                go_wp2_with (first
          | (go_at_call 18; (with_reducible refine (bcall (w0 := w) ?_ (Go.Proofs.YtbodmeiecdomfaaGreat.refValid_any cs _ (cvb cs) _ (HC.out _ below1) (cvb_iff cs))).mono ?_); (focus (repeat' (first | with_reducible assumption | with_reducible exact below1 | with_reducible refine below_set ?_))); rintro e w' ⟨rfl, hb, hb'⟩; obtain ⟨hc, hf⟩ := bcell hb'; have hz0 : w.heap.size < w'.heap.size := (by have := hb'.size; (try simp at this); omega))
          | (go_at_call 17; (with_reducible refine (bcall (w0 := w) ?_ (plain_any _ _ _ _ _ _ _ _ _ _ _ _ _ _ _)).mono ?_); (focus (repeat' (first | with_reducible assumption | with_reducible exact below1 | with_reducible refine below_set ?_))); rintro e w' ⟨rfl, hb2, hb3⟩))
                go_ret
                exact ⟨ret_bool (by rw [HV2.out, ha]; simp [nof, pln]), by assumption⟩
          · clear HL HN HY HS
            go_enter Tryz.func6, Tryz.ntmps6
            go_wp2_with (first
                      | (go_at_call 18; (with_reducible refine (bcall (w0 := w) ?_ (Go.Proofs.YtbodmeiecdomfaaGreat.refValid_any cs _ (cvb cs) _ (HC.out _ below1) (cvb_iff cs))).mono ?_); (focus (repeat' (first | with_reducible assumption | with_reducible exact below1 | with_reducible refine below_set ?_))); rintro e w' ⟨rfl, hb, hb'⟩; obtain ⟨hc, hf⟩ := bcell hb'; have hz0 : w.heap.size < w'.heap.size := (by have := hb'.size; (try simp at this); omega))
                      | (go_at_call 17; (with_reducible refine (bcall (w0 := w) ?_ (plain_any _ _ _ _ _ _ _ _ _ _ _ _ _ _ _)).mono ?_); (focus (repeat' (first | with_reducible assumption | with_reducible exact below1 | with_reducible refine below_set ?_))); rintro e w' ⟨rfl, hb2, hb3⟩))
            all_goals go_ret
            all_goals exact ⟨ret_bool (by rw [HV.out]; (first | (simp_all [wi, nof, pln]; done) | (simp_all [wi, nof, pln]; omega) | (simp_all [wi, nof, pln]; (try intros); omega) | (simp_all [wi, nof, pln]; exact Bool.eq_iff_iff.2 (by simp; omega)))), by first | with_reducible assumption | exact below1⟩
        · clear HL HN HY HS
          go_enter Tryz.func6, Tryz.ntmps6
          go_wp2_with (first
                    | (go_at_call 18; (with_reducible refine (bcall (w0 := w) ?_ (Go.Proofs.YtbodmeiecdomfaaGreat.refValid_any cs _ (cvb cs) _ (HC.out _ below1) (cvb_iff cs))).mono ?_); (focus (repeat' (first | with_reducible assumption | with_reducible exact below1 | with_reducible refine below_set ?_))); rintro e w' ⟨rfl, hb, hb'⟩; obtain ⟨hc, hf⟩ := bcell hb'; have hz0 : w.heap.size < w'.heap.size := (by have := hb'.size; (try simp at this); omega))
                    | (go_at_call 17; (with_reducible refine (bcall (w0 := w) ?_ (plain_any _ _ _ _ _ _ _ _ _ _ _ _ _ _ _)).mono ?_); (focus (repeat' (first | with_reducible assumption | with_reducible exact below1 | with_reducible refine below_set ?_))); rintro e w' ⟨rfl, hb2, hb3⟩))
          all_goals go_ret
          all_goals exact ⟨ret_bool (by rw [HV.out]; (first | (simp_all [wi, nof, pln]; done) | (simp_all [wi, nof, pln]; omega) | (simp_all [wi, nof, pln]; (try intros); omega) | (simp_all [wi, nof, pln]; exact Bool.eq_iff_iff.2 (by simp; omega)))), by first | with_reducible assumption | exact below1⟩
      · clear HL HN HY HS
        go_enter Tryz.func6, Tryz.ntmps6
        go_wp2_with (first
                  | (go_at_call 18; (with_reducible refine (bcall (w0 := w) ?_ (Go.Proofs.YtbodmeiecdomfaaGreat.refValid_any cs _ (cvb cs) _ (HC.out _ below1) (cvb_iff cs))).mono ?_); (focus (repeat' (first | with_reducible assumption | with_reducible exact below1 | with_reducible refine below_set ?_))); rintro e w' ⟨rfl, hb, hb'⟩; obtain ⟨hc, hf⟩ := bcell hb'; have hz0 : w.heap.size < w'.heap.size := (by have := hb'.size; (try simp at this); omega))
                  | (go_at_call 17; (with_reducible refine (bcall (w0 := w) ?_ (plain_any _ _ _ _ _ _ _ _ _ _ _ _ _ _ _)).mono ?_); (focus (repeat' (first | with_reducible assumption | with_reducible exact below1 | with_reducible refine below_set ?_))); rintro e w' ⟨rfl, hb2, hb3⟩))
        all_goals go_ret
        all_goals exact ⟨ret_bool (by rw [HV.out]; (first | (simp_all [wi, nof, pln]; done) | (simp_all [wi, nof, pln]; omega) | (simp_all [wi, nof, pln]; (try intros); omega) | (simp_all [wi, nof, pln]; exact Bool.eq_iff_iff.2 (by simp; omega)))), by first | with_reducible assumption | exact below1⟩
    · clear HL HN HY HS
      go_enter Tryz.func6, Tryz.ntmps6
      go_wp2_with (first
                | (go_at_call 18; (with_reducible refine (bcall (w0 := w) ?_ (Go.Proofs.YtbodmeiecdomfaaGreat.refValid_any cs _ (cvb cs) _ (HC.out _ below1) (cvb_iff cs))).mono ?_); (focus (repeat' (first | with_reducible assumption | with_reducible exact below1 | with_reducible refine below_set ?_))); rintro e w' ⟨rfl, hb, hb'⟩; obtain ⟨hc, hf⟩ := bcell hb'; have hz0 : w.heap.size < w'.heap.size := (by have := hb'.size; (try simp at this); omega))
                | (go_at_call 17; (with_reducible refine (bcall (w0 := w) ?_ (plain_any _ _ _ _ _ _ _ _ _ _ _ _ _ _ _)).mono ?_); (focus (repeat' (first | with_reducible assumption | with_reducible exact below1 | with_reducible refine below_set ?_))); rintro e w' ⟨rfl, hb2, hb3⟩))
      all_goals go_ret
      all_goals exact ⟨ret_bool (by rw [HV.out]; (first | (simp_all [wi, nof, pln]; done) | (simp_all [wi, nof, pln]; omega) | (simp_all [wi, nof, pln]; (try intros); omega) | (simp_all [wi, nof, pln]; exact Bool.eq_iff_iff.2 (by simp; omega)))), by first | with_reducible assumption | exact below1⟩
  · clear HL HN HY HS
    go_enter Tryz.func6, Tryz.ntmps6
    go_wp2_with (first
              | (go_at_call 18; (with_reducible refine (bcall (w0 := w) ?_ (Go.Proofs.YtbodmeiecdomfaaGreat.refValid_any cs _ (cvb cs) _ (HC.out _ below1) (cvb_iff cs))).mono ?_); (focus (repeat' (first | with_reducible assumption | with_reducible exact below1 | with_reducible refine below_set ?_))); rintro e w' ⟨rfl, hb, hb'⟩; obtain ⟨hc, hf⟩ := bcell hb'; have hz0 : w.heap.size < w'.heap.size := (by have := hb'.size; (try simp at this); omega))
              | (go_at_call 17; (with_reducible refine (bcall (w0 := w) ?_ (plain_any _ _ _ _ _ _ _ _ _ _ _ _ _ _ _)).mono ?_); (focus (repeat' (first | with_reducible assumption | with_reducible exact below1 | with_reducible refine below_set ?_))); rintro e w' ⟨rfl, hb2, hb3⟩))
    all_goals go_ret
    all_goals exact ⟨ret_bool (by rw [HV.out]; (first | (simp_all [wi, nof, pln]; done) | (simp_all [wi, nof, pln]; omega) | (simp_all [wi, nof, pln]; (try intros); omega) | (simp_all [wi, nof, pln]; exact Bool.eq_iff_iff.2 (by simp; omega)))), by first | with_reducible assumption | exact below1⟩
theorem rfvalid_any (k r d v : Int) (ks cs : List Int) (K C : Value) (w : World) (hK : Cm w K ks) (hC : Cm w C cs) : Calls Tryz.prog 6 #[fv k r K d v C] w fun e w' => e = .returned (.bool (vf k r ks d v cs)) ∧ Below w.heap.size w w' := by
  obtain ⟨pk, ck, rfl, a1, a2, a3⟩ := hK
  obtain ⟨pc, cc, rfl, b1, b2, b3⟩ := hC
  have hK : Cm w (.slice pk ks.length ck) ks := ⟨pk, ck, rfl, a1, a2, a3⟩
  have hC : Cm w (.slice pc cs.length cc) cs := ⟨pc, cc, rfl, b1, b2, b3⟩
  by_cases h1 : k = 1
  · subst h1; exact rvalid1 r d v ks cs pk pc _ ck _ cc w hK hC rfl rfl
  by_cases h2 : k = 2
  · subst h2; exact rvalid2 r d v ks cs pk pc _ ck _ cc w hK hC rfl rfl
  by_cases h3 : k = 3
  · subst h3; exact rvalid3 r d v ks cs pk pc _ ck _ cc w hK hC rfl rfl
  by_cases h4 : k = 4
  · subst h4; exact rvalid4 r d v ks cs pk pc _ ck _ cc w hK hC rfl rfl
  by_cases h5 : k = 5
  · subst h5; exact rvalid5 r d v ks cs pk pc _ ck _ cc w hK hC rfl rfl
  by_cases h6 : k = 6
  · subst h6; exact rvalid6 r d v ks cs pk pc _ ck _ cc w hK hC rfl rfl
  by_cases h7 : k = 7
  · subst h7; exact rvalid7 r d v ks cs pk pc _ ck _ cc w hK hC rfl rfl
  by_cases h8 : k = 8
  · subst h8; exact rvalid8 r d v ks cs pk pc _ ck _ cc w hK hC rfl rfl
  rw [vf_other h1 h2 h3 h4 h5 h6 h7 h8]
  replace h1 := beq_no h1
  replace h2 := beq_no h2
  replace h3 := beq_no h3
  replace h4 := beq_no h4
  replace h5 := beq_no h5
  replace h6 := beq_no h6
  replace h7 := beq_no h7
  replace h8 := beq_no h8
  clear a1 a2 a3 b1 b2 b3 hK hC
  go_enter Tryz.func6, Tryz.ntmps6
  go_wp2
  all_goals go_ret
  all_goals exact ⟨rfl, below1⟩
end Go.Proofs.YtbodmeiecdomfaaGreat.W
