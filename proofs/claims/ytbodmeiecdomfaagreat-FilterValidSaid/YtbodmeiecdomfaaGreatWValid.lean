/-
  Whether a filter is valid, of the program.
-/
import Derived.Test.YtbodmeiecdomfaaGreatWVal
namespace Go.Proofs.YtbodmeiecdomfaaGreat.W
open Go.RowKit
set_option maxRecDepth 100000
variable {W w w' : World} {L : List (Nat × Obj)}

/-- a filter as a value -/
abbrev fv (k r : Int) (K : Value) (d v : Int) (C : Value) : Value := .agg #[.int .i64 k, .int .i64 r, K, .int .i64 d, .int .i64 v, C]
def nof (r nk d v nc : Int) : Bool := decide (r = 0) && decide (nk = 0) && decide (d = 0) && decide (v = 0) && decide (nc = 0)
theorem nof_any (k r d v : Int) (pk pc : Option Addr) (nk ck nc cc : Nat) (w : World) : Calls Tryz.prog 22 #[fv k r (.slice pk nk ck) d v (.slice pc nc cc)] w fun e w' => e = .returned (.bool (nof r nk d v nc)) ∧ Below w.heap.size w w' := by
  have HN : Hid (nof r nk d v nc = (decide (r = 0) && decide (nk = 0) && decide (d = 0) && decide (v = 0) && decide (nc = 0))) := by unfold Hid nof; simp only [Int.natCast_eq_zero]
  generalize nof r nk d v nc = q at HN ⊢
  go_enter Tryz.func22, Tryz.ntmps22
  go_wp2
  all_goals go_ret
  all_goals exact ⟨ret_bool (by rw [HN.out]; first | (simp_all; done) | (simp_all; exact Bool.eq_iff_iff.2 (by simp))), below1⟩
theorem below_set {j : Nat} {x : Value} (h : Below w.heap.size w W) : Below w.heap.size w (W.setCell ⟨w.heap.size, j, none⟩ x) := h.setCell (p := ⟨w.heap.size, j, none⟩) (Nat.le_refl _) _
noncomputable def cvb (c : List Int) : Bool := @decide (Cv c) (Classical.propDecidable _)
theorem cvb_iff (c : List Int) : cvb c = true ↔ Cv c := by simp [cvb]
theorem wi_lo {n lo hi : Int} (h : wi n lo hi = true) : lo ≤ n := by simp [wi] at h; exact h.1
theorem wi_hi {n lo hi : Int} (h : wi n lo hi = true) : n ≤ hi := by simp [wi] at h; exact h.2
/-- whether a filter is valid -/
noncomputable def vf (k r : Int) (ks : List Int) (d v : Int) (cs : List Int) : Bool :=
  if k = 1 then (wi r 0 3 && ik ks r && wi d 1 1048576) && nof 0 0 0 v cs.length
  else if k = 2 then wi r 0 3 && nof 0 ks.length d v cs.length
  else if k = 3 then wi r 0 3 && nof 0 ks.length d v cs.length
  else if k = 4 then wi r 0 3 && nof 0 ks.length d v cs.length
  else if k = 5 then cvb cs && nof r ks.length d v 0
  else if k = 6 then nof r ks.length d v cs.length
  else if k = 7 then wi v 0 256 && nof r ks.length d 0 cs.length
  else if k = 8 then (wi r (-3) 3 && wi v (-3) 3) && nof 0 ks.length d 0 cs.length
  else false
theorem vf_other {k r d v : Int} {ks cs : List Int} (h1 : k ≠ 1) (h2 : k ≠ 2) (h3 : k ≠ 3) (h4 : k ≠ 4) (h5 : k ≠ 5) (h6 : k ≠ 6) (h7 : k ≠ 7) (h8 : k ≠ 8) : vf k r ks d v cs = false := by
  unfold vf; rw [if_neg h1, if_neg h2, if_neg h3, if_neg h4, if_neg h5, if_neg h6, if_neg h7, if_neg h8]
theorem beq_no {a b : Int} (h : a ≠ b) : (a == b) = false := by simpa using h

set_option maxHeartbeats 4000000 in
theorem valid1 (r d v : Int) (ks cs : List Int) (pk pc : Option Addr) (nk ck nc cc : Nat) (w : World) (hK : Cm w (.slice pk nk ck) ks) (hC : Cm w (.slice pc nc cc) cs) (hn : ks.length = nk) (hm : cs.length = nc) : Calls Tryz.prog 7 #[fv 1 r (.slice pk nk ck) d v (.slice pc nc cc)] w fun e w' => e = .returned (.bool (vf 1 r ks d v cs)) ∧ Below w.heap.size w w' := by
  have HK : Hid (∀ V, Below w.heap.size w V → Cm V (.slice pk nk ck) ks) := fun V h => hK.later h
  have HC : Hid (∀ V, Below w.heap.size w V → Cm V (.slice pc nc cc) cs) := fun V h => hC.later h
  have HV : Hid (vf 1 r ks d v cs = ((wi r 0 3 && ik ks r && wi d 1 1048576) && nof 0 0 0 v nc)) := by subst hn hm; rfl
  generalize vf 1 r ks d v cs = q at HV ⊢
  clear hK hC hn hm
  cases h0 : wi r 0 3
  · have H1 := Lib.hid h0
    clear h0
    go_enter Tryz.func7, Tryz.ntmps7
    go_wp2_with (first
          | (go_at_call 19; (with_reducible refine (within_any _ _ _ _).mono ?_); rintro e w' ⟨rfl, rfl⟩; (first | rw [H1.out]))
          | (go_at_call 20; (with_reducible refine (kernel_any ks r _ _ (HK.out _ below1) hr0 hr3).mono ?_); rintro e w' ⟨rfl, rfl⟩; (first | rw [H1.out]))
          | (go_at_call 21; (with_reducible refine (bcall (w0 := w) ?_ (Go.Proofs.YtbodmeiecdomfaaGreat.valid_any cs _ (cvb cs) _ (HC.out _ below1) (cvb_iff cs))).mono ?_); (focus (repeat' (first | with_reducible assumption | with_reducible exact below1 | with_reducible refine below_set ?_))); rintro e w' ⟨rfl, hb, hb'⟩; obtain ⟨hc, hf⟩ := bcell hb'; have hz0 : w.heap.size < w'.heap.size := (by have := hb'.size; (try simp at this); omega); (first | rw [H1.out]))
          | (go_at_call 22; (with_reducible refine (bcall (w0 := w) ?_ (nof_any _ _ _ _ _ _ _ _ _ _ _)).mono ?_); (focus (repeat' (first | with_reducible assumption | with_reducible exact below1 | with_reducible refine below_set ?_))); rintro e w' ⟨rfl, hb2, hb3⟩))
    go_ret
    exact ⟨ret_bool (by rw [HV.out, H1.out]; (try simp)), by first | with_reducible assumption | exact below1 | exact below_set below1 | exact below_set (below_set below1) | exact below_set (below_set (below_set below1)) | exact below_set (by assumption)⟩
  · have H1 := Lib.hid h0
    have hr0 := wi_lo h0
    have hr3 := wi_hi h0
    clear h0
    cases h1 : ik ks r
    · have H2 := Lib.hid h1
      clear h1
      go_enter Tryz.func7, Tryz.ntmps7
      go_wp2_with (first
          | (go_at_call 19; (with_reducible refine (within_any _ _ _ _).mono ?_); rintro e w' ⟨rfl, rfl⟩; (first | rw [H1.out] | rw [H2.out]))
          | (go_at_call 20; (with_reducible refine (kernel_any ks r _ _ (HK.out _ below1) hr0 hr3).mono ?_); rintro e w' ⟨rfl, rfl⟩; (first | rw [H1.out] | rw [H2.out]))
          | (go_at_call 21; (with_reducible refine (bcall (w0 := w) ?_ (Go.Proofs.YtbodmeiecdomfaaGreat.valid_any cs _ (cvb cs) _ (HC.out _ below1) (cvb_iff cs))).mono ?_); (focus (repeat' (first | with_reducible assumption | with_reducible exact below1 | with_reducible refine below_set ?_))); rintro e w' ⟨rfl, hb, hb'⟩; obtain ⟨hc, hf⟩ := bcell hb'; have hz0 : w.heap.size < w'.heap.size := (by have := hb'.size; (try simp at this); omega); (first | rw [H1.out] | rw [H2.out]))
          | (go_at_call 22; (with_reducible refine (bcall (w0 := w) ?_ (nof_any _ _ _ _ _ _ _ _ _ _ _)).mono ?_); (focus (repeat' (first | with_reducible assumption | with_reducible exact below1 | with_reducible refine below_set ?_))); rintro e w' ⟨rfl, hb2, hb3⟩))
      go_ret
      exact ⟨ret_bool (by rw [HV.out, H1.out, H2.out]; (try simp)), by first | with_reducible assumption | exact below1 | exact below_set below1 | exact below_set (below_set below1) | exact below_set (below_set (below_set below1)) | exact below_set (by assumption)⟩
    · have H2 := Lib.hid h1
      clear h1
      cases h2 : wi d 1 1048576
      · have H3 := Lib.hid h2
        clear h2
        go_enter Tryz.func7, Tryz.ntmps7
        go_wp2_with (first
          | (go_at_call 19; (with_reducible refine (within_any _ _ _ _).mono ?_); rintro e w' ⟨rfl, rfl⟩; (first | rw [H1.out] | rw [H2.out] | rw [H3.out]))
          | (go_at_call 20; (with_reducible refine (kernel_any ks r _ _ (HK.out _ below1) hr0 hr3).mono ?_); rintro e w' ⟨rfl, rfl⟩; (first | rw [H1.out] | rw [H2.out] | rw [H3.out]))
          | (go_at_call 21; (with_reducible refine (bcall (w0 := w) ?_ (Go.Proofs.YtbodmeiecdomfaaGreat.valid_any cs _ (cvb cs) _ (HC.out _ below1) (cvb_iff cs))).mono ?_); (focus (repeat' (first | with_reducible assumption | with_reducible exact below1 | with_reducible refine below_set ?_))); rintro e w' ⟨rfl, hb, hb'⟩; obtain ⟨hc, hf⟩ := bcell hb'; have hz0 : w.heap.size < w'.heap.size := (by have := hb'.size; (try simp at this); omega); (first | rw [H1.out] | rw [H2.out] | rw [H3.out]))
          | (go_at_call 22; (with_reducible refine (bcall (w0 := w) ?_ (nof_any _ _ _ _ _ _ _ _ _ _ _)).mono ?_); (focus (repeat' (first | with_reducible assumption | with_reducible exact below1 | with_reducible refine below_set ?_))); rintro e w' ⟨rfl, hb2, hb3⟩))
        go_ret
        exact ⟨ret_bool (by rw [HV.out, H1.out, H2.out, H3.out]; (try simp)), by first | with_reducible assumption | exact below1 | exact below_set below1 | exact below_set (below_set below1) | exact below_set (below_set (below_set below1)) | exact below_set (by assumption)⟩
      · have H3 := Lib.hid h2
        clear h2
        go_enter Tryz.func7, Tryz.ntmps7
        go_wp2_with (first
          | (go_at_call 19; (with_reducible refine (within_any _ _ _ _).mono ?_); rintro e w' ⟨rfl, rfl⟩; (first | rw [H1.out] | rw [H2.out] | rw [H3.out]))
          | (go_at_call 20; (with_reducible refine (kernel_any ks r _ _ (HK.out _ below1) hr0 hr3).mono ?_); rintro e w' ⟨rfl, rfl⟩; (first | rw [H1.out] | rw [H2.out] | rw [H3.out]))
          | (go_at_call 21; (with_reducible refine (bcall (w0 := w) ?_ (Go.Proofs.YtbodmeiecdomfaaGreat.valid_any cs _ (cvb cs) _ (HC.out _ below1) (cvb_iff cs))).mono ?_); (focus (repeat' (first | with_reducible assumption | with_reducible exact below1 | with_reducible refine below_set ?_))); rintro e w' ⟨rfl, hb, hb'⟩; obtain ⟨hc, hf⟩ := bcell hb'; have hz0 : w.heap.size < w'.heap.size := (by have := hb'.size; (try simp at this); omega); (first | rw [H1.out] | rw [H2.out] | rw [H3.out]))
          | (go_at_call 22; (with_reducible refine (bcall (w0 := w) ?_ (nof_any _ _ _ _ _ _ _ _ _ _ _)).mono ?_); (focus (repeat' (first | with_reducible assumption | with_reducible exact below1 | with_reducible refine below_set ?_))); rintro e w' ⟨rfl, hb2, hb3⟩))
        go_ret
        exact ⟨ret_bool (by rw [HV.out, H1.out, H2.out, H3.out]; (try simp)), by first | with_reducible assumption | exact below1 | exact below_set below1 | exact below_set (below_set below1) | exact below_set (below_set (below_set below1)) | exact below_set (by assumption)⟩
set_option maxHeartbeats 4000000 in
theorem valid2 (r d v : Int) (ks cs : List Int) (pk pc : Option Addr) (nk ck nc cc : Nat) (w : World) (hK : Cm w (.slice pk nk ck) ks) (hC : Cm w (.slice pc nc cc) cs) (hn : ks.length = nk) (hm : cs.length = nc) : Calls Tryz.prog 7 #[fv 2 r (.slice pk nk ck) d v (.slice pc nc cc)] w fun e w' => e = .returned (.bool (vf 2 r ks d v cs)) ∧ Below w.heap.size w w' := by
  have HK : Hid (∀ V, Below w.heap.size w V → Cm V (.slice pk nk ck) ks) := fun V h => hK.later h
  have HC : Hid (∀ V, Below w.heap.size w V → Cm V (.slice pc nc cc) cs) := fun V h => hC.later h
  have HV : Hid (vf 2 r ks d v cs = (wi r 0 3 && nof 0 nk d v nc)) := by subst hn hm; rfl
  generalize vf 2 r ks d v cs = q at HV ⊢
  clear hK hC hn hm
  cases h0 : wi r 0 3
  · have H1 := Lib.hid h0
    clear h0
    go_enter Tryz.func7, Tryz.ntmps7
    go_wp2_with (first
          | (go_at_call 19; (with_reducible refine (within_any _ _ _ _).mono ?_); rintro e w' ⟨rfl, rfl⟩; (first | rw [H1.out]))
          | (go_at_call 20; (with_reducible refine (kernel_any ks r _ _ (HK.out _ below1) hr0 hr3).mono ?_); rintro e w' ⟨rfl, rfl⟩; (first | rw [H1.out]))
          | (go_at_call 21; (with_reducible refine (bcall (w0 := w) ?_ (Go.Proofs.YtbodmeiecdomfaaGreat.valid_any cs _ (cvb cs) _ (HC.out _ below1) (cvb_iff cs))).mono ?_); (focus (repeat' (first | with_reducible assumption | with_reducible exact below1 | with_reducible refine below_set ?_))); rintro e w' ⟨rfl, hb, hb'⟩; obtain ⟨hc, hf⟩ := bcell hb'; have hz0 : w.heap.size < w'.heap.size := (by have := hb'.size; (try simp at this); omega); (first | rw [H1.out]))
          | (go_at_call 22; (with_reducible refine (bcall (w0 := w) ?_ (nof_any _ _ _ _ _ _ _ _ _ _ _)).mono ?_); (focus (repeat' (first | with_reducible assumption | with_reducible exact below1 | with_reducible refine below_set ?_))); rintro e w' ⟨rfl, hb2, hb3⟩))
    go_ret
    exact ⟨ret_bool (by rw [HV.out, H1.out]; (try simp)), by first | with_reducible assumption | exact below1 | exact below_set below1 | exact below_set (below_set below1) | exact below_set (below_set (below_set below1)) | exact below_set (by assumption)⟩
  · have H1 := Lib.hid h0
    clear h0
    go_enter Tryz.func7, Tryz.ntmps7
    go_wp2_with (first
          | (go_at_call 19; (with_reducible refine (within_any _ _ _ _).mono ?_); rintro e w' ⟨rfl, rfl⟩; (first | rw [H1.out]))
          | (go_at_call 20; (with_reducible refine (kernel_any ks r _ _ (HK.out _ below1) hr0 hr3).mono ?_); rintro e w' ⟨rfl, rfl⟩; (first | rw [H1.out]))
          | (go_at_call 21; (with_reducible refine (bcall (w0 := w) ?_ (Go.Proofs.YtbodmeiecdomfaaGreat.valid_any cs _ (cvb cs) _ (HC.out _ below1) (cvb_iff cs))).mono ?_); (focus (repeat' (first | with_reducible assumption | with_reducible exact below1 | with_reducible refine below_set ?_))); rintro e w' ⟨rfl, hb, hb'⟩; obtain ⟨hc, hf⟩ := bcell hb'; have hz0 : w.heap.size < w'.heap.size := (by have := hb'.size; (try simp at this); omega); (first | rw [H1.out]))
          | (go_at_call 22; (with_reducible refine (bcall (w0 := w) ?_ (nof_any _ _ _ _ _ _ _ _ _ _ _)).mono ?_); (focus (repeat' (first | with_reducible assumption | with_reducible exact below1 | with_reducible refine below_set ?_))); rintro e w' ⟨rfl, hb2, hb3⟩))
    go_ret
    exact ⟨ret_bool (by rw [HV.out, H1.out]; (try simp)), by first | with_reducible assumption | exact below1 | exact below_set below1 | exact below_set (below_set below1) | exact below_set (below_set (below_set below1)) | exact below_set (by assumption)⟩
set_option maxHeartbeats 4000000 in
theorem valid3 (r d v : Int) (ks cs : List Int) (pk pc : Option Addr) (nk ck nc cc : Nat) (w : World) (hK : Cm w (.slice pk nk ck) ks) (hC : Cm w (.slice pc nc cc) cs) (hn : ks.length = nk) (hm : cs.length = nc) : Calls Tryz.prog 7 #[fv 3 r (.slice pk nk ck) d v (.slice pc nc cc)] w fun e w' => e = .returned (.bool (vf 3 r ks d v cs)) ∧ Below w.heap.size w w' := by
  have HK : Hid (∀ V, Below w.heap.size w V → Cm V (.slice pk nk ck) ks) := fun V h => hK.later h
  have HC : Hid (∀ V, Below w.heap.size w V → Cm V (.slice pc nc cc) cs) := fun V h => hC.later h
  have HV : Hid (vf 3 r ks d v cs = (wi r 0 3 && nof 0 nk d v nc)) := by subst hn hm; rfl
  generalize vf 3 r ks d v cs = q at HV ⊢
  clear hK hC hn hm
  cases h0 : wi r 0 3
  · have H1 := Lib.hid h0
    clear h0
    go_enter Tryz.func7, Tryz.ntmps7
    go_wp2_with (first
          | (go_at_call 19; (with_reducible refine (within_any _ _ _ _).mono ?_); rintro e w' ⟨rfl, rfl⟩; (first | rw [H1.out]))
          | (go_at_call 20; (with_reducible refine (kernel_any ks r _ _ (HK.out _ below1) hr0 hr3).mono ?_); rintro e w' ⟨rfl, rfl⟩; (first | rw [H1.out]))
          | (go_at_call 21; (with_reducible refine (bcall (w0 := w) ?_ (Go.Proofs.YtbodmeiecdomfaaGreat.valid_any cs _ (cvb cs) _ (HC.out _ below1) (cvb_iff cs))).mono ?_); (focus (repeat' (first | with_reducible assumption | with_reducible exact below1 | with_reducible refine below_set ?_))); rintro e w' ⟨rfl, hb, hb'⟩; obtain ⟨hc, hf⟩ := bcell hb'; have hz0 : w.heap.size < w'.heap.size := (by have := hb'.size; (try simp at this); omega); (first | rw [H1.out]))
          | (go_at_call 22; (with_reducible refine (bcall (w0 := w) ?_ (nof_any _ _ _ _ _ _ _ _ _ _ _)).mono ?_); (focus (repeat' (first | with_reducible assumption | with_reducible exact below1 | with_reducible refine below_set ?_))); rintro e w' ⟨rfl, hb2, hb3⟩))
    go_ret
    exact ⟨ret_bool (by rw [HV.out, H1.out]; (try simp)), by first | with_reducible assumption | exact below1 | exact below_set below1 | exact below_set (below_set below1) | exact below_set (below_set (below_set below1)) | exact below_set (by assumption)⟩
  · have H1 := Lib.hid h0
    clear h0
    go_enter Tryz.func7, Tryz.ntmps7
    go_wp2_with (first
          | (go_at_call 19; (with_reducible refine (within_any _ _ _ _).mono ?_); rintro e w' ⟨rfl, rfl⟩; (first | rw [H1.out]))
          | (go_at_call 20; (with_reducible refine (kernel_any ks r _ _ (HK.out _ below1) hr0 hr3).mono ?_); rintro e w' ⟨rfl, rfl⟩; (first | rw [H1.out]))
          | (go_at_call 21; (with_reducible refine (bcall (w0 := w) ?_ (Go.Proofs.YtbodmeiecdomfaaGreat.valid_any cs _ (cvb cs) _ (HC.out _ below1) (cvb_iff cs))).mono ?_); (focus (repeat' (first | with_reducible assumption | with_reducible exact below1 | with_reducible refine below_set ?_))); rintro e w' ⟨rfl, hb, hb'⟩; obtain ⟨hc, hf⟩ := bcell hb'; have hz0 : w.heap.size < w'.heap.size := (by have := hb'.size; (try simp at this); omega); (first | rw [H1.out]))
          | (go_at_call 22; (with_reducible refine (bcall (w0 := w) ?_ (nof_any _ _ _ _ _ _ _ _ _ _ _)).mono ?_); (focus (repeat' (first | with_reducible assumption | with_reducible exact below1 | with_reducible refine below_set ?_))); rintro e w' ⟨rfl, hb2, hb3⟩))
    go_ret
    exact ⟨ret_bool (by rw [HV.out, H1.out]; (try simp)), by first | with_reducible assumption | exact below1 | exact below_set below1 | exact below_set (below_set below1) | exact below_set (below_set (below_set below1)) | exact below_set (by assumption)⟩
set_option maxHeartbeats 4000000 in
theorem valid4 (r d v : Int) (ks cs : List Int) (pk pc : Option Addr) (nk ck nc cc : Nat) (w : World) (hK : Cm w (.slice pk nk ck) ks) (hC : Cm w (.slice pc nc cc) cs) (hn : ks.length = nk) (hm : cs.length = nc) : Calls Tryz.prog 7 #[fv 4 r (.slice pk nk ck) d v (.slice pc nc cc)] w fun e w' => e = .returned (.bool (vf 4 r ks d v cs)) ∧ Below w.heap.size w w' := by
  have HK : Hid (∀ V, Below w.heap.size w V → Cm V (.slice pk nk ck) ks) := fun V h => hK.later h
  have HC : Hid (∀ V, Below w.heap.size w V → Cm V (.slice pc nc cc) cs) := fun V h => hC.later h
  have HV : Hid (vf 4 r ks d v cs = (wi r 0 3 && nof 0 nk d v nc)) := by subst hn hm; rfl
  generalize vf 4 r ks d v cs = q at HV ⊢
  clear hK hC hn hm
  cases h0 : wi r 0 3
  · have H1 := Lib.hid h0
    clear h0
    go_enter Tryz.func7, Tryz.ntmps7
    go_wp2_with (first
          | (go_at_call 19; (with_reducible refine (within_any _ _ _ _).mono ?_); rintro e w' ⟨rfl, rfl⟩; (first | rw [H1.out]))
          | (go_at_call 20; (with_reducible refine (kernel_any ks r _ _ (HK.out _ below1) hr0 hr3).mono ?_); rintro e w' ⟨rfl, rfl⟩; (first | rw [H1.out]))
          | (go_at_call 21; (with_reducible refine (bcall (w0 := w) ?_ (Go.Proofs.YtbodmeiecdomfaaGreat.valid_any cs _ (cvb cs) _ (HC.out _ below1) (cvb_iff cs))).mono ?_); (focus (repeat' (first | with_reducible assumption | with_reducible exact below1 | with_reducible refine below_set ?_))); rintro e w' ⟨rfl, hb, hb'⟩; obtain ⟨hc, hf⟩ := bcell hb'; have hz0 : w.heap.size < w'.heap.size := (by have := hb'.size; (try simp at this); omega); (first | rw [H1.out]))
          | (go_at_call 22; (with_reducible refine (bcall (w0 := w) ?_ (nof_any _ _ _ _ _ _ _ _ _ _ _)).mono ?_); (focus (repeat' (first | with_reducible assumption | with_reducible exact below1 | with_reducible refine below_set ?_))); rintro e w' ⟨rfl, hb2, hb3⟩))
    go_ret
    exact ⟨ret_bool (by rw [HV.out, H1.out]; (try simp)), by first | with_reducible assumption | exact below1 | exact below_set below1 | exact below_set (below_set below1) | exact below_set (below_set (below_set below1)) | exact below_set (by assumption)⟩
  · have H1 := Lib.hid h0
    clear h0
    go_enter Tryz.func7, Tryz.ntmps7
    go_wp2_with (first
          | (go_at_call 19; (with_reducible refine (within_any _ _ _ _).mono ?_); rintro e w' ⟨rfl, rfl⟩; (first | rw [H1.out]))
          | (go_at_call 20; (with_reducible refine (kernel_any ks r _ _ (HK.out _ below1) hr0 hr3).mono ?_); rintro e w' ⟨rfl, rfl⟩; (first | rw [H1.out]))
          | (go_at_call 21; (with_reducible refine (bcall (w0 := w) ?_ (Go.Proofs.YtbodmeiecdomfaaGreat.valid_any cs _ (cvb cs) _ (HC.out _ below1) (cvb_iff cs))).mono ?_); (focus (repeat' (first | with_reducible assumption | with_reducible exact below1 | with_reducible refine below_set ?_))); rintro e w' ⟨rfl, hb, hb'⟩; obtain ⟨hc, hf⟩ := bcell hb'; have hz0 : w.heap.size < w'.heap.size := (by have := hb'.size; (try simp at this); omega); (first | rw [H1.out]))
          | (go_at_call 22; (with_reducible refine (bcall (w0 := w) ?_ (nof_any _ _ _ _ _ _ _ _ _ _ _)).mono ?_); (focus (repeat' (first | with_reducible assumption | with_reducible exact below1 | with_reducible refine below_set ?_))); rintro e w' ⟨rfl, hb2, hb3⟩))
    go_ret
    exact ⟨ret_bool (by rw [HV.out, H1.out]; (try simp)), by first | with_reducible assumption | exact below1 | exact below_set below1 | exact below_set (below_set below1) | exact below_set (below_set (below_set below1)) | exact below_set (by assumption)⟩
set_option maxHeartbeats 4000000 in
theorem valid5 (r d v : Int) (ks cs : List Int) (pk pc : Option Addr) (nk ck nc cc : Nat) (w : World) (hK : Cm w (.slice pk nk ck) ks) (hC : Cm w (.slice pc nc cc) cs) (hn : ks.length = nk) (hm : cs.length = nc) : Calls Tryz.prog 7 #[fv 5 r (.slice pk nk ck) d v (.slice pc nc cc)] w fun e w' => e = .returned (.bool (vf 5 r ks d v cs)) ∧ Below w.heap.size w w' := by
  have HK : Hid (∀ V, Below w.heap.size w V → Cm V (.slice pk nk ck) ks) := fun V h => hK.later h
  have HC : Hid (∀ V, Below w.heap.size w V → Cm V (.slice pc nc cc) cs) := fun V h => hC.later h
  have HV : Hid (vf 5 r ks d v cs = (cvb cs && nof r nk d v 0)) := by subst hn hm; rfl
  generalize vf 5 r ks d v cs = q at HV ⊢
  clear hK hC hn hm
  cases h0 : cvb cs
  · have H1 := Lib.hid h0
    clear h0
    go_enter Tryz.func7, Tryz.ntmps7
    go_wp2_with (first
          | (go_at_call 19; (with_reducible refine (within_any _ _ _ _).mono ?_); rintro e w' ⟨rfl, rfl⟩; (first | rw [H1.out]))
          | (go_at_call 20; (with_reducible refine (kernel_any ks r _ _ (HK.out _ below1) hr0 hr3).mono ?_); rintro e w' ⟨rfl, rfl⟩; (first | rw [H1.out]))
          | (go_at_call 21; (with_reducible refine (bcall (w0 := w) ?_ (Go.Proofs.YtbodmeiecdomfaaGreat.valid_any cs _ (cvb cs) _ (HC.out _ below1) (cvb_iff cs))).mono ?_); (focus (repeat' (first | with_reducible assumption | with_reducible exact below1 | with_reducible refine below_set ?_))); rintro e w' ⟨rfl, hb, hb'⟩; obtain ⟨hc, hf⟩ := bcell hb'; have hz0 : w.heap.size < w'.heap.size := (by have := hb'.size; (try simp at this); omega); (first | rw [H1.out]))
          | (go_at_call 22; (with_reducible refine (bcall (w0 := w) ?_ (nof_any _ _ _ _ _ _ _ _ _ _ _)).mono ?_); (focus (repeat' (first | with_reducible assumption | with_reducible exact below1 | with_reducible refine below_set ?_))); rintro e w' ⟨rfl, hb2, hb3⟩))
    go_ret
    exact ⟨ret_bool (by rw [HV.out, H1.out]; (try simp)), by first | with_reducible assumption | exact below1 | exact below_set below1 | exact below_set (below_set below1) | exact below_set (below_set (below_set below1)) | exact below_set (by assumption)⟩
  · have H1 := Lib.hid h0
    clear h0
    go_enter Tryz.func7, Tryz.ntmps7
    go_wp2_with (first
          | (go_at_call 19; (with_reducible refine (within_any _ _ _ _).mono ?_); rintro e w' ⟨rfl, rfl⟩; (first | rw [H1.out]))
          | (go_at_call 20; (with_reducible refine (kernel_any ks r _ _ (HK.out _ below1) hr0 hr3).mono ?_); rintro e w' ⟨rfl, rfl⟩; (first | rw [H1.out]))
          | (go_at_call 21; (with_reducible refine (bcall (w0 := w) ?_ (Go.Proofs.YtbodmeiecdomfaaGreat.valid_any cs _ (cvb cs) _ (HC.out _ below1) (cvb_iff cs))).mono ?_); (focus (repeat' (first | with_reducible assumption | with_reducible exact below1 | with_reducible refine below_set ?_))); rintro e w' ⟨rfl, hb, hb'⟩; obtain ⟨hc, hf⟩ := bcell hb'; have hz0 : w.heap.size < w'.heap.size := (by have := hb'.size; (try simp at this); omega); (first | rw [H1.out]))
          | (go_at_call 22; (with_reducible refine (bcall (w0 := w) ?_ (nof_any _ _ _ _ _ _ _ _ _ _ _)).mono ?_); (focus (repeat' (first | with_reducible assumption | with_reducible exact below1 | with_reducible refine below_set ?_))); rintro e w' ⟨rfl, hb2, hb3⟩))
    go_ret
    exact ⟨ret_bool (by rw [HV.out, H1.out]; (try simp)), by first | with_reducible assumption | exact below1 | exact below_set below1 | exact below_set (below_set below1) | exact below_set (below_set (below_set below1)) | exact below_set (by assumption)⟩
set_option maxHeartbeats 4000000 in
theorem valid6 (r d v : Int) (ks cs : List Int) (pk pc : Option Addr) (nk ck nc cc : Nat) (w : World) (hK : Cm w (.slice pk nk ck) ks) (hC : Cm w (.slice pc nc cc) cs) (hn : ks.length = nk) (hm : cs.length = nc) : Calls Tryz.prog 7 #[fv 6 r (.slice pk nk ck) d v (.slice pc nc cc)] w fun e w' => e = .returned (.bool (vf 6 r ks d v cs)) ∧ Below w.heap.size w w' := by
  have HK : Hid (∀ V, Below w.heap.size w V → Cm V (.slice pk nk ck) ks) := fun V h => hK.later h
  have HC : Hid (∀ V, Below w.heap.size w V → Cm V (.slice pc nc cc) cs) := fun V h => hC.later h
  have HV : Hid (vf 6 r ks d v cs = nof r nk d v nc) := by subst hn hm; rfl
  generalize vf 6 r ks d v cs = q at HV ⊢
  clear hK hC hn hm
  go_enter Tryz.func7, Tryz.ntmps7
  go_wp2_with (first
          | (go_at_call 19; (with_reducible refine (within_any _ _ _ _).mono ?_); rintro e w' ⟨rfl, rfl⟩; (first | skip))
          | (go_at_call 20; (with_reducible refine (kernel_any ks r _ _ (HK.out _ below1) hr0 hr3).mono ?_); rintro e w' ⟨rfl, rfl⟩; (first | skip))
          | (go_at_call 21; (with_reducible refine (bcall (w0 := w) ?_ (Go.Proofs.YtbodmeiecdomfaaGreat.valid_any cs _ (cvb cs) _ (HC.out _ below1) (cvb_iff cs))).mono ?_); (focus (repeat' (first | with_reducible assumption | with_reducible exact below1 | with_reducible refine below_set ?_))); rintro e w' ⟨rfl, hb, hb'⟩; obtain ⟨hc, hf⟩ := bcell hb'; have hz0 : w.heap.size < w'.heap.size := (by have := hb'.size; (try simp at this); omega); (first | skip))
          | (go_at_call 22; (with_reducible refine (bcall (w0 := w) ?_ (nof_any _ _ _ _ _ _ _ _ _ _ _)).mono ?_); (focus (repeat' (first | with_reducible assumption | with_reducible exact below1 | with_reducible refine below_set ?_))); rintro e w' ⟨rfl, hb2, hb3⟩))
  go_ret
  exact ⟨ret_bool (by rw [HV.out]; (try simp)), by first | with_reducible assumption | exact below1 | exact below_set below1 | exact below_set (below_set below1) | exact below_set (below_set (below_set below1)) | exact below_set (by assumption)⟩
set_option maxHeartbeats 4000000 in
theorem valid7 (r d v : Int) (ks cs : List Int) (pk pc : Option Addr) (nk ck nc cc : Nat) (w : World) (hK : Cm w (.slice pk nk ck) ks) (hC : Cm w (.slice pc nc cc) cs) (hn : ks.length = nk) (hm : cs.length = nc) : Calls Tryz.prog 7 #[fv 7 r (.slice pk nk ck) d v (.slice pc nc cc)] w fun e w' => e = .returned (.bool (vf 7 r ks d v cs)) ∧ Below w.heap.size w w' := by
  have HK : Hid (∀ V, Below w.heap.size w V → Cm V (.slice pk nk ck) ks) := fun V h => hK.later h
  have HC : Hid (∀ V, Below w.heap.size w V → Cm V (.slice pc nc cc) cs) := fun V h => hC.later h
  have HV : Hid (vf 7 r ks d v cs = (wi v 0 256 && nof r nk d 0 nc)) := by subst hn hm; rfl
  generalize vf 7 r ks d v cs = q at HV ⊢
  clear hK hC hn hm
  cases h0 : wi v 0 256
  · have H1 := Lib.hid h0
    clear h0
    go_enter Tryz.func7, Tryz.ntmps7
    go_wp2_with (first
          | (go_at_call 19; (with_reducible refine (within_any _ _ _ _).mono ?_); rintro e w' ⟨rfl, rfl⟩; (first | rw [H1.out]))
          | (go_at_call 20; (with_reducible refine (kernel_any ks r _ _ (HK.out _ below1) hr0 hr3).mono ?_); rintro e w' ⟨rfl, rfl⟩; (first | rw [H1.out]))
          | (go_at_call 21; (with_reducible refine (bcall (w0 := w) ?_ (Go.Proofs.YtbodmeiecdomfaaGreat.valid_any cs _ (cvb cs) _ (HC.out _ below1) (cvb_iff cs))).mono ?_); (focus (repeat' (first | with_reducible assumption | with_reducible exact below1 | with_reducible refine below_set ?_))); rintro e w' ⟨rfl, hb, hb'⟩; obtain ⟨hc, hf⟩ := bcell hb'; have hz0 : w.heap.size < w'.heap.size := (by have := hb'.size; (try simp at this); omega); (first | rw [H1.out]))
          | (go_at_call 22; (with_reducible refine (bcall (w0 := w) ?_ (nof_any _ _ _ _ _ _ _ _ _ _ _)).mono ?_); (focus (repeat' (first | with_reducible assumption | with_reducible exact below1 | with_reducible refine below_set ?_))); rintro e w' ⟨rfl, hb2, hb3⟩))
    go_ret
    exact ⟨ret_bool (by rw [HV.out, H1.out]; (try simp)), by first | with_reducible assumption | exact below1 | exact below_set below1 | exact below_set (below_set below1) | exact below_set (below_set (below_set below1)) | exact below_set (by assumption)⟩
  · have H1 := Lib.hid h0
    clear h0
    go_enter Tryz.func7, Tryz.ntmps7
    go_wp2_with (first
          | (go_at_call 19; (with_reducible refine (within_any _ _ _ _).mono ?_); rintro e w' ⟨rfl, rfl⟩; (first | rw [H1.out]))
          | (go_at_call 20; (with_reducible refine (kernel_any ks r _ _ (HK.out _ below1) hr0 hr3).mono ?_); rintro e w' ⟨rfl, rfl⟩; (first | rw [H1.out]))
          | (go_at_call 21; (with_reducible refine (bcall (w0 := w) ?_ (Go.Proofs.YtbodmeiecdomfaaGreat.valid_any cs _ (cvb cs) _ (HC.out _ below1) (cvb_iff cs))).mono ?_); (focus (repeat' (first | with_reducible assumption | with_reducible exact below1 | with_reducible refine below_set ?_))); rintro e w' ⟨rfl, hb, hb'⟩; obtain ⟨hc, hf⟩ := bcell hb'; have hz0 : w.heap.size < w'.heap.size := (by have := hb'.size; (try simp at this); omega); (first | rw [H1.out]))
          | (go_at_call 22; (with_reducible refine (bcall (w0 := w) ?_ (nof_any _ _ _ _ _ _ _ _ _ _ _)).mono ?_); (focus (repeat' (first | with_reducible assumption | with_reducible exact below1 | with_reducible refine below_set ?_))); rintro e w' ⟨rfl, hb2, hb3⟩))
    go_ret
    exact ⟨ret_bool (by rw [HV.out, H1.out]; (try simp)), by first | with_reducible assumption | exact below1 | exact below_set below1 | exact below_set (below_set below1) | exact below_set (below_set (below_set below1)) | exact below_set (by assumption)⟩
set_option maxHeartbeats 4000000 in
theorem valid8 (r d v : Int) (ks cs : List Int) (pk pc : Option Addr) (nk ck nc cc : Nat) (w : World) (hK : Cm w (.slice pk nk ck) ks) (hC : Cm w (.slice pc nc cc) cs) (hn : ks.length = nk) (hm : cs.length = nc) : Calls Tryz.prog 7 #[fv 8 r (.slice pk nk ck) d v (.slice pc nc cc)] w fun e w' => e = .returned (.bool (vf 8 r ks d v cs)) ∧ Below w.heap.size w w' := by
  have HK : Hid (∀ V, Below w.heap.size w V → Cm V (.slice pk nk ck) ks) := fun V h => hK.later h
  have HC : Hid (∀ V, Below w.heap.size w V → Cm V (.slice pc nc cc) cs) := fun V h => hC.later h
  have HV : Hid (vf 8 r ks d v cs = ((wi r (-3) 3 && wi v (-3) 3) && nof 0 nk d 0 nc)) := by subst hn hm; rfl
  generalize vf 8 r ks d v cs = q at HV ⊢
  clear hK hC hn hm
  cases h0 : wi r (-3) 3
  · have H1 := Lib.hid h0
    clear h0
    go_enter Tryz.func7, Tryz.ntmps7
    go_wp2_with (first
          | (go_at_call 19; (with_reducible refine (within_any _ _ _ _).mono ?_); rintro e w' ⟨rfl, rfl⟩; (first | rw [H1.out]))
          | (go_at_call 20; (with_reducible refine (kernel_any ks r _ _ (HK.out _ below1) hr0 hr3).mono ?_); rintro e w' ⟨rfl, rfl⟩; (first | rw [H1.out]))
          | (go_at_call 21; (with_reducible refine (bcall (w0 := w) ?_ (Go.Proofs.YtbodmeiecdomfaaGreat.valid_any cs _ (cvb cs) _ (HC.out _ below1) (cvb_iff cs))).mono ?_); (focus (repeat' (first | with_reducible assumption | with_reducible exact below1 | with_reducible refine below_set ?_))); rintro e w' ⟨rfl, hb, hb'⟩; obtain ⟨hc, hf⟩ := bcell hb'; have hz0 : w.heap.size < w'.heap.size := (by have := hb'.size; (try simp at this); omega); (first | rw [H1.out]))
          | (go_at_call 22; (with_reducible refine (bcall (w0 := w) ?_ (nof_any _ _ _ _ _ _ _ _ _ _ _)).mono ?_); (focus (repeat' (first | with_reducible assumption | with_reducible exact below1 | with_reducible refine below_set ?_))); rintro e w' ⟨rfl, hb2, hb3⟩))
    go_ret
    exact ⟨ret_bool (by rw [HV.out, H1.out]; (try simp)), by first | with_reducible assumption | exact below1 | exact below_set below1 | exact below_set (below_set below1) | exact below_set (below_set (below_set below1)) | exact below_set (by assumption)⟩
  · have H1 := Lib.hid h0
    clear h0
    cases h1 : wi v (-3) 3
    · have H2 := Lib.hid h1
      clear h1
      go_enter Tryz.func7, Tryz.ntmps7
      go_wp2_with (first
          | (go_at_call 19; (with_reducible refine (within_any _ _ _ _).mono ?_); rintro e w' ⟨rfl, rfl⟩; (first | rw [H1.out] | rw [H2.out]))
          | (go_at_call 20; (with_reducible refine (kernel_any ks r _ _ (HK.out _ below1) hr0 hr3).mono ?_); rintro e w' ⟨rfl, rfl⟩; (first | rw [H1.out] | rw [H2.out]))
          | (go_at_call 21; (with_reducible refine (bcall (w0 := w) ?_ (Go.Proofs.YtbodmeiecdomfaaGreat.valid_any cs _ (cvb cs) _ (HC.out _ below1) (cvb_iff cs))).mono ?_); (focus (repeat' (first | with_reducible assumption | with_reducible exact below1 | with_reducible refine below_set ?_))); rintro e w' ⟨rfl, hb, hb'⟩; obtain ⟨hc, hf⟩ := bcell hb'; have hz0 : w.heap.size < w'.heap.size := (by have := hb'.size; (try simp at this); omega); (first | rw [H1.out] | rw [H2.out]))
          | (go_at_call 22; (with_reducible refine (bcall (w0 := w) ?_ (nof_any _ _ _ _ _ _ _ _ _ _ _)).mono ?_); (focus (repeat' (first | with_reducible assumption | with_reducible exact below1 | with_reducible refine below_set ?_))); rintro e w' ⟨rfl, hb2, hb3⟩))
      go_ret
      exact ⟨ret_bool (by rw [HV.out, H1.out, H2.out]; (try simp)), by first | with_reducible assumption | exact below1 | exact below_set below1 | exact below_set (below_set below1) | exact below_set (below_set (below_set below1)) | exact below_set (by assumption)⟩
    · have H2 := Lib.hid h1
      clear h1
      go_enter Tryz.func7, Tryz.ntmps7
      go_wp2_with (first
          | (go_at_call 19; (with_reducible refine (within_any _ _ _ _).mono ?_); rintro e w' ⟨rfl, rfl⟩; (first | rw [H1.out] | rw [H2.out]))
          | (go_at_call 20; (with_reducible refine (kernel_any ks r _ _ (HK.out _ below1) hr0 hr3).mono ?_); rintro e w' ⟨rfl, rfl⟩; (first | rw [H1.out] | rw [H2.out]))
          | (go_at_call 21; (with_reducible refine (bcall (w0 := w) ?_ (Go.Proofs.YtbodmeiecdomfaaGreat.valid_any cs _ (cvb cs) _ (HC.out _ below1) (cvb_iff cs))).mono ?_); (focus (repeat' (first | with_reducible assumption | with_reducible exact below1 | with_reducible refine below_set ?_))); rintro e w' ⟨rfl, hb, hb'⟩; obtain ⟨hc, hf⟩ := bcell hb'; have hz0 : w.heap.size < w'.heap.size := (by have := hb'.size; (try simp at this); omega); (first | rw [H1.out] | rw [H2.out]))
          | (go_at_call 22; (with_reducible refine (bcall (w0 := w) ?_ (nof_any _ _ _ _ _ _ _ _ _ _ _)).mono ?_); (focus (repeat' (first | with_reducible assumption | with_reducible exact below1 | with_reducible refine below_set ?_))); rintro e w' ⟨rfl, hb2, hb3⟩))
      go_ret
      exact ⟨ret_bool (by rw [HV.out, H1.out, H2.out]; (try simp)), by first | with_reducible assumption | exact below1 | exact below_set below1 | exact below_set (below_set below1) | exact below_set (below_set (below_set below1)) | exact below_set (by assumption)⟩
set_option maxHeartbeats 4000000 in
theorem validNone (k : Int) (r d v : Int) (ks cs : List Int) (pk pc : Option Addr) (nk ck nc cc : Nat) (w : World) (h1 : k ≠ 1) (h2 : k ≠ 2) (h3 : k ≠ 3) (h4 : k ≠ 4) (h5 : k ≠ 5) (h6 : k ≠ 6) (h7 : k ≠ 7) (h8 : k ≠ 8) : Calls Tryz.prog 7 #[fv k r (.slice pk nk ck) d v (.slice pc nc cc)] w fun e w' => e = .returned (.bool (vf k r ks d v cs)) ∧ Below w.heap.size w w' := by
  rw [vf_other h1 h2 h3 h4 h5 h6 h7 h8]
  replace h1 := beq_no h1
  replace h2 := beq_no h2
  replace h3 := beq_no h3
  replace h4 := beq_no h4
  replace h5 := beq_no h5
  replace h6 := beq_no h6
  replace h7 := beq_no h7
  replace h8 := beq_no h8
  go_enter Tryz.func7, Tryz.ntmps7
  go_wp2
  all_goals go_ret
  all_goals exact ⟨rfl, below1⟩
theorem fvalid_any (k r d v : Int) (ks cs : List Int) (K C : Value) (w : World) (hK : Cm w K ks) (hC : Cm w C cs) : Calls Tryz.prog 7 #[fv k r K d v C] w fun e w' => e = .returned (.bool (vf k r ks d v cs)) ∧ Below w.heap.size w w' := by
  obtain ⟨pk, ck, rfl, a1, a2, a3⟩ := hK
  obtain ⟨pc, cc, rfl, b1, b2, b3⟩ := hC
  have hK : Cm w (.slice pk ks.length ck) ks := ⟨pk, ck, rfl, a1, a2, a3⟩
  have hC : Cm w (.slice pc cs.length cc) cs := ⟨pc, cc, rfl, b1, b2, b3⟩

  by_cases h1 : k = 1
  · subst h1; exact valid1 r d v ks cs pk pc _ ck _ cc w hK hC rfl rfl
  by_cases h2 : k = 2
  · subst h2; exact valid2 r d v ks cs pk pc _ ck _ cc w hK hC rfl rfl
  by_cases h3 : k = 3
  · subst h3; exact valid3 r d v ks cs pk pc _ ck _ cc w hK hC rfl rfl
  by_cases h4 : k = 4
  · subst h4; exact valid4 r d v ks cs pk pc _ ck _ cc w hK hC rfl rfl
  by_cases h5 : k = 5
  · subst h5; exact valid5 r d v ks cs pk pc _ ck _ cc w hK hC rfl rfl
  by_cases h6 : k = 6
  · subst h6; exact valid6 r d v ks cs pk pc _ ck _ cc w hK hC rfl rfl
  by_cases h7 : k = 7
  · subst h7; exact valid7 r d v ks cs pk pc _ ck _ cc w hK hC rfl rfl
  by_cases h8 : k = 8
  · subst h8; exact valid8 r d v ks cs pk pc _ ck _ cc w hK hC rfl rfl
  exact validNone k r d v ks cs pk pc _ ck _ cc w h1 h2 h3 h4 h5 h6 h7 h8
end Go.Proofs.YtbodmeiecdomfaaGreat.W
