/-
  Whether a placement is valid: of affine and of the reference.
-/
import Derived.Test.YtgipfcpkphmbpaaAMath
namespace Go.Proofs.Ytgipfcpkphmbpaa.F
open Go.RowKit
set_option maxRecDepth 100000

/-- the cells of block b hold the numbers l -/
def Hd (w : World) (b : Nat) (l : List Int) : Prop := ∀ i, i < l.length → w.cell? ⟨b, i, none⟩ = some (.int .i64 (l.getD i 0))
def wthI (lim v : Int) : Bool := decide (-lim ≤ v ∧ v ≤ lim)
def allW (lim : Int) (l : List Int) : Bool := l.all (wthI lim)

set_option maxHeartbeats 2000000 in
theorem allWithin_any (lim : Int) (l : List Int) (n b : Nat) (w : World) (hn : l.length = n) (hm : n ≤ 1000) (h0 : 0 ≤ lim) (h1 : lim ≤ 1000000000) (hr : Hd w b l) (s : Bool) (hs : s = allW lim l) :
    Calls Try.prog 42 #[.int .i64 lim, .slice (some ⟨b, 0, none⟩) n n] w fun e w' => e = .returned (.bool s) ∧ w = w' := by
  have HN := Lib.hid hn; clear hn
  have HR := Lib.hid hr; clear hr
  have HQ := Lib.hid hs; clear hs
  have hl : wrap64 (-lim) = -lim := w64 ⟨by omega, by omega⟩
  go_enter Try.func42, Try.ntmps42
  go_wp2
  go_loopw [9] (fun i wr => ∃ k : Nat, k ≤ n ∧ i = .int .i64 k ∧ Hid (allW lim (l.take k) = true) ∧ wr = w) (fun i _ => n - (intOf i).toNat)
  case atStart => exact ⟨0, by omega, rfl, rfl, rfl⟩
  case round =>
    obtain ⟨k, hk, rfl, HA, rfl⟩ := hrel
    by_cases h : k < n
    · have c1 := HR.out k (by rw [HN.out]; omega)
      have hk' : (k : Int) < n := by omega
      have HS : Hid (l.take (k + 1) = l.take k ++ [l.getD k 0]) := by
        have : k < l.length := by rw [HN.out]; exact h
        show _ = _; rw [List.take_add_one, List.getElem?_eq_getElem this]
        simp [List.getD, this]
      have HF : Hid (wthI lim (l.getD k 0) = false → s = false) := fun hh => by
        have : k < l.length := by rw [HN.out]; exact h
        rw [HQ.out]
        refine List.all_eq_false.2 ⟨l.getD k 0, ?_, by rw [hh]; simp⟩
        simp [List.getD, this]
      have HT : Hid (wthI lim (l.getD k 0) = true → allW lim (l.take (k + 1)) = true) := fun hh => by
        have h9 := HA.out
        rw [HS.out]; unfold allW at h9 ⊢; rw [List.all_append, h9]; show (_ && (_ && _)) = _; rw [hh]; rfl
      generalize l.getD k 0 = x at c1 HF HT HS
      go_wp2_with fail
      case roundEnd => exact ⟨⟨k + 1, by omega, by simp, HT.out (by unfold wthI; simp; omega), trivial⟩, by simp [intOf]; omega⟩
      all_goals
        obtain rfl : s = false := HF.out (by unfold wthI; simp; omega)
        go_ret
        exact ⟨rfl, rfl⟩
    · obtain rfl : k = n := by omega
      obtain rfl : s = true := by have := HA.out; rw [← HN.out, List.take_length] at this; rw [HQ.out, this]
      go_wp2
      go_ret
      exact ⟨rfl, rfl⟩

def detw (a b d e : Int) : Int := wrap64 (wrap64 (a * e) - wrap64 (b * d))
theorem detw_eq {x : Af} (h : Bd x) : detw x.a x.b x.d x.e = det x := by
  obtain ⟨_, ha, hb, hd, he, _, _⟩ := h
  have h1 := mul_le_of ha he
  have h2 := mul_le_of hb hd
  unfold detw det
  generalize x.a * x.e = p at *
  generalize x.b * x.d = q at *
  rw [w64 (x := p) ⟨by omega, by omega⟩, w64 (x := q) ⟨by omega, by omega⟩, w64 ⟨by omega, by omega⟩]
theorem det_any (a b c d e f n : Int) (w : World) : Calls Try.prog 43 #[av a b c d e f n] w fun e' w' => e' = .returned (.int .i64 (detw a b d e)) ∧ Below w.heap.size w w' := by
  go_enter Try.func43, Try.ntmps43
  go_wp2
  go_ret
  exact ⟨rfl, below1⟩
theorem refDet_any (a b c d e f n : Int) (w : World) : Calls Try.prog 36 #[av a b c d e f n] w fun e' w' => e' = .returned (.int .i64 (detw a b d e)) ∧ Below w.heap.size w w' := by
  go_enter Try.func36, Try.ntmps36
  go_wp2
  go_ret
  exact ⟨rfl, below1⟩
theorem within_any (v lim : Int) (w : World) (h0 : 0 ≤ lim) (h1 : lim ≤ 1000000000) : Calls Try.prog 44 #[.int .i64 v, .int .i64 lim] w fun e' w' => e' = .returned (.bool (wthI lim v)) ∧ w = w' := by
  have hl : wrap64 (-lim) = -lim := w64 ⟨by omega, by omega⟩
  have hl2 : wrap64 (0 - lim) = -lim := by rw [Int.zero_sub]; exact hl
  go_enter Try.func44, Try.ntmps44
  go_wp2
  all_goals go_ret
  all_goals exact ⟨ret_bool (by first | (simp [wthI, *]; done) | (simp [wthI, *]; omega)), rfl⟩
theorem heap_new (w : World) (o : Obj) : (w.alloc o).heap[w.heap.size]? = some o := heap_alloc_new w o
theorem all4 (lim x0 x1 x2 x3 : Int) (b : Nat) (w : World) (h0 : 0 ≤ lim) (h1 : lim ≤ 1000000000) (hb : w.heap[b]? = some (.cells #[.int .i64 x0, .int .i64 x1, .int .i64 x2, .int .i64 x3] 3)) :
    Calls Try.prog 42 #[.int .i64 lim, .slice (some ⟨b, 0, none⟩) 4 4] w fun e w' => e = .returned (.bool (allW lim [x0, x1, x2, x3])) ∧ w = w' :=
  allWithin_any lim [x0, x1, x2, x3] 4 b w rfl (by omega) h0 h1 (fun i hi => by
    rw [cell_of_row _ _ i _ _ _ hb]
    match i, hi with
    | 0, _ => rfl
    | 1, _ => rfl
    | 2, _ => rfl
    | 3, _ => rfl) _ rfl
theorem all2 (lim x0 x1 : Int) (b : Nat) (w : World) (h0 : 0 ≤ lim) (h1 : lim ≤ 1000000000) (hb : w.heap[b]? = some (.cells #[.int .i64 x0, .int .i64 x1] 3)) :
    Calls Try.prog 42 #[.int .i64 lim, .slice (some ⟨b, 0, none⟩) 2 2] w fun e w' => e = .returned (.bool (allW lim [x0, x1])) ∧ w = w' :=
  allWithin_any lim [x0, x1] 2 b w rfl (by omega) h0 h1 (fun i hi => by
    rw [cell_of_row _ _ i _ _ _ hb]
    match i, hi with
    | 0, _ => rfl
    | 1, _ => rfl) _ rfl

theorem heap_new1 (w : World) (o p : Obj) : ((w.alloc o).alloc p).heap[w.heap.size + 1]? = some p := by
  have := heap_new (w.alloc o) p; rw [World.size_alloc] at this; exact this
/-- the seven cells of a placement in memory -/
abbrev AB (w : World) (b : Nat) (a b' c d e f n : Int) : Prop :=
  w.cell? ⟨b, 0, none⟩ = some (.int .i64 a) ∧ w.cell? ⟨b, 1, none⟩ = some (.int .i64 b') ∧ w.cell? ⟨b, 2, none⟩ = some (.int .i64 c) ∧ w.cell? ⟨b, 3, none⟩ = some (.int .i64 d) ∧ w.cell? ⟨b, 4, none⟩ = some (.int .i64 e) ∧ w.cell? ⟨b, 5, none⟩ = some (.int .i64 f) ∧ w.cell? ⟨b, 6, none⟩ = some (.int .i64 n)
theorem St.aff {W w : World} {L : List (Nat × Obj)} (h : St W L w) {b : Nat} {a b' c d e f n : Int} (hm : (b, ao a b' c d e f n) ∈ L) : AB w b a b' c d e f n :=
  ⟨h.cell hm 0, h.cell hm 1, h.cell hm 2, h.cell hm 3, h.cell hm 4, h.cell hm 5, h.cell hm 6⟩

theorem wthI_iff (lim v : Int) : wthI lim v = true ↔ (-lim ≤ v ∧ v ≤ lim) := by unfold wthI; simp
theorem okA_eq (a b c d e f n : Int) : okA ⟨a, b, c, d, e, f, n⟩ = (decide (1 ≤ n) && decide (n ≤ 4096) && allW 4096 [a, b, d, e] && allW 268435456 [c, f] && (detw a b d e != 0)) := by
  rw [Bool.eq_iff_iff, okA_iff]
  have h4 : allW 4096 [a, b, d, e] = (wthI 4096 a && (wthI 4096 b && (wthI 4096 d && (wthI 4096 e && true)))) := rfl
  have h2 : allW 268435456 [c, f] = (wthI 268435456 c && (wthI 268435456 f && true)) := rfl
  rw [h4, h2]
  simp only [Bool.and_eq_true, wthI_iff, decide_eq_true_eq, bne_iff_ne]
  constructor
  · intro ⟨h, h0⟩
    have hd := detw_eq h
    simp only at hd
    rw [hd]
    obtain ⟨hn, ha, hb, hd, he, hc, hf⟩ := h
    exact ⟨⟨⟨hn, ha, hb, hd, he, trivial⟩, hc, hf, trivial⟩, h0⟩
  · rintro ⟨⟨⟨hn, ha, hb, hd, he, _⟩, hc, hf, _⟩, h0⟩
    have h : Bd ⟨a, b, c, d, e, f, n⟩ := ⟨hn, ha, hb, hd, he, hc, hf⟩
    have hd := detw_eq h
    simp only at hd
    rw [hd] at h0
    exact ⟨h, h0⟩
set_option maxHeartbeats 2000000 in
theorem valid_any (a b c d e f n : Int) (w : World) : Calls Try.prog 16 #[av a b c d e f n] w fun e' w' => e' = .returned (.bool (okA ⟨a, b, c, d, e, f, n⟩)) ∧ Below w.heap.size w w' := by
  go_enter Try.func16, Try.ntmps16
  go_upto_region 1 with fail
  have hs := (St.start w).alloc (ao a b c d e f n)
  generalize w.heap.size = b0 at hs ⊢
  generalize w.alloc (ao a b c d e f n) = w1 at hs ⊢
  obtain ⟨a0, a1, a2, a3, a4, a5, a6⟩ := St.aff hs (b := b0) (a := a) (b' := b) (c := c) (d := d) (e := e) (f := f) (n := n) (by simp)
  have hz := hs.lt (b := b0) (o := ao a b c d e f n) (by simp)
  have HB := Lib.hid hs.below
  clear hs
  go_wp2_with (first
    | (go_at_call 42; (with_reducible refine (all4 _ _ _ _ _ _ _ ?_ ?_ (heap_new _ _)).mono ?_); (focus omega); (focus omega); rintro e w' ⟨rfl, rfl⟩)
    | (go_at_call 42; (with_reducible refine (all2 _ _ _ _ _ ?_ ?_ (heap_new1 _ _ _)).mono ?_); (focus omega); (focus omega); rintro e w' ⟨rfl, rfl⟩)
    | (go_at_call 43; (with_reducible refine (Below.call (w0 := w) ?_ (det_any _ _ _ _ _ _ _ _)).mono ?_); (focus exact (HB.out.alloc (by have := HB.out.size; omega) _).alloc (by have := HB.out.size; simp; omega) _); rintro e w' ⟨rfl, hb, hb'⟩))
  all_goals go_ret
  all_goals refine ⟨ret_bool (by rw [okA_eq]; first | (simp [*]; done) | (simp [*]; omega)), ?_⟩
  all_goals first | with_reducible assumption | exact HB.out | exact HB.out.alloc (by have := HB.out.size; omega) _ | exact (HB.out.alloc (by have := HB.out.size; omega) _).alloc (by have := HB.out.size; simp; omega) _

set_option maxHeartbeats 2000000 in
theorem refOk_any (a b c d e f n : Int) (w : World) : Calls Try.prog 17 #[av a b c d e f n] w fun e' w' => e' = .returned (.bool (okA ⟨a, b, c, d, e, f, n⟩)) ∧ Below w.heap.size w w' := by
  go_enter Try.func17, Try.ntmps17
  go_upto_region 1 with fail
  have hs := (St.start w).alloc (ao a b c d e f n)
  generalize w.heap.size = b0 at hs ⊢
  generalize w.alloc (ao a b c d e f n) = w1 at hs ⊢
  obtain ⟨a0, a1, a2, a3, a4, a5, a6⟩ := St.aff hs (b := b0) (a := a) (b' := b) (c := c) (d := d) (e := e) (f := f) (n := n) (by simp)
  have HB := Lib.hid hs.below
  clear hs
  generalize hwa : wthI 4096 a = wa
  generalize hwb : wthI 4096 b = wb
  generalize hwd : wthI 4096 d = wd
  generalize hwe : wthI 4096 e = we
  generalize hwc : wthI 268435456 c = wc
  generalize hwf : wthI 268435456 f = wf
  go_wp2_with (first
    | (go_at_call 44; (with_reducible refine (within_any _ _ _ ?_ ?_).mono ?_); (focus omega); (focus omega); rintro e w' ⟨rfl, rfl⟩)
    | (go_at_call 36; (with_reducible refine (Below.call (w0 := w) ?_ (refDet_any _ _ _ _ _ _ _ _)).mono ?_); (focus exact HB.out); rintro e w' ⟨rfl, hb, hb'⟩))
  all_goals go_ret
  all_goals refine ⟨ret_bool (by rw [okA_eq]; first | (simp [allW, *]; done) | (simp [allW, *]; omega)), ?_⟩
  all_goals first | with_reducible assumption | exact HB.out
end Go.Proofs.Ytgipfcpkphmbpaa.F
