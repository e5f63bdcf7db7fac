/-
  Source of the reference.
-/
import Derived.Test.YtgipfcpkphmbpaaASmp
import Derived.Test.YtgipfcpkphmbpaaARSrc
namespace Go.Proofs.Ytgipfcpkphmbpaa.F
open Go.RowKit
set_option maxRecDepth 100000

theorem below_set3 {n b : Nat} {w w' : World} (h : Below n w w') (hb : n ≤ b) (x0 x1 x2 : Value) :
    Below n w (((w'.setCell ⟨b, 0, none⟩ x0).setCell ⟨b, 1, none⟩ x1).setCell ⟨b, 2, none⟩ x2) :=
  (below_set2 h hb x0 x1).setCell (p := ⟨b, 2, none⟩) hb _
theorem below_set5 {n b : Nat} {w w' : World} (h : Below n w w') (hb : n ≤ b) (x0 x1 x2 x3 x4 : Value) :
    Below n w (((((w'.setCell ⟨b, 0, none⟩ x0).setCell ⟨b, 1, none⟩ x1).setCell ⟨b, 2, none⟩ x2).setCell ⟨b, 3, none⟩ x3).setCell ⟨b, 4, none⟩ x4) :=
  (below_set4 h hb x0 x1 x2 x3).setCell (p := ⟨b, 4, none⟩) hb _
abbrev p3o (x y e : Int) : Obj := .cells #[.int .i64 x, .int .i64 y, .int .i64 e] 63
abbrev b5o (a b c d e : Int) : Obj := .cells #[.int .i64 a, .int .i64 b, .int .i64 c, .int .i64 d, .int .i64 e] 66
set_option maxHeartbeats 4000000 in
theorem refSourceT_any (p0 p1 p2 p3 p4 p5 p6 x y : Int) (w : World) : Calls Try.prog 33 #[av p0 p1 p2 p3 p4 p5 p6, .int .i64 x, .int .i64 y] w fun en w' => en = .returned (srcT ⟨p0, p1, p2, p3, p4, p5, p6⟩ x y).r ∧ Below w.heap.size w w' := by
  have HV : Hid (∀ W, Calls Try.prog 17 #[av p0 p1 p2 p3 p4 p5 p6] W fun en w' => en = .returned ((.bool (okA ⟨p0, p1, p2, p3, p4, p5, p6⟩))) ∧ Below W.heap.size W w') := fun W => refOk_any p0 p1 p2 p3 p4 p5 p6 W
  have HS : Hid ((okA ⟨p0, p1, p2, p3, p4, p5, p6⟩ && inC x y) = true → ∀ W, Calls Try.prog 62 #[av p0 p1 p2 p3 p4 p5 p6, .int .i64 x, .int .i64 y] W fun en w' => en = .returned (tv (sx ⟨p0, p1, p2, p3, p4, p5, p6⟩ x y) (sy ⟨p0, p1, p2, p3, p4, p5, p6⟩ x y)) ∧ Below W.heap.size W w') := fun h W => by
    rw [Bool.and_eq_true] at h
    have hc := inC_cb h.2
    exact refSource0_any p0 p1 p2 p3 p4 p5 p6 x y W ((okA_iff _).1 h.1) hc.1 hc.2
  have HI : Hid (inC x y = true ↔ (-65536 ≤ x ∧ x < 65536 ∧ -65536 ≤ y ∧ y < 65536)) := has_iff _ _ _ _ _ _
  unfold srcT
  generalize sx ⟨p0, p1, p2, p3, p4, p5, p6⟩ x y = rx at HS ⊢
  generalize sy ⟨p0, p1, p2, p3, p4, p5, p6⟩ x y = ry at HS ⊢
  generalize okA ⟨p0, p1, p2, p3, p4, p5, p6⟩ = s1 at HV HS ⊢
  generalize inC x y = s2 at HI HS ⊢
  cases s1
  · go_enter Try.func33, Try.ntmps33
    go_upto_region 1 with fail
    have hs := ((St.start w).alloc (ao p0 p1 p2 p3 p4 p5 p6)).alloc (p3o 0 0 0)
    simp only [World.size_alloc] at hs
    generalize hb0 : w.heap.size = b0 at hs ⊢
    generalize (w.alloc (ao p0 p1 p2 p3 p4 p5 p6)).alloc (p3o 0 0 0) = w1 at hs ⊢
    obtain ⟨_, _, _, _, _, _, _⟩ := St.aff hs (b := b0) (a := p0) (b' := p1) (c := p2) (d := p3) (e := p4) (f := p5) (n := p6) (by simp)
    go_wp2_with (first | (go_at_call 17; (with_reducible refine (St.call hs (HV.out _)).mono ?_); rintro en w2 ⟨rfl, h2⟩; obtain ⟨_, _, _, _, _, _, _⟩ := St.aff h2 (b := b0) (a := p0) (b' := p1) (c := p2) (d := p3) (e := p4) (f := p5) (n := p6) (by simp); have := h2.cell (b := b0 + 1) (cs := #[.int .i64 0, .int .i64 0, .int .i64 0]) (t := 63) (by simp) 0; simp only [List.getElem?_toArray, List.getElem?_cons_zero] at this; have := h2.cell (b := b0 + 1) (cs := #[.int .i64 0, .int .i64 0, .int .i64 0]) (t := 63) (by simp) 1; simp only [List.getElem?_toArray, List.getElem?_cons_zero, List.getElem?_cons_succ] at this; have := h2.cell (b := b0 + 1) (cs := #[.int .i64 0, .int .i64 0, .int .i64 0]) (t := 63) (by simp) 2; simp only [List.getElem?_toArray, List.getElem?_cons_zero, List.getElem?_cons_succ] at this; have : ∀ j, _ = false := h2.frozen (b := b0 + 1) (cs := #[.int .i64 0, .int .i64 0, .int .i64 0]) (t := 63) (by simp)))
    subst hb0; exact bodyPost_ret (v := .agg #[.int .i64 0, .int .i64 0, .int .i64 1]) (by simp [results, Try.results33, go_sem, *]) rfl ⟨rfl, below_set3 h2.below (by omega) _ _ _⟩
  cases s2
  · have hi : ¬ (-65536 ≤ x ∧ x < 65536 ∧ -65536 ≤ y ∧ y < 65536) := fun h => by have := HI.out.2 h; cases this
    go_enter Try.func33, Try.ntmps33
    go_upto_region 1 with fail
    have hs := ((St.start w).alloc (ao p0 p1 p2 p3 p4 p5 p6)).alloc (p3o 0 0 0)
    simp only [World.size_alloc] at hs
    generalize hb0 : w.heap.size = b0 at hs ⊢
    generalize (w.alloc (ao p0 p1 p2 p3 p4 p5 p6)).alloc (p3o 0 0 0) = w1 at hs ⊢
    obtain ⟨_, _, _, _, _, _, _⟩ := St.aff hs (b := b0) (a := p0) (b' := p1) (c := p2) (d := p3) (e := p4) (f := p5) (n := p6) (by simp)
    go_wp2_with (first | (go_at_call 17; (with_reducible refine (St.call hs (HV.out _)).mono ?_); rintro en w2 ⟨rfl, h2⟩; obtain ⟨_, _, _, _, _, _, _⟩ := St.aff h2 (b := b0) (a := p0) (b' := p1) (c := p2) (d := p3) (e := p4) (f := p5) (n := p6) (by simp); have := h2.cell (b := b0 + 1) (cs := #[.int .i64 0, .int .i64 0, .int .i64 0]) (t := 63) (by simp) 0; simp only [List.getElem?_toArray, List.getElem?_cons_zero] at this; have := h2.cell (b := b0 + 1) (cs := #[.int .i64 0, .int .i64 0, .int .i64 0]) (t := 63) (by simp) 1; simp only [List.getElem?_toArray, List.getElem?_cons_zero, List.getElem?_cons_succ] at this; have := h2.cell (b := b0 + 1) (cs := #[.int .i64 0, .int .i64 0, .int .i64 0]) (t := 63) (by simp) 2; simp only [List.getElem?_toArray, List.getElem?_cons_zero, List.getElem?_cons_succ] at this; have : ∀ j, _ = false := h2.frozen (b := b0 + 1) (cs := #[.int .i64 0, .int .i64 0, .int .i64 0]) (t := 63) (by simp)))
    all_goals first | (exfalso; omega) | (subst hb0; exact bodyPost_ret (v := .agg #[.int .i64 0, .int .i64 0, .int .i64 1]) (by simp [results, Try.results33, go_sem, *]) rfl ⟨rfl, below_set3 h2.below (by omega) _ _ _⟩)
  obtain ⟨i0, i1, i2, i3⟩ := HI.out.1 rfl
  have HS2 := Lib.hid (HS.out rfl)
  clear HS HI
  go_enter Try.func33, Try.ntmps33
  go_upto_region 1 with fail
  have hs := ((St.start w).alloc (ao p0 p1 p2 p3 p4 p5 p6)).alloc (p3o 0 0 0)
  simp only [World.size_alloc] at hs
  generalize hb0 : w.heap.size = b0 at hs ⊢
  generalize (w.alloc (ao p0 p1 p2 p3 p4 p5 p6)).alloc (p3o 0 0 0) = w1 at hs ⊢
  obtain ⟨_, _, _, _, _, _, _⟩ := St.aff hs (b := b0) (a := p0) (b' := p1) (c := p2) (d := p3) (e := p4) (f := p5) (n := p6) (by simp)
  go_wp2_with (first | (go_at_call 17; (with_reducible refine (St.call hs (HV.out _)).mono ?_); rintro en w2 ⟨rfl, h2⟩; obtain ⟨_, _, _, _, _, _, _⟩ := St.aff h2 (b := b0) (a := p0) (b' := p1) (c := p2) (d := p3) (e := p4) (f := p5) (n := p6) (by simp); have := h2.cell (b := b0 + 1) (cs := #[.int .i64 0, .int .i64 0, .int .i64 0]) (t := 63) (by simp) 0; simp only [List.getElem?_toArray, List.getElem?_cons_zero] at this; have := h2.cell (b := b0 + 1) (cs := #[.int .i64 0, .int .i64 0, .int .i64 0]) (t := 63) (by simp) 1; simp only [List.getElem?_toArray, List.getElem?_cons_zero, List.getElem?_cons_succ] at this; have := h2.cell (b := b0 + 1) (cs := #[.int .i64 0, .int .i64 0, .int .i64 0]) (t := 63) (by simp) 2; simp only [List.getElem?_toArray, List.getElem?_cons_zero, List.getElem?_cons_succ] at this; have : ∀ j, _ = false := h2.frozen (b := b0 + 1) (cs := #[.int .i64 0, .int .i64 0, .int .i64 0]) (t := 63) (by simp)) | (go_at_call 62; (with_reducible refine (St.call h2 (HS2.out _)).mono ?_); rintro en w3 ⟨rfl, h3⟩; have := h3.cell (b := b0 + 1) (cs := #[.int .i64 0, .int .i64 0, .int .i64 0]) (t := 63) (by simp) 0; simp only [List.getElem?_toArray, List.getElem?_cons_zero] at this; have := h3.cell (b := b0 + 1) (cs := #[.int .i64 0, .int .i64 0, .int .i64 0]) (t := 63) (by simp) 1; simp only [List.getElem?_toArray, List.getElem?_cons_zero, List.getElem?_cons_succ] at this; have := h3.cell (b := b0 + 1) (cs := #[.int .i64 0, .int .i64 0, .int .i64 0]) (t := 63) (by simp) 2; simp only [List.getElem?_toArray, List.getElem?_cons_zero, List.getElem?_cons_succ] at this; have : ∀ j, _ = false := h3.frozen (b := b0 + 1) (cs := #[.int .i64 0, .int .i64 0, .int .i64 0]) (t := 63) (by simp)))
  subst hb0; exact bodyPost_ret (v := .agg #[.int .i64 rx, .int .i64 ry, .int .i64 0]) (by simp [results, Try.results33, go_sem, *]) rfl ⟨rfl, below_set3 h3.below (by omega) _ _ _⟩
end Go.Proofs.Ytgipfcpkphmbpaa.F
