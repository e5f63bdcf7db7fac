/-
  What the closures of Need and Bounds return, and extremes.
-/
import Derived.Test.YtgipfcpkphmbpaaASrc
namespace Go.Proofs.Ytgipfcpkphmbpaa.F
open Go.RowKit
set_option maxRecDepth 100000

set_option maxHeartbeats 1000000 in
theorem need1_any (p0 p1 p2 p3 p4 p5 p6 x y : Int) (ba : Nat) (w : World) (h : Ok ⟨p0, p1, p2, p3, p4, p5, p6⟩) (hx : Cb x) (hy : Cb y) (hlt : ba < w.heap.size) (ha : AB w ba p0 p1 p2 p3 p4 p5 p6) :
    Calls Try.prog 57 #[tv x y, .pointer (some ⟨ba, 0, none⟩)] w fun en w' => en = .returned (tv (sx ⟨p0, p1, p2, p3, p4, p5, p6⟩ x y) (sy ⟨p0, p1, p2, p3, p4, p5, p6⟩ x y)) ∧ Below w.heap.size w w' := by
  have HC : Hid (∀ W, Calls Try.prog 52 #[av p0 p1 p2 p3 p4 p5 p6, tv x y] W fun en w' => en = .returned (tv (sx ⟨p0, p1, p2, p3, p4, p5, p6⟩ x y) (sy ⟨p0, p1, p2, p3, p4, p5, p6⟩ x y)) ∧ Below W.heap.size W w') := fun W => source_any p0 p1 p2 p3 p4 p5 p6 x y W h hx hy
  clear h hx hy
  generalize sx ⟨p0, p1, p2, p3, p4, p5, p6⟩ x y = rx at HC ⊢
  generalize sy ⟨p0, p1, p2, p3, p4, p5, p6⟩ x y = ry at HC ⊢
  go_enter Try.func57, Try.ntmps57
  go_upto_region 1 with fail
  have hs := ((St.start w).alloc (pob x y)).alloc (pob 0 0)
  rw [World.size_alloc] at hs
  have hA : AB ((w.alloc (pob x y)).alloc (pob 0 0)) ba p0 p1 p2 p3 p4 p5 p6 := by
    have h2 := below2 (w := w) (o := pob x y) (p := pob 0 0)
    obtain ⟨a0, a1, a2, a3, a4, a5, a6⟩ := ha
    exact ⟨by rw [← a0]; exact h2.cell (p := ⟨ba, 0, none⟩) hlt, by rw [← a1]; exact h2.cell (p := ⟨ba, 1, none⟩) hlt, by rw [← a2]; exact h2.cell (p := ⟨ba, 2, none⟩) hlt, by rw [← a3]; exact h2.cell (p := ⟨ba, 3, none⟩) hlt, by rw [← a4]; exact h2.cell (p := ⟨ba, 4, none⟩) hlt, by rw [← a5]; exact h2.cell (p := ⟨ba, 5, none⟩) hlt, by rw [← a6]; exact h2.cell (p := ⟨ba, 6, none⟩) hlt⟩
  clear ha
  generalize hb0 : w.heap.size = b0 at hs ⊢
  generalize (w.alloc (pob x y)).alloc (pob 0 0) = w1 at hs hA ⊢
  obtain ⟨a0, a1, a2, a3, a4, a5, a6⟩ := hA
  obtain ⟨_, _⟩ := St.pt hs (b := b0) (x := x) (y := y) (by simp)
  go_wp2_with (first | (go_at_call 52; (with_reducible refine (St.call hs (HC.out _)).mono ?_); rintro en w2 ⟨rfl, h2⟩; obtain ⟨_, _⟩ := St.pt h2 (b := b0 + 1) (x := 0) (y := 0) (by simp); have : ∀ j, _ = false := h2.frozen (b := b0 + 1) (cs := #[.int .i64 0, .int .i64 0]) (t := 49) (by simp)))
  subst hb0; exact bodyPost_ret (v := tv rx ry) (by simp [results, Try.results57, go_sem, *]) rfl ⟨rfl, (h2.below.setCell (p := ⟨_, 0, none⟩) (by simp) _).setCell (p := ⟨_, 1, none⟩) (by simp) _⟩
theorem bounds1_any (p0 p1 p2 p3 p4 p5 p6 x y : Int) (ba : Nat) (w : World) (hlt : ba < w.heap.size) (ha : AB w ba p0 p1 p2 p3 p4 p5 p6) :
    Calls Try.prog 58 #[tv x y, .pointer (some ⟨ba, 0, none⟩)] w fun en w' => en = .returned (tv (wrap64 (p0 * x + p1 * y + p2)) (wrap64 (p3 * x + p4 * y + p5))) ∧ Below w.heap.size w w' := by
  have ex : wrap64 (wrap64 (wrap64 (p0 * x) + wrap64 (p1 * y)) + p2) = wrap64 (p0 * x + p1 * y + p2) := by simp only [wal, war]
  have ey : wrap64 (wrap64 (wrap64 (p3 * x) + wrap64 (p4 * y)) + p5) = wrap64 (p3 * x + p4 * y + p5) := by simp only [wal, war]
  go_enter Try.func58, Try.ntmps58
  go_upto_region 1 with fail
  have hs := ((St.start w).alloc (pob x y)).alloc (pob 0 0)
  rw [World.size_alloc] at hs
  have hA : AB ((w.alloc (pob x y)).alloc (pob 0 0)) ba p0 p1 p2 p3 p4 p5 p6 := by
    have h2 := below2 (w := w) (o := pob x y) (p := pob 0 0)
    obtain ⟨a0, a1, a2, a3, a4, a5, a6⟩ := ha
    exact ⟨by rw [← a0]; exact h2.cell (p := ⟨ba, 0, none⟩) hlt, by rw [← a1]; exact h2.cell (p := ⟨ba, 1, none⟩) hlt, by rw [← a2]; exact h2.cell (p := ⟨ba, 2, none⟩) hlt, by rw [← a3]; exact h2.cell (p := ⟨ba, 3, none⟩) hlt, by rw [← a4]; exact h2.cell (p := ⟨ba, 4, none⟩) hlt, by rw [← a5]; exact h2.cell (p := ⟨ba, 5, none⟩) hlt, by rw [← a6]; exact h2.cell (p := ⟨ba, 6, none⟩) hlt⟩
  clear ha
  generalize hb0 : w.heap.size = b0 at hs ⊢
  generalize (w.alloc (pob x y)).alloc (pob 0 0) = w1 at hs hA ⊢
  obtain ⟨a0, a1, a2, a3, a4, a5, a6⟩ := hA
  obtain ⟨_, _⟩ := St.pt hs (b := b0) (x := x) (y := y) (by simp)
  obtain ⟨_, _⟩ := St.pt hs (b := b0 + 1) (x := 0) (y := 0) (by simp)
  have : ∀ j, _ = false := hs.frozen (b := b0 + 1) (cs := #[.int .i64 0, .int .i64 0]) (t := 49) (by simp)
  go_wp2
  subst hb0; exact bodyPost_ret (v := tv (wrap64 (p0 * x + p1 * y + p2)) (wrap64 (p3 * x + p4 * y + p5))) (by simp [results, Try.results58, go_sem, *]) rfl ⟨rfl, (hs.below.setCell (p := ⟨_, 0, none⟩) (by simp) _).setCell (p := ⟨_, 1, none⟩) (by simp) _⟩
set_option maxHeartbeats 8000000 in
theorem extNeed_any (x0 y0 x1 y1 x2 y2 x3 y3 u0 v0 u1 v1 u2 v2 u3 v3 : Int) (ba : Nat) (w : World) (H0 : Hid (∀ W, Below w.heap.size w W → Calls Try.prog 57 #[tv x0 y0, .pointer (some ⟨ba, 0, none⟩)] W fun en w' => en = .returned (tv u0 v0) ∧ Below W.heap.size W w')) (H1 : Hid (∀ W, Below w.heap.size w W → Calls Try.prog 57 #[tv x1 y1, .pointer (some ⟨ba, 0, none⟩)] W fun en w' => en = .returned (tv u1 v1) ∧ Below W.heap.size W w')) (H2 : Hid (∀ W, Below w.heap.size w W → Calls Try.prog 57 #[tv x2 y2, .pointer (some ⟨ba, 0, none⟩)] W fun en w' => en = .returned (tv u2 v2) ∧ Below W.heap.size W w')) (H3 : Hid (∀ W, Below w.heap.size w W → Calls Try.prog 57 #[tv x3 y3, .pointer (some ⟨ba, 0, none⟩)] W fun en w' => en = .returned (tv u3 v3) ∧ Below W.heap.size W w')) :
    Calls Try.prog 55 #[.agg #[.int .i64 x0, .int .i64 y0, .int .i64 x1, .int .i64 y1, .int .i64 x2, .int .i64 y2, .int .i64 x3, .int .i64 y3], .func (.func 57) #[] #[.pointer (some ⟨ba, 0, none⟩)]] w fun en w' => en = .returned (.tuple #[tv (mn (mn (mn u0 u1) u2) u3) (mn (mn (mn v0 v1) v2) v3), tv (mx (mx (mx u0 u1) u2) u3) (mx (mx (mx v0 v1) v2) v3)]) ∧ Below w.heap.size w w' := by
  have hmx := run_mx
  have hmn := run_mn
  go_enter Try.func55, Try.ntmps55
  go_upto_region 1 with fail
  have hs := (((St.start w).alloc (.cells #[.int .i64 x0, .int .i64 y0, .int .i64 x1, .int .i64 y1, .int .i64 x2, .int .i64 y2, .int .i64 x3, .int .i64 y3] 88 : Obj)).alloc (pob 0 0)).alloc (pob 0 0)
  simp only [World.size_alloc] at hs
  generalize hb0 : w.heap.size = b0 at hs ⊢
  generalize ((w.alloc (.cells #[.int .i64 x0, .int .i64 y0, .int .i64 x1, .int .i64 y1, .int .i64 x2, .int .i64 y2, .int .i64 x3, .int .i64 y3] 88 : Obj)).alloc (pob 0 0)).alloc (pob 0 0) = w1 at hs ⊢
  have c0 := hs.cell (b := b0) (cs := #[.int .i64 x0, .int .i64 y0, .int .i64 x1, .int .i64 y1, .int .i64 x2, .int .i64 y2, .int .i64 x3, .int .i64 y3]) (t := 88) (by simp) 0
  have c1 := hs.cell (b := b0) (cs := #[.int .i64 x0, .int .i64 y0, .int .i64 x1, .int .i64 y1, .int .i64 x2, .int .i64 y2, .int .i64 x3, .int .i64 y3]) (t := 88) (by simp) 1
  simp only [List.getElem?_toArray, List.getElem?_cons_zero, List.getElem?_cons_succ] at c0 c1
  go_upto_region 3 with (first | (go_at_call 57; (with_reducible refine (St.call hs (H0.out _ (hb0 ▸ hs.below))).mono ?_); rintro en w2 ⟨rfl, h2⟩; obtain ⟨_, _⟩ := St.pt h2 (b := b0 + 1) (x := 0) (y := 0) (by simp); have : ∀ j, _ = false := h2.frozen (b := b0 + 1) (cs := #[.int .i64 0, .int .i64 0]) (t := 49) (by simp); obtain ⟨_, _⟩ := St.pt h2 (b := b0 + 1 + 1) (x := 0) (y := 0) (by simp); have : ∀ j, _ = false := h2.frozen (b := b0 + 1 + 1) (cs := #[.int .i64 0, .int .i64 0]) (t := 49) (by simp)))
  have h3 := ((h2.swp.put2 (v0 := .int .i64 u0) (v1 := .int .i64 v0) (by omega) (by simp; try omega)).swp.put2 (v0 := .int .i64 u0) (v1 := .int .i64 v0) (by omega) (by simp; try omega))
  generalize (((w2.setCell _ _).setCell _ _).setCell _ _).setCell ⟨b0 + 1 + 1, 1, none⟩ _ = w3 at h3 ⊢
  clear hs h2 c0 c1
  go_wp2_with fail
  go_loopw [16] (fun i wr => ∃ k : Nat, i = .int .i64 k ∧ Hid ((k = 0 ∧ St w [(b0 + 1 + 1, pob u0 v0), (b0 + 1, pob u0 v0), (b0, (.cells #[.int .i64 x0, .int .i64 y0, .int .i64 x1, .int .i64 y1, .int .i64 x2, .int .i64 y2, .int .i64 x3, .int .i64 y3] 88 : Obj))] wr) ∨ (k = 1 ∧ St w [(b0 + 1 + 1, pob (mx u0 u1) (mx v0 v1)), (b0 + 1, pob (mn u0 u1) (mn v0 v1)), (b0, (.cells #[.int .i64 x0, .int .i64 y0, .int .i64 x1, .int .i64 y1, .int .i64 x2, .int .i64 y2, .int .i64 x3, .int .i64 y3] 88 : Obj))] wr) ∨ (k = 2 ∧ St w [(b0 + 1 + 1, pob (mx (mx u0 u1) u2) (mx (mx v0 v1) v2)), (b0 + 1, pob (mn (mn u0 u1) u2) (mn (mn v0 v1) v2)), (b0, (.cells #[.int .i64 x0, .int .i64 y0, .int .i64 x1, .int .i64 y1, .int .i64 x2, .int .i64 y2, .int .i64 x3, .int .i64 y3] 88 : Obj))] wr) ∨ (k = 3 ∧ St w [(b0 + 1 + 1, pob (mx (mx (mx u0 u1) u2) u3) (mx (mx (mx v0 v1) v2) v3)), (b0 + 1, pob (mn (mn (mn u0 u1) u2) u3) (mn (mn (mn v0 v1) v2) v3)), (b0, (.cells #[.int .i64 x0, .int .i64 y0, .int .i64 x1, .int .i64 y1, .int .i64 x2, .int .i64 y2, .int .i64 x3, .int .i64 y3] 88 : Obj))] wr))) (fun i _ => 3 - (intOf i).toNat)
  case atStart => exact ⟨0, rfl, .inl ⟨rfl, h3⟩⟩
  case round =>
    clear h3
    obtain ⟨k, rfl, HS⟩ := hrel
    obtain ⟨rfl, hS⟩ | ⟨rfl, hS⟩ | ⟨rfl, hS⟩ | ⟨rfl, hS⟩ := HS.out
    · clear HS
      have c0 := hS.cell (b := b0) (cs := #[.int .i64 x0, .int .i64 y0, .int .i64 x1, .int .i64 y1, .int .i64 x2, .int .i64 y2, .int .i64 x3, .int .i64 y3]) (t := 88) (by simp) 2
      have c1 := hS.cell (b := b0) (cs := #[.int .i64 x0, .int .i64 y0, .int .i64 x1, .int .i64 y1, .int .i64 x2, .int .i64 y2, .int .i64 x3, .int .i64 y3]) (t := 88) (by simp) 3
      simp only [List.getElem?_toArray, List.getElem?_cons_zero, List.getElem?_cons_succ] at c0 c1
      go_wp2_with (first | (go_at_call 57; (with_reducible refine (St.call (hS.alloc _) (H1.out _ (hb0 ▸ (hS.alloc _).below))).mono ?_); rintro en w4 ⟨rfl, h4⟩; obtain ⟨_, _⟩ := St.pt h4 (b := b0 + 1) (x := u0) (y := v0) (by simp); have : ∀ j, _ = false := h4.frozen (b := b0 + 1) (cs := #[.int .i64 u0, .int .i64 v0]) (t := 49) (by simp); obtain ⟨_, _⟩ := St.pt h4 (b := b0 + 1 + 1) (x := u0) (y := v0) (by simp); have : ∀ j, _ = false := h4.frozen (b := b0 + 1 + 1) (cs := #[.int .i64 u0, .int .i64 v0]) (t := 49) (by simp); have hl1 := h4.lt (b := b0 + 1) (o := pob u0 v0) (by simp); have hl2 := h4.lt (b := b0 + 1 + 1) (o := pob u0 v0) (by simp)))
      have h6 := ((h4.tl.swp.put2 (v0 := .int .i64 (mn u0 u1)) (v1 := .int .i64 (mn v0 v1)) (by omega) (by simp; try omega)).swp.put2 (v0 := .int .i64 (mx u0 u1)) (v1 := .int .i64 (mx v0 v1)) (by omega) (by simp; try omega))
      exact ⟨⟨1, rfl, .inr (.inl ⟨rfl, h6.later below1⟩)⟩, by decide⟩
    · clear HS
      have c0 := hS.cell (b := b0) (cs := #[.int .i64 x0, .int .i64 y0, .int .i64 x1, .int .i64 y1, .int .i64 x2, .int .i64 y2, .int .i64 x3, .int .i64 y3]) (t := 88) (by simp) 4
      have c1 := hS.cell (b := b0) (cs := #[.int .i64 x0, .int .i64 y0, .int .i64 x1, .int .i64 y1, .int .i64 x2, .int .i64 y2, .int .i64 x3, .int .i64 y3]) (t := 88) (by simp) 5
      simp only [List.getElem?_toArray, List.getElem?_cons_zero, List.getElem?_cons_succ] at c0 c1
      go_wp2_with (first | (go_at_call 57; (with_reducible refine (St.call (hS.alloc _) (H2.out _ (hb0 ▸ (hS.alloc _).below))).mono ?_); rintro en w4 ⟨rfl, h4⟩; obtain ⟨_, _⟩ := St.pt h4 (b := b0 + 1) (x := (mn u0 u1)) (y := (mn v0 v1)) (by simp); have : ∀ j, _ = false := h4.frozen (b := b0 + 1) (cs := #[.int .i64 (mn u0 u1), .int .i64 (mn v0 v1)]) (t := 49) (by simp); obtain ⟨_, _⟩ := St.pt h4 (b := b0 + 1 + 1) (x := (mx u0 u1)) (y := (mx v0 v1)) (by simp); have : ∀ j, _ = false := h4.frozen (b := b0 + 1 + 1) (cs := #[.int .i64 (mx u0 u1), .int .i64 (mx v0 v1)]) (t := 49) (by simp); have hl1 := h4.lt (b := b0 + 1) (o := pob (mn u0 u1) (mn v0 v1)) (by simp); have hl2 := h4.lt (b := b0 + 1 + 1) (o := pob (mx u0 u1) (mx v0 v1)) (by simp)))
      have h6 := ((h4.tl.swp.put2 (v0 := .int .i64 (mn (mn u0 u1) u2)) (v1 := .int .i64 (mn (mn v0 v1) v2)) (by omega) (by simp; try omega)).swp.put2 (v0 := .int .i64 (mx (mx u0 u1) u2)) (v1 := .int .i64 (mx (mx v0 v1) v2)) (by omega) (by simp; try omega))
      exact ⟨⟨2, rfl, .inr (.inr (.inl ⟨rfl, h6.later below1⟩))⟩, by decide⟩
    · clear HS
      have c0 := hS.cell (b := b0) (cs := #[.int .i64 x0, .int .i64 y0, .int .i64 x1, .int .i64 y1, .int .i64 x2, .int .i64 y2, .int .i64 x3, .int .i64 y3]) (t := 88) (by simp) 6
      have c1 := hS.cell (b := b0) (cs := #[.int .i64 x0, .int .i64 y0, .int .i64 x1, .int .i64 y1, .int .i64 x2, .int .i64 y2, .int .i64 x3, .int .i64 y3]) (t := 88) (by simp) 7
      simp only [List.getElem?_toArray, List.getElem?_cons_zero, List.getElem?_cons_succ] at c0 c1
      go_wp2_with (first | (go_at_call 57; (with_reducible refine (St.call (hS.alloc _) (H3.out _ (hb0 ▸ (hS.alloc _).below))).mono ?_); rintro en w4 ⟨rfl, h4⟩; obtain ⟨_, _⟩ := St.pt h4 (b := b0 + 1) (x := (mn (mn u0 u1) u2)) (y := (mn (mn v0 v1) v2)) (by simp); have : ∀ j, _ = false := h4.frozen (b := b0 + 1) (cs := #[.int .i64 (mn (mn u0 u1) u2), .int .i64 (mn (mn v0 v1) v2)]) (t := 49) (by simp); obtain ⟨_, _⟩ := St.pt h4 (b := b0 + 1 + 1) (x := (mx (mx u0 u1) u2)) (y := (mx (mx v0 v1) v2)) (by simp); have : ∀ j, _ = false := h4.frozen (b := b0 + 1 + 1) (cs := #[.int .i64 (mx (mx u0 u1) u2), .int .i64 (mx (mx v0 v1) v2)]) (t := 49) (by simp); have hl1 := h4.lt (b := b0 + 1) (o := pob (mn (mn u0 u1) u2) (mn (mn v0 v1) v2)) (by simp); have hl2 := h4.lt (b := b0 + 1 + 1) (o := pob (mx (mx u0 u1) u2) (mx (mx v0 v1) v2)) (by simp)))
      have h6 := ((h4.tl.swp.put2 (v0 := .int .i64 (mn (mn (mn u0 u1) u2) u3)) (v1 := .int .i64 (mn (mn (mn v0 v1) v2) v3)) (by omega) (by simp; try omega)).swp.put2 (v0 := .int .i64 (mx (mx (mx u0 u1) u2) u3)) (v1 := .int .i64 (mx (mx (mx v0 v1) v2) v3)) (by omega) (by simp; try omega))
      exact ⟨⟨3, rfl, .inr (.inr (.inr ⟨rfl, h6.later below1⟩))⟩, by decide⟩
    · clear HS
      go_upto_region 10 with fail
      have HP : Hid (∀ V, St w [(b0 + 1 + 1, pob (mx (mx (mx u0 u1) u2) u3) (mx (mx (mx v0 v1) v2) v3)), (b0 + 1, pob (mn (mn (mn u0 u1) u2) u3) (mn (mn (mn v0 v1) v2) v3)), (b0, (.cells #[.int .i64 x0, .int .i64 y0, .int .i64 x1, .int .i64 y1, .int .i64 x2, .int .i64 y2, .int .i64 x3, .int .i64 y3] 88 : Obj))] V → St w [(b0 + 1 + 1, pob (mx (mx (mx u0 u1) u2) u3) (mx (mx (mx v0 v1) v2) v3)), (b0 + 1, pob (mn (mn (mn u0 u1) u2) u3) (mn (mn (mn v0 v1) v2) v3)), (b0, (.cells #[.int .i64 x0, .int .i64 y0, .int .i64 x1, .int .i64 y1, .int .i64 x2, .int .i64 y2, .int .i64 x3, .int .i64 y3] 88 : Obj))] V ∧ TB V (b0 + 1) (mn (mn (mn u0 u1) u2) u3) (mn (mn (mn v0 v1) v2) v3) ∧ TB V (b0 + 1 + 1) (mx (mx (mx u0 u1) u2) u3) (mx (mx (mx v0 v1) v2) v3)) := fun V hV => ⟨hV, St.pt hV (by simp), St.pt hV (by simp)⟩
      refine wp_region_held_drew (S := fun V9 => St w [(b0 + 1 + 1, pob (mx (mx (mx u0 u1) u2) u3) (mx (mx (mx v0 v1) v2) v3)), (b0 + 1, pob (mn (mn (mn u0 u1) u2) u3) (mn (mn (mn v0 v1) v2) v3)), (b0, (.cells #[.int .i64 x0, .int .i64 y0, .int .i64 x1, .int .i64 y1, .int .i64 x2, .int .i64 y2, .int .i64 x3, .int .i64 y3] 88 : Obj))] V9 ∧ TB V9 (b0 + 1) (mn (mn (mn u0 u1) u2) u3) (mn (mn (mn v0 v1) v2) v3) ∧ TB V9 (b0 + 1 + 1) (mx (mx (mx u0 u1) u2) u3) (mx (mx (mx v0 v1) v2) v3)) (by kernel_rfl) ?_ (fun hHeld => ?_)
      · exact HP.out _ (hS.drew)
      have hS0 := hS.drew
      refine wpAnyH_take (i := 0) (oi := { dst := some 46, op := Op.load 49 (Operand.tmp 4), type := 49, pos := "sample.go:89", after := #[], guard := none }) (v := ?_) rfl (by kernel_rfl) (by kernel_rfl) (by kernel_rfl) (fun _ _ _ h => h) (Or.inl ⟨by kernel_rfl, ?_⟩) (by assumption) ?_
      rotate_left 1
      focus (intro w hSw; (try dsimp only at hSw); go_simp; (try with_reducible rfl))
      try simp only [Act.put, List.setIfInBounds_toArray, List.set_cons_zero, List.set_cons_succ]
      refine wpAnyH_take (i := 1) (oi := { dst := some 47, op := Op.load 49 (Operand.tmp 5), type := 49, pos := "sample.go:89", after := #[{ on := 2, ground := Ground.gcOnly Departure.lateStores }], guard := none }) (v := ?_) rfl (by kernel_rfl) (by kernel_rfl) (by kernel_rfl) (fun _ _ _ h => h) (Or.inl ⟨by kernel_rfl, ?_⟩) (by assumption) ?_
      rotate_left 1
      focus (intro w hSw; (try dsimp only at hSw); go_simp; (try with_reducible rfl))
      try simp only [Act.put, List.setIfInBounds_toArray, List.set_cons_zero, List.set_cons_succ]
      refine wpAnyH_ready (rs := [2]) (by kernel_rfl) (by simp) (AllReadyH.cons (o := { dst := none, op := Op.store 49 (Operand.tmp 4) (Operand.tmp 46), type := 0, pos := "sample.go:89", after := #[{ on := 0, ground := Ground.data }, { on := 0, ground := Ground.phase }, { on := 1, ground := Ground.textOnly Departure.lateStores }], guard := none }) rfl (fun K hK => ?_) AllReadyH.nil)
      have hS1r10 := (hS0.swp.rowset (ds := #[.int .i64 (mn (mn (mn u0 u1) u2) u3), .int .i64 (mn (mn (mn v0 v1) v2) v3)]) (by omega) (by simp; try omega)).swp
      refine wp_store_of 49 _ _ rfl (store_row 49 (cs := #[.int .i64 (mn (mn (mn u0 u1) u2) u3), .int .i64 (mn (mn (mn v0 v1) v2) v3)]) (ds := #[.int .i64 (mn (mn (mn u0 u1) u2) u3), .int .i64 (mn (mn (mn v0 v1) v2) v3)]) (by kernel_rfl) rfl (by simp [Value.oneCell']) hS0.swp.hd) ?_
      refine hK.out _ _ ?_ (fun hHeld => ?_)
      · exact HP.out _ (hS1r10)
      clear hK K
      try simp only [Act.put]
      refine wpAnyH_ready (rs := [3]) (by kernel_rfl) (by simp) (AllReadyH.cons (o := { dst := none, op := Op.store 49 (Operand.tmp 5) (Operand.tmp 47), type := 0, pos := "sample.go:89", after := #[{ on := 1, ground := Ground.data }, { on := 2, ground := Ground.chain }, { on := 0, ground := Ground.phase }, { on := 1, ground := Ground.phase }, { on := 2, ground := Ground.phase }], guard := none }) rfl (fun K hK => ?_) AllReadyH.nil)
      have hS2r10 := hS1r10.rowset (ds := #[.int .i64 (mx (mx (mx u0 u1) u2) u3), .int .i64 (mx (mx (mx v0 v1) v2) v3)]) (by omega) (by simp; try omega)
      refine wp_store_of 49 _ _ rfl (store_row 49 (cs := #[.int .i64 (mx (mx (mx u0 u1) u2) u3), .int .i64 (mx (mx (mx v0 v1) v2) v3)]) (ds := #[.int .i64 (mx (mx (mx u0 u1) u2) u3), .int .i64 (mx (mx (mx v0 v1) v2) v3)]) (by kernel_rfl) rfl (by simp [Value.oneCell']) hS1r10.hd) ?_
      refine hK.out _ _ ?_ (fun hHeld => ?_)
      · exact HP.out _ (hS2r10)
      clear hK K
      try simp only [Act.put]
      refine wpAnyH_done (by kernel_rfl) ?_ _
      have h9 := hS2r10
      obtain ⟨_, _⟩ := St.pt h9 (b := b0 + 1) (x := (mn (mn (mn u0 u1) u2) u3)) (y := (mn (mn (mn v0 v1) v2) v3)) (by simp)
      obtain ⟨_, _⟩ := St.pt h9 (b := b0 + 1 + 1) (x := (mx (mx (mx u0 u1) u2) u3)) (y := (mx (mx (mx v0 v1) v2) v3)) (by simp)
      generalize World.setRow _ _ _ = w9 at *
      go_wp2
      subst hb0; exact bodyPost_ret (v := .tuple #[tv (mn (mn (mn u0 u1) u2) u3) (mn (mn (mn v0 v1) v2) v3), tv (mx (mx (mx u0 u1) u2) u3) (mx (mx (mx v0 v1) v2) v3)]) (by simp [results, Try.results55, go_sem, *]) rfl ⟨rfl, h9.below⟩
set_option maxHeartbeats 8000000 in
theorem extBounds_any (x0 y0 x1 y1 x2 y2 x3 y3 u0 v0 u1 v1 u2 v2 u3 v3 : Int) (ba : Nat) (w : World) (H0 : Hid (∀ W, Below w.heap.size w W → Calls Try.prog 58 #[tv x0 y0, .pointer (some ⟨ba, 0, none⟩)] W fun en w' => en = .returned (tv u0 v0) ∧ Below W.heap.size W w')) (H1 : Hid (∀ W, Below w.heap.size w W → Calls Try.prog 58 #[tv x1 y1, .pointer (some ⟨ba, 0, none⟩)] W fun en w' => en = .returned (tv u1 v1) ∧ Below W.heap.size W w')) (H2 : Hid (∀ W, Below w.heap.size w W → Calls Try.prog 58 #[tv x2 y2, .pointer (some ⟨ba, 0, none⟩)] W fun en w' => en = .returned (tv u2 v2) ∧ Below W.heap.size W w')) (H3 : Hid (∀ W, Below w.heap.size w W → Calls Try.prog 58 #[tv x3 y3, .pointer (some ⟨ba, 0, none⟩)] W fun en w' => en = .returned (tv u3 v3) ∧ Below W.heap.size W w')) :
    Calls Try.prog 55 #[.agg #[.int .i64 x0, .int .i64 y0, .int .i64 x1, .int .i64 y1, .int .i64 x2, .int .i64 y2, .int .i64 x3, .int .i64 y3], .func (.func 58) #[] #[.pointer (some ⟨ba, 0, none⟩)]] w fun en w' => en = .returned (.tuple #[tv (mn (mn (mn u0 u1) u2) u3) (mn (mn (mn v0 v1) v2) v3), tv (mx (mx (mx u0 u1) u2) u3) (mx (mx (mx v0 v1) v2) v3)]) ∧ Below w.heap.size w w' := by
  have hmx := run_mx
  have hmn := run_mn
  go_enter Try.func55, Try.ntmps55
  go_upto_region 1 with fail
  have hs := (((St.start w).alloc (.cells #[.int .i64 x0, .int .i64 y0, .int .i64 x1, .int .i64 y1, .int .i64 x2, .int .i64 y2, .int .i64 x3, .int .i64 y3] 88 : Obj)).alloc (pob 0 0)).alloc (pob 0 0)
  simp only [World.size_alloc] at hs
  generalize hb0 : w.heap.size = b0 at hs ⊢
  generalize ((w.alloc (.cells #[.int .i64 x0, .int .i64 y0, .int .i64 x1, .int .i64 y1, .int .i64 x2, .int .i64 y2, .int .i64 x3, .int .i64 y3] 88 : Obj)).alloc (pob 0 0)).alloc (pob 0 0) = w1 at hs ⊢
  have c0 := hs.cell (b := b0) (cs := #[.int .i64 x0, .int .i64 y0, .int .i64 x1, .int .i64 y1, .int .i64 x2, .int .i64 y2, .int .i64 x3, .int .i64 y3]) (t := 88) (by simp) 0
  have c1 := hs.cell (b := b0) (cs := #[.int .i64 x0, .int .i64 y0, .int .i64 x1, .int .i64 y1, .int .i64 x2, .int .i64 y2, .int .i64 x3, .int .i64 y3]) (t := 88) (by simp) 1
  simp only [List.getElem?_toArray, List.getElem?_cons_zero, List.getElem?_cons_succ] at c0 c1
  go_upto_region 3 with (first | (go_at_call 58; (with_reducible refine (St.call hs (H0.out _ (hb0 ▸ hs.below))).mono ?_); rintro en w2 ⟨rfl, h2⟩; obtain ⟨_, _⟩ := St.pt h2 (b := b0 + 1) (x := 0) (y := 0) (by simp); have : ∀ j, _ = false := h2.frozen (b := b0 + 1) (cs := #[.int .i64 0, .int .i64 0]) (t := 49) (by simp); obtain ⟨_, _⟩ := St.pt h2 (b := b0 + 1 + 1) (x := 0) (y := 0) (by simp); have : ∀ j, _ = false := h2.frozen (b := b0 + 1 + 1) (cs := #[.int .i64 0, .int .i64 0]) (t := 49) (by simp)))
  have h3 := ((h2.swp.put2 (v0 := .int .i64 u0) (v1 := .int .i64 v0) (by omega) (by simp; try omega)).swp.put2 (v0 := .int .i64 u0) (v1 := .int .i64 v0) (by omega) (by simp; try omega))
  generalize (((w2.setCell _ _).setCell _ _).setCell _ _).setCell ⟨b0 + 1 + 1, 1, none⟩ _ = w3 at h3 ⊢
  clear hs h2 c0 c1
  go_wp2_with fail
  go_loopw [16] (fun i wr => ∃ k : Nat, i = .int .i64 k ∧ Hid ((k = 0 ∧ St w [(b0 + 1 + 1, pob u0 v0), (b0 + 1, pob u0 v0), (b0, (.cells #[.int .i64 x0, .int .i64 y0, .int .i64 x1, .int .i64 y1, .int .i64 x2, .int .i64 y2, .int .i64 x3, .int .i64 y3] 88 : Obj))] wr) ∨ (k = 1 ∧ St w [(b0 + 1 + 1, pob (mx u0 u1) (mx v0 v1)), (b0 + 1, pob (mn u0 u1) (mn v0 v1)), (b0, (.cells #[.int .i64 x0, .int .i64 y0, .int .i64 x1, .int .i64 y1, .int .i64 x2, .int .i64 y2, .int .i64 x3, .int .i64 y3] 88 : Obj))] wr) ∨ (k = 2 ∧ St w [(b0 + 1 + 1, pob (mx (mx u0 u1) u2) (mx (mx v0 v1) v2)), (b0 + 1, pob (mn (mn u0 u1) u2) (mn (mn v0 v1) v2)), (b0, (.cells #[.int .i64 x0, .int .i64 y0, .int .i64 x1, .int .i64 y1, .int .i64 x2, .int .i64 y2, .int .i64 x3, .int .i64 y3] 88 : Obj))] wr) ∨ (k = 3 ∧ St w [(b0 + 1 + 1, pob (mx (mx (mx u0 u1) u2) u3) (mx (mx (mx v0 v1) v2) v3)), (b0 + 1, pob (mn (mn (mn u0 u1) u2) u3) (mn (mn (mn v0 v1) v2) v3)), (b0, (.cells #[.int .i64 x0, .int .i64 y0, .int .i64 x1, .int .i64 y1, .int .i64 x2, .int .i64 y2, .int .i64 x3, .int .i64 y3] 88 : Obj))] wr))) (fun i _ => 3 - (intOf i).toNat)
  case atStart => exact ⟨0, rfl, .inl ⟨rfl, h3⟩⟩
  case round =>
    clear h3
    obtain ⟨k, rfl, HS⟩ := hrel
    obtain ⟨rfl, hS⟩ | ⟨rfl, hS⟩ | ⟨rfl, hS⟩ | ⟨rfl, hS⟩ := HS.out
    · clear HS
      have c0 := hS.cell (b := b0) (cs := #[.int .i64 x0, .int .i64 y0, .int .i64 x1, .int .i64 y1, .int .i64 x2, .int .i64 y2, .int .i64 x3, .int .i64 y3]) (t := 88) (by simp) 2
      have c1 := hS.cell (b := b0) (cs := #[.int .i64 x0, .int .i64 y0, .int .i64 x1, .int .i64 y1, .int .i64 x2, .int .i64 y2, .int .i64 x3, .int .i64 y3]) (t := 88) (by simp) 3
      simp only [List.getElem?_toArray, List.getElem?_cons_zero, List.getElem?_cons_succ] at c0 c1
      go_wp2_with (first | (go_at_call 58; (with_reducible refine (St.call (hS.alloc _) (H1.out _ (hb0 ▸ (hS.alloc _).below))).mono ?_); rintro en w4 ⟨rfl, h4⟩; obtain ⟨_, _⟩ := St.pt h4 (b := b0 + 1) (x := u0) (y := v0) (by simp); have : ∀ j, _ = false := h4.frozen (b := b0 + 1) (cs := #[.int .i64 u0, .int .i64 v0]) (t := 49) (by simp); obtain ⟨_, _⟩ := St.pt h4 (b := b0 + 1 + 1) (x := u0) (y := v0) (by simp); have : ∀ j, _ = false := h4.frozen (b := b0 + 1 + 1) (cs := #[.int .i64 u0, .int .i64 v0]) (t := 49) (by simp); have hl1 := h4.lt (b := b0 + 1) (o := pob u0 v0) (by simp); have hl2 := h4.lt (b := b0 + 1 + 1) (o := pob u0 v0) (by simp)))
      have h6 := ((h4.tl.swp.put2 (v0 := .int .i64 (mn u0 u1)) (v1 := .int .i64 (mn v0 v1)) (by omega) (by simp; try omega)).swp.put2 (v0 := .int .i64 (mx u0 u1)) (v1 := .int .i64 (mx v0 v1)) (by omega) (by simp; try omega))
      exact ⟨⟨1, rfl, .inr (.inl ⟨rfl, h6.later below1⟩)⟩, by decide⟩
    · clear HS
      have c0 := hS.cell (b := b0) (cs := #[.int .i64 x0, .int .i64 y0, .int .i64 x1, .int .i64 y1, .int .i64 x2, .int .i64 y2, .int .i64 x3, .int .i64 y3]) (t := 88) (by simp) 4
      have c1 := hS.cell (b := b0) (cs := #[.int .i64 x0, .int .i64 y0, .int .i64 x1, .int .i64 y1, .int .i64 x2, .int .i64 y2, .int .i64 x3, .int .i64 y3]) (t := 88) (by simp) 5
      simp only [List.getElem?_toArray, List.getElem?_cons_zero, List.getElem?_cons_succ] at c0 c1
      go_wp2_with (first | (go_at_call 58; (with_reducible refine (St.call (hS.alloc _) (H2.out _ (hb0 ▸ (hS.alloc _).below))).mono ?_); rintro en w4 ⟨rfl, h4⟩; obtain ⟨_, _⟩ := St.pt h4 (b := b0 + 1) (x := (mn u0 u1)) (y := (mn v0 v1)) (by simp); have : ∀ j, _ = false := h4.frozen (b := b0 + 1) (cs := #[.int .i64 (mn u0 u1), .int .i64 (mn v0 v1)]) (t := 49) (by simp); obtain ⟨_, _⟩ := St.pt h4 (b := b0 + 1 + 1) (x := (mx u0 u1)) (y := (mx v0 v1)) (by simp); have : ∀ j, _ = false := h4.frozen (b := b0 + 1 + 1) (cs := #[.int .i64 (mx u0 u1), .int .i64 (mx v0 v1)]) (t := 49) (by simp); have hl1 := h4.lt (b := b0 + 1) (o := pob (mn u0 u1) (mn v0 v1)) (by simp); have hl2 := h4.lt (b := b0 + 1 + 1) (o := pob (mx u0 u1) (mx v0 v1)) (by simp)))
      have h6 := ((h4.tl.swp.put2 (v0 := .int .i64 (mn (mn u0 u1) u2)) (v1 := .int .i64 (mn (mn v0 v1) v2)) (by omega) (by simp; try omega)).swp.put2 (v0 := .int .i64 (mx (mx u0 u1) u2)) (v1 := .int .i64 (mx (mx v0 v1) v2)) (by omega) (by simp; try omega))
      exact ⟨⟨2, rfl, .inr (.inr (.inl ⟨rfl, h6.later below1⟩))⟩, by decide⟩
    · clear HS
      have c0 := hS.cell (b := b0) (cs := #[.int .i64 x0, .int .i64 y0, .int .i64 x1, .int .i64 y1, .int .i64 x2, .int .i64 y2, .int .i64 x3, .int .i64 y3]) (t := 88) (by simp) 6
      have c1 := hS.cell (b := b0) (cs := #[.int .i64 x0, .int .i64 y0, .int .i64 x1, .int .i64 y1, .int .i64 x2, .int .i64 y2, .int .i64 x3, .int .i64 y3]) (t := 88) (by simp) 7
      simp only [List.getElem?_toArray, List.getElem?_cons_zero, List.getElem?_cons_succ] at c0 c1
      go_wp2_with (first | (go_at_call 58; (with_reducible refine (St.call (hS.alloc _) (H3.out _ (hb0 ▸ (hS.alloc _).below))).mono ?_); rintro en w4 ⟨rfl, h4⟩; obtain ⟨_, _⟩ := St.pt h4 (b := b0 + 1) (x := (mn (mn u0 u1) u2)) (y := (mn (mn v0 v1) v2)) (by simp); have : ∀ j, _ = false := h4.frozen (b := b0 + 1) (cs := #[.int .i64 (mn (mn u0 u1) u2), .int .i64 (mn (mn v0 v1) v2)]) (t := 49) (by simp); obtain ⟨_, _⟩ := St.pt h4 (b := b0 + 1 + 1) (x := (mx (mx u0 u1) u2)) (y := (mx (mx v0 v1) v2)) (by simp); have : ∀ j, _ = false := h4.frozen (b := b0 + 1 + 1) (cs := #[.int .i64 (mx (mx u0 u1) u2), .int .i64 (mx (mx v0 v1) v2)]) (t := 49) (by simp); have hl1 := h4.lt (b := b0 + 1) (o := pob (mn (mn u0 u1) u2) (mn (mn v0 v1) v2)) (by simp); have hl2 := h4.lt (b := b0 + 1 + 1) (o := pob (mx (mx u0 u1) u2) (mx (mx v0 v1) v2)) (by simp)))
      have h6 := ((h4.tl.swp.put2 (v0 := .int .i64 (mn (mn (mn u0 u1) u2) u3)) (v1 := .int .i64 (mn (mn (mn v0 v1) v2) v3)) (by omega) (by simp; try omega)).swp.put2 (v0 := .int .i64 (mx (mx (mx u0 u1) u2) u3)) (v1 := .int .i64 (mx (mx (mx v0 v1) v2) v3)) (by omega) (by simp; try omega))
      exact ⟨⟨3, rfl, .inr (.inr (.inr ⟨rfl, h6.later below1⟩))⟩, by decide⟩
    · clear HS
      go_upto_region 10 with fail
      have HP : Hid (∀ V, St w [(b0 + 1 + 1, pob (mx (mx (mx u0 u1) u2) u3) (mx (mx (mx v0 v1) v2) v3)), (b0 + 1, pob (mn (mn (mn u0 u1) u2) u3) (mn (mn (mn v0 v1) v2) v3)), (b0, (.cells #[.int .i64 x0, .int .i64 y0, .int .i64 x1, .int .i64 y1, .int .i64 x2, .int .i64 y2, .int .i64 x3, .int .i64 y3] 88 : Obj))] V → St w [(b0 + 1 + 1, pob (mx (mx (mx u0 u1) u2) u3) (mx (mx (mx v0 v1) v2) v3)), (b0 + 1, pob (mn (mn (mn u0 u1) u2) u3) (mn (mn (mn v0 v1) v2) v3)), (b0, (.cells #[.int .i64 x0, .int .i64 y0, .int .i64 x1, .int .i64 y1, .int .i64 x2, .int .i64 y2, .int .i64 x3, .int .i64 y3] 88 : Obj))] V ∧ TB V (b0 + 1) (mn (mn (mn u0 u1) u2) u3) (mn (mn (mn v0 v1) v2) v3) ∧ TB V (b0 + 1 + 1) (mx (mx (mx u0 u1) u2) u3) (mx (mx (mx v0 v1) v2) v3)) := fun V hV => ⟨hV, St.pt hV (by simp), St.pt hV (by simp)⟩
      refine wp_region_held_drew (S := fun V9 => St w [(b0 + 1 + 1, pob (mx (mx (mx u0 u1) u2) u3) (mx (mx (mx v0 v1) v2) v3)), (b0 + 1, pob (mn (mn (mn u0 u1) u2) u3) (mn (mn (mn v0 v1) v2) v3)), (b0, (.cells #[.int .i64 x0, .int .i64 y0, .int .i64 x1, .int .i64 y1, .int .i64 x2, .int .i64 y2, .int .i64 x3, .int .i64 y3] 88 : Obj))] V9 ∧ TB V9 (b0 + 1) (mn (mn (mn u0 u1) u2) u3) (mn (mn (mn v0 v1) v2) v3) ∧ TB V9 (b0 + 1 + 1) (mx (mx (mx u0 u1) u2) u3) (mx (mx (mx v0 v1) v2) v3)) (by kernel_rfl) ?_ (fun hHeld => ?_)
      · exact HP.out _ (hS.drew)
      have hS0 := hS.drew
      refine wpAnyH_take (i := 0) (oi := { dst := some 46, op := Op.load 49 (Operand.tmp 4), type := 49, pos := "sample.go:89", after := #[], guard := none }) (v := ?_) rfl (by kernel_rfl) (by kernel_rfl) (by kernel_rfl) (fun _ _ _ h => h) (Or.inl ⟨by kernel_rfl, ?_⟩) (by assumption) ?_
      rotate_left 1
      focus (intro w hSw; (try dsimp only at hSw); go_simp; (try with_reducible rfl))
      try simp only [Act.put, List.setIfInBounds_toArray, List.set_cons_zero, List.set_cons_succ]
      refine wpAnyH_take (i := 1) (oi := { dst := some 47, op := Op.load 49 (Operand.tmp 5), type := 49, pos := "sample.go:89", after := #[{ on := 2, ground := Ground.gcOnly Departure.lateStores }], guard := none }) (v := ?_) rfl (by kernel_rfl) (by kernel_rfl) (by kernel_rfl) (fun _ _ _ h => h) (Or.inl ⟨by kernel_rfl, ?_⟩) (by assumption) ?_
      rotate_left 1
      focus (intro w hSw; (try dsimp only at hSw); go_simp; (try with_reducible rfl))
      try simp only [Act.put, List.setIfInBounds_toArray, List.set_cons_zero, List.set_cons_succ]
      refine wpAnyH_ready (rs := [2]) (by kernel_rfl) (by simp) (AllReadyH.cons (o := { dst := none, op := Op.store 49 (Operand.tmp 4) (Operand.tmp 46), type := 0, pos := "sample.go:89", after := #[{ on := 0, ground := Ground.data }, { on := 0, ground := Ground.phase }, { on := 1, ground := Ground.textOnly Departure.lateStores }], guard := none }) rfl (fun K hK => ?_) AllReadyH.nil)
      have hS1r10 := (hS0.swp.rowset (ds := #[.int .i64 (mn (mn (mn u0 u1) u2) u3), .int .i64 (mn (mn (mn v0 v1) v2) v3)]) (by omega) (by simp; try omega)).swp
      refine wp_store_of 49 _ _ rfl (store_row 49 (cs := #[.int .i64 (mn (mn (mn u0 u1) u2) u3), .int .i64 (mn (mn (mn v0 v1) v2) v3)]) (ds := #[.int .i64 (mn (mn (mn u0 u1) u2) u3), .int .i64 (mn (mn (mn v0 v1) v2) v3)]) (by kernel_rfl) rfl (by simp [Value.oneCell']) hS0.swp.hd) ?_
      refine hK.out _ _ ?_ (fun hHeld => ?_)
      · exact HP.out _ (hS1r10)
      clear hK K
      try simp only [Act.put]
      refine wpAnyH_ready (rs := [3]) (by kernel_rfl) (by simp) (AllReadyH.cons (o := { dst := none, op := Op.store 49 (Operand.tmp 5) (Operand.tmp 47), type := 0, pos := "sample.go:89", after := #[{ on := 1, ground := Ground.data }, { on := 2, ground := Ground.chain }, { on := 0, ground := Ground.phase }, { on := 1, ground := Ground.phase }, { on := 2, ground := Ground.phase }], guard := none }) rfl (fun K hK => ?_) AllReadyH.nil)
      have hS2r10 := hS1r10.rowset (ds := #[.int .i64 (mx (mx (mx u0 u1) u2) u3), .int .i64 (mx (mx (mx v0 v1) v2) v3)]) (by omega) (by simp; try omega)
      refine wp_store_of 49 _ _ rfl (store_row 49 (cs := #[.int .i64 (mx (mx (mx u0 u1) u2) u3), .int .i64 (mx (mx (mx v0 v1) v2) v3)]) (ds := #[.int .i64 (mx (mx (mx u0 u1) u2) u3), .int .i64 (mx (mx (mx v0 v1) v2) v3)]) (by kernel_rfl) rfl (by simp [Value.oneCell']) hS1r10.hd) ?_
      refine hK.out _ _ ?_ (fun hHeld => ?_)
      · exact HP.out _ (hS2r10)
      clear hK K
      try simp only [Act.put]
      refine wpAnyH_done (by kernel_rfl) ?_ _
      have h9 := hS2r10
      obtain ⟨_, _⟩ := St.pt h9 (b := b0 + 1) (x := (mn (mn (mn u0 u1) u2) u3)) (y := (mn (mn (mn v0 v1) v2) v3)) (by simp)
      obtain ⟨_, _⟩ := St.pt h9 (b := b0 + 1 + 1) (x := (mx (mx (mx u0 u1) u2) u3)) (y := (mx (mx (mx v0 v1) v2) v3)) (by simp)
      generalize World.setRow _ _ _ = w9 at *
      go_wp2
      subst hb0; exact bodyPost_ret (v := .tuple #[tv (mn (mn (mn u0 u1) u2) u3) (mn (mn (mn v0 v1) v2) v3), tv (mx (mx (mx u0 u1) u2) u3) (mx (mx (mx v0 v1) v2) v3)]) (by simp [results, Try.results55, go_sem, *]) rfl ⟨rfl, h9.below⟩
end Go.Proofs.Ytgipfcpkphmbpaa.F
