/-
  checked of the reference.
-/
import Derived.Test.YtgipfcpkphmbpaaAOps
namespace Go.Proofs.Ytgipfcpkphmbpaa.F
open Go.RowKit
set_option maxRecDepth 100000

abbrev go8 (a b c d e f n k : Int) : Obj := .cells #[.int .i64 a, .int .i64 b, .int .i64 c, .int .i64 d, .int .i64 e, .int .i64 f, .int .i64 n, .int .i64 k] 44
abbrev GB (w : World) (b : Nat) (x0 x1 x2 x3 x4 x5 x6 x7 : Int) : Prop :=
  w.cell? ⟨b, 0, none⟩ = some (.int .i64 x0) ∧ w.cell? ⟨b, 1, none⟩ = some (.int .i64 x1) ∧ w.cell? ⟨b, 2, none⟩ = some (.int .i64 x2) ∧ w.cell? ⟨b, 3, none⟩ = some (.int .i64 x3) ∧ w.cell? ⟨b, 4, none⟩ = some (.int .i64 x4) ∧ w.cell? ⟨b, 5, none⟩ = some (.int .i64 x5) ∧ w.cell? ⟨b, 6, none⟩ = some (.int .i64 x6) ∧ w.cell? ⟨b, 7, none⟩ = some (.int .i64 x7)
theorem St.gb {W w : World} {L : List (Nat × Obj)} (h : St W L w) {b : Nat} {x0 x1 x2 x3 x4 x5 x6 x7 : Int} {t : TypeId} (hm : (b, .cells #[.int .i64 x0, .int .i64 x1, .int .i64 x2, .int .i64 x3, .int .i64 x4, .int .i64 x5, .int .i64 x6, .int .i64 x7] t) ∈ L) : GB w b x0 x1 x2 x3 x4 x5 x6 x7 :=
  ⟨h.cell hm 0, h.cell hm 1, h.cell hm 2, h.cell hm 3, h.cell hm 4, h.cell hm 5, h.cell hm 6, h.cell hm 7⟩
theorem St.got {W w : World} {L : List (Nat × Obj)} (h : St W L w) {b : Nat} (hm : (b, go8 0 0 0 0 0 0 0 0) ∈ L) : GB w b 0 0 0 0 0 0 0 0 := St.gb h hm
theorem below_set8 {n b : Nat} {w w' : World} (h : Below n w w') (hb : n ≤ b) (x0 x1 x2 x3 x4 x5 x6 x7 : Value) :
    Below n w ((((((((w'.setCell ⟨b, 0, none⟩ x0).setCell ⟨b, 1, none⟩ x1).setCell ⟨b, 2, none⟩ x2).setCell ⟨b, 3, none⟩ x3).setCell ⟨b, 4, none⟩ x4).setCell ⟨b, 5, none⟩ x5).setCell ⟨b, 6, none⟩ x6).setCell ⟨b, 7, none⟩ x7) :=
  (below_set7 h hb x0 x1 x2 x3 x4 x5 x6).setCell (p := ⟨b, 7, none⟩) hb _
set_option maxHeartbeats 2000000 in
theorem checked_any (a b c d e f n : Int) (w : World) (h : LmA ⟨a, b, c, d, e, f, n⟩) (h0 : n ≠ 0) : Calls Try.prog 49 #[av a b c d e f n] w fun en w' => en = .returned (chk ⟨a, b, c, d, e, f, n⟩).r ∧ Below w.heap.size w w' := by
  obtain ⟨ra, rb, rc, rd, re, rf, rn, hlow⟩ : ∃ ra rb rc rd re rf rn, low ⟨a, b, c, d, e, f, n⟩ = ⟨ra, rb, rc, rd, re, rf, rn⟩ := ⟨_, _, _, _, _, _, _, rfl⟩
  unfold chk
  rw [hlow]
  have HC : Hid (∀ W, Calls Try.prog 47 #[av a b c d e f n] W fun en w' => en = .returned (av ra rb rc rd re rf rn) ∧ Below W.heap.size W w') := fun W => by
    have := refLowest_any a b c d e f n W h h0; rw [hlow] at this; exact this
  have HV : Hid (∀ W, Calls Try.prog 17 #[av ra rb rc rd re rf rn] W fun en w' => en = .returned (.bool (okA ⟨ra, rb, rc, rd, re, rf, rn⟩)) ∧ Below W.heap.size W w') := fun W => refOk_any ra rb rc rd re rf rn W
  clear hlow h h0
  generalize okA ⟨ra, rb, rc, rd, re, rf, rn⟩ = s at HV
  go_enter Try.func49, Try.ntmps49
  go_upto_region 1 with fail
  have hs := ((St.start w).alloc (ao a b c d e f n)).alloc (go8 0 0 0 0 0 0 0 0)
  rw [World.size_alloc] at hs
  have hle : w.heap.size ≤ w.heap.size := Nat.le_refl _
  generalize hb0 : w.heap.size = b0 at hs ⊢
  generalize (w.alloc (ao a b c d e f n)).alloc (go8 0 0 0 0 0 0 0 0) = w1 at hs ⊢
  obtain ⟨_, _, _, _, _, _, _⟩ := St.aff hs (b := b0) (a := a) (b' := b) (c := c) (d := d) (e := e) (f := f) (n := n) (by simp)
  go_upto_region 2 with (first | (go_at_call 47; (with_reducible refine (St.call hs (HC.out _)).mono ?_); rintro en w2 ⟨rfl, h2⟩; obtain ⟨_, _, _, _, _, _, _⟩ := St.aff h2 (b := b0) (a := a) (b' := b) (c := c) (d := d) (e := e) (f := f) (n := n) (by simp); have _ : ∀ j, _ = false := h2.frozen (b := b0) (cs := #[.int .i64 a, .int .i64 b, .int .i64 c, .int .i64 d, .int .i64 e, .int .i64 f, .int .i64 n]) (t := 23) (by simp)))
  have h4 := h2.swp.put7 (v0 := .int .i64 ra) (v1 := .int .i64 rb) (v2 := .int .i64 rc) (v3 := .int .i64 rd) (v4 := .int .i64 re) (v5 := .int .i64 rf) (v6 := .int .i64 rn) (by omega) (by simp)
  generalize (((((((w2.setCell _ _).setCell _ _).setCell _ _).setCell _ _).setCell _ _).setCell _ _).setCell ⟨b0, 6, none⟩ _) = w4 at h4 ⊢
  obtain ⟨_, _, _, _, _, _, _⟩ := St.aff h4 (b := b0) (a := ra) (b' := rb) (c := rc) (d := rd) (e := re) (f := rf) (n := rn) (by simp)
  cases s
  · go_wp2_with (first | (go_at_call 17; (with_reducible refine (St.call h4 (HV.out _)).mono ?_); rintro en w5 ⟨rfl, h5⟩; obtain ⟨_, _, _, _, _, _, _⟩ := St.aff h5 (b := b0) (a := ra) (b' := rb) (c := rc) (d := rd) (e := re) (f := rf) (n := rn) (by simp); obtain ⟨_, _, _, _, _, _, _, _⟩ := St.got h5 (b := b0 + 1) (by simp); have : ∀ j, _ = false := h5.frozen (b := b0 + 1) (cs := #[.int .i64 0, .int .i64 0, .int .i64 0, .int .i64 0, .int .i64 0, .int .i64 0, .int .i64 0, .int .i64 0]) (t := 44) (by simp)))
    subst hb0; exact bodyPost_ret (v := gv 0 0 0 0 0 0 0 2) (by simp [results, Try.results49, go_sem, *]) rfl ⟨rfl, below_set8 h5.below (by omega) _ _ _ _ _ _ _ _⟩
  · go_wp2_with (first | (go_at_call 17; (with_reducible refine (St.call h4 (HV.out _)).mono ?_); rintro en w5 ⟨rfl, h5⟩; obtain ⟨_, _, _, _, _, _, _⟩ := St.aff h5 (b := b0) (a := ra) (b' := rb) (c := rc) (d := rd) (e := re) (f := rf) (n := rn) (by simp); obtain ⟨_, _, _, _, _, _, _, _⟩ := St.got h5 (b := b0 + 1) (by simp); have : ∀ j, _ = false := h5.frozen (b := b0 + 1) (cs := #[.int .i64 0, .int .i64 0, .int .i64 0, .int .i64 0, .int .i64 0, .int .i64 0, .int .i64 0, .int .i64 0]) (t := 44) (by simp)))
    subst hb0; exact bodyPost_ret (v := gv ra rb rc rd re rf rn 0) (by simp [results, Try.results49, go_sem, *]) rfl ⟨rfl, below_set8 h5.below (by omega) _ _ _ _ _ _ _ _⟩
end Go.Proofs.Ytgipfcpkphmbpaa.F
