/-
  The statements' own 'exact' returns true: all functions on rectangles return what the reference returns.
-/
import Derived.Test.YtjadccelplnpnaaSane
namespace Go.Proofs.Ytjadccelplnpnaa
open Go.RowKit

abbrev NB (w : World) (b : Nat) (x0 x1 x2 : Int) : Prop :=
  w.cell? ⟨b, 0, none⟩ = some (.int .i64 x0) ∧ w.cell? ⟨b, 1, none⟩ = some (.int .i64 x1) ∧ w.cell? ⟨b, 2, none⟩ = some (.int .i64 x2)
theorem St.trip {W w : World} {L : List (Nat × Obj)} (h : St W L w) {b : Nat} {x0 x1 x2 : Int} {t : TypeId} (hm : (b, .cells #[.int .i64 x0, .int .i64 x1, .int .i64 x2] t) ∈ L) : NB w b x0 x1 x2 :=
  ⟨h.cell hm 0, h.cell hm 1, h.cell hm 2⟩
theorem minus_len (a b : Rc) : ((minus a b).length : Int) ≤ 4 := by
  have h1 := List.length_filter_le nonemp (prt (inter a b) a)
  have h2 := prt_len (inter a b) a
  unfold minus; omega
theorem minus_st {W w : World} {L : List (Nat × Obj)} (h : St W L w) (a0 a1 a2 a3 b0 b1 b2 b3 : Int) : Calls Try.prog 30 #[rv a0 a1 a2 a3, rv b0 b1 b2 b3] w fun e w' => ∃ v, e = .returned v ∧ RcsAt w' v (minus ⟨a0, a1, a2, a3⟩ ⟨b0, b1, b2, b3⟩) ∧ St W L w' ∧ Below w.heap.size w w' :=
  (minus_any _ _ _ _ _ _ _ _ w).mono fun _ _ ⟨v, h1, h2, h3⟩ => ⟨v, h1, rcsAt_of_owns h2 (by have := minus_len ⟨a0, a1, a2, a3⟩ ⟨b0, b1, b2, b3⟩; omega), h.later h3, h3⟩
theorem refMinus_st {W w : World} {L : List (Nat × Obj)} (h : St W L w) (a0 a1 a2 a3 b0 b1 b2 b3 : Int) : Calls Try.prog 54 #[rv a0 a1 a2 a3, rv b0 b1 b2 b3] w fun e w' => ∃ v, e = .returned v ∧ RcsAt w' v (minus ⟨a0, a1, a2, a3⟩ ⟨b0, b1, b2, b3⟩) ∧ St W L w' ∧ Below w.heap.size w w' :=
  (refMinus_any _ _ _ _ _ _ _ _ w).mono fun _ _ ⟨v, h1, h2, h3⟩ => ⟨v, h1, rcsAt_of_owns h2 (by have := minus_len ⟨a0, a1, a2, a3⟩ ⟨b0, b1, b2, b3⟩; omega), h.later h3, h3⟩

set_option maxRecDepth 100000 in
set_option maxHeartbeats 16000000 in
theorem exact_any (a0 a1 a2 a3 b0 b1 b2 b3 n0 n1 n2 : Int) (w : World) : Calls Try.prog 15 #[rv a0 a1 a2 a3, rv b0 b1 b2 b3, .agg #[.int .i64 n0, .int .i64 n1, .int .i64 n2]] w fun e w' => e = .returned (.bool true) ∧ Below w.heap.size w w' := by
  go_enter Try.func15, Try.ntmps15
  go_upto_region 2 with fail
  have hs := ((((St.start w).alloc (ro a0 a1 a2 a3)).alloc (ro b0 b1 b2 b3)).alloc (.cells #[.int .i64 n0, .int .i64 n1, .int .i64 n2] 24)).alloc (pob n0 n1)
  rw [World.size_alloc, World.size_alloc, World.size_alloc] at hs
  generalize (((w.alloc (ro a0 a1 a2 a3)).alloc (ro b0 b1 b2 b3)).alloc (.cells #[.int .i64 n0, .int .i64 n1, .int .i64 n2] 24)).alloc (pob n0 n1) = w1 at hs ⊢
  obtain ⟨L, hL⟩ : ∃ L, L = [(w.heap.size + 1 + 1 + 1, pob n0 n1), (w.heap.size + 1 + 1, .cells #[.int .i64 n0, .int .i64 n1, .int .i64 n2] 24), (w.heap.size + 1, ro b0 b1 b2 b3), (w.heap.size, ro a0 a1 a2 a3)] := ⟨_, rfl⟩
  rw [← hL] at hs
  have HP : Hid (∀ V, St w L V → St w L V ∧ RB V w.heap.size a0 a1 a2 a3 ∧ RB V (w.heap.size + 1) b0 b1 b2 b3 ∧ NB V (w.heap.size + 1 + 1) n0 n1 n2 ∧ TB V (w.heap.size + 1 + 1 + 1) n0 n1) := fun V hV => by
    subst hL
    exact ⟨hV, hV.rect (by simp), hV.rect (by simp), hV.trip (t := 24) (by simp), hV.pair (t := 34) (by simp)⟩
  clear hL
  have hd := hs.drew
  clear hs
  go_region_held3 (fun V => St w L V ∧ RB V w.heap.size a0 a1 a2 a3 ∧ RB V (w.heap.size + 1) b0 b1 b2 b3 ∧ NB V (w.heap.size + 1 + 1) n0 n1 n2 ∧ TB V (w.heap.size + 1 + 1 + 1) n0 n1) ((refine HP.out _ ?_; assumption)) (first
    | (go_at_call 35; (with_reducible refine (St.call (W := w) (L := L) ?_ (empty_any _ _ _ _ _)).mono ?_); (focus assumption); rintro e w4 ⟨rfl, h4⟩)
    | (go_at_call 44; (with_reducible refine (St.call (W := w) (L := L) ?_ (refEmpty_any _ _ _ _ _)).mono ?_); (focus assumption); rintro e w4 ⟨rfl, h4⟩)
    | (go_at_call 29; (with_reducible refine (St.call (W := w) (L := L) ?_ (has_any _ _ _ _ _ _ _)).mono ?_); (focus assumption); rintro e w4 ⟨rfl, h4⟩)
    | (go_at_call 45; (with_reducible refine (St.call (W := w) (L := L) ?_ (refHas_any _ _ _ _ _ _ _)).mono ?_); (focus assumption); rintro e w4 ⟨rfl, h4⟩)
    | (go_at_call 36; (with_reducible refine (St.call (W := w) (L := L) ?_ (equal_any _ _ _ _ _ _ _ _ _)).mono ?_); (focus assumption); rintro e w4 ⟨rfl, h4⟩)
    | (go_at_call 46; (with_reducible refine (St.call (W := w) (L := L) ?_ (refEqual_any _ _ _ _ _ _ _ _ _)).mono ?_); (focus assumption); rintro e w4 ⟨rfl, h4⟩)
    | (go_at_call 33; (with_reducible refine (St.call (W := w) (L := L) ?_ (inside_any _ _ _ _ _ _ _ _ _)).mono ?_); (focus assumption); rintro e w4 ⟨rfl, h4⟩)
    | (go_at_call 47; (with_reducible refine (St.call (W := w) (L := L) ?_ (refInside_any _ _ _ _ _ _ _ _ _)).mono ?_); (focus assumption); rintro e w4 ⟨rfl, h4⟩)
    | (go_at_call 34; (with_reducible refine (St.call (W := w) (L := L) ?_ (area_any _ _ _ _ _)).mono ?_); (focus assumption); rintro e w4 ⟨rfl, h4⟩)
    | (go_at_call 48; (with_reducible refine (St.call (W := w) (L := L) ?_ (refArea_any _ _ _ _ _)).mono ?_); (focus assumption); rintro e w4 ⟨rfl, h4⟩)
    | (go_at_call 39; (with_reducible refine (St.call (W := w) (L := L) ?_ (valid_any _ _ _ _ _)).mono ?_); (focus assumption); rintro e w4 ⟨rfl, h4⟩)
    | (go_at_call 49; (with_reducible refine (St.call (W := w) (L := L) ?_ (refValid_any _ _ _ _ _)).mono ?_); (focus assumption); rintro e w4 ⟨rfl, h4⟩))
  clear hd
  rename_i hHeld
  obtain ⟨hX, _⟩ := hHeld
  clear h4
  go_upto_region 3 with fail
  have hd := hX.drew
  clear hX
  go_region_held3 (fun V => St w L V ∧ RB V w.heap.size a0 a1 a2 a3 ∧ RB V (w.heap.size + 1) b0 b1 b2 b3 ∧ NB V (w.heap.size + 1 + 1) n0 n1 n2 ∧ TB V (w.heap.size + 1 + 1 + 1) n0 n1) ((refine HP.out _ ?_; assumption)) (first
    | (go_at_call 32; (with_reducible refine (St.call (W := w) (L := L) ?_ (inter_any _ _ _ _ _ _ _ _ _)).mono ?_); (focus assumption); rintro e w4 ⟨rfl, h4⟩)
    | (go_at_call 50; (with_reducible refine (St.call (W := w) (L := L) ?_ (refInter_any _ _ _ _ _ _ _ _ _)).mono ?_); (focus assumption); rintro e w4 ⟨rfl, h4⟩)
    | (go_at_call 31; (with_reducible refine (St.call (W := w) (L := L) ?_ (union_any _ _ _ _ _ _ _ _ _)).mono ?_); (focus assumption); rintro e w4 ⟨rfl, h4⟩)
    | (go_at_call 51; (with_reducible refine (St.call (W := w) (L := L) ?_ (refUnion_any _ _ _ _ _ _ _ _ _)).mono ?_); (focus assumption); rintro e w4 ⟨rfl, h4⟩)
    | (go_at_call 40; (with_reducible refine (St.call (W := w) (L := L) ?_ (grow_any _ _ _ _ _ _)).mono ?_); (focus assumption); rintro e w4 ⟨rfl, h4⟩)
    | (go_at_call 52; (with_reducible refine (St.call (W := w) (L := L) ?_ (refGrow_any _ _ _ _ _ _)).mono ?_); (focus assumption); rintro e w4 ⟨rfl, h4⟩)
    | (go_at_call 41; (with_reducible refine (St.call (W := w) (L := L) ?_ (move_any _ _ _ _ _ _ _)).mono ?_); (focus assumption); rintro e w4 ⟨rfl, h4⟩)
    | (go_at_call 53; (with_reducible refine (St.call (W := w) (L := L) ?_ (refMove_any _ _ _ _ _ _ _)).mono ?_); (focus assumption); rintro e w4 ⟨rfl, h4⟩))
  rename_i hHeld
  obtain ⟨hX, _⟩ := hHeld
  go_upto_region 4 with fail
  clear hd
  have hd := hX.drew
  clear hX h4
  have hm := minus_len ⟨a0, a1, a2, a3⟩ ⟨b0, b1, b2, b3⟩
  go_region_held3 (fun V => St w L V ∧ RB V w.heap.size a0 a1 a2 a3 ∧ RB V (w.heap.size + 1) b0 b1 b2 b3 ∧ NB V (w.heap.size + 1 + 1) n0 n1 n2 ∧ TB V (w.heap.size + 1 + 1 + 1) n0 n1) ((refine HP.out _ ?_; assumption)) (first
    | (go_at_call 30; (with_reducible refine (minus_st (W := w) (L := L) ?_ _ _ _ _ _ _ _ _).mono ?_); (focus assumption); rintro e w5 ⟨v1, rfl, hR1, h5, _⟩)
    | (go_at_call 54; (with_reducible refine (refMinus_st (W := w) (L := L) ?_ _ _ _ _ _ _ _ _).mono ?_); (focus assumption); rintro e w6 ⟨v2, rfl, hR2, h6, hb6⟩; have hR3 := hR1.later hb6)
    | (go_at_call 42; (with_reducible refine (St.call (W := w) (L := L) ?_ (same_yes _ _ _ _ hR3 hR2)).mono ?_); (focus assumption); rintro e w7 ⟨rfl, h7⟩))
  go_wp2_with fail
  go_ret
  exact ⟨rfl, h7.below⟩
end Go.Proofs.Ytjadccelplnpnaa
