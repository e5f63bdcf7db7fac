/-
  What Minus returns.
-/
import Derived.Test.YtjadccelplnpnaaAround
import Derived.Sort.CutIn
namespace Go.Proofs.Ytjadccelplnpnaa
open Go.RowKit Go.Shelf
attribute [local go_sem] Oper.semAt_some

def inter (a b : Rc) : Rc := nrm (mx a.x0 b.x0) (mx a.y0 b.y0) (mn a.x1 b.x1) (mn a.y1 b.y1)
def nonemp (x : Rc) : Bool := !emp x.x0 x.y0 x.x1 x.y1
/-- what is left of a without b -/
def minus (a b : Rc) : List Rc := (prt (inter a b) a).filter nonemp
def rcs (l : List Rc) : List Value := l.flatMap fun x => [.int .i64 x.x0, .int .i64 x.y0, .int .i64 x.x1, .int .i64 x.y1]

theorem parts_any (h0 h1 h2 h3 r0 r1 r2 r3 : Int) (w : World) : Calls Try.prog 61 #[rv h0 h1 h2 h3, rv r0 r1 r2 r3] w fun e w' =>
    e = .returned (.func (.func 65) #[] #[.pointer (some ⟨w.heap.size, 0, none⟩), .pointer (some ⟨w.heap.size + 1, 0, none⟩)]) ∧ w' = (w.alloc (ro h0 h1 h2 h3)).alloc (ro r0 r1 r2 r3) := by
  go_enter Try.func61, Try.ntmps61
  go_wp2
  go_ret
  exact ⟨rfl, rfl⟩

theorem parts_st {W w : World} {L : List (Nat × Obj)} (hs : St W L w) (h0 h1 h2 h3 r0 r1 r2 r3 : Int) : Calls Try.prog 61 #[rv h0 h1 h2 h3, rv r0 r1 r2 r3] w fun e w' =>
    e = .returned (.func (.func 65) #[] #[.pointer (some ⟨w.heap.size, 0, none⟩), .pointer (some ⟨w.heap.size + 1, 0, none⟩)]) ∧ St W L w' ∧
      w'.heap[w.heap.size]? = some (ro h0 h1 h2 h3) ∧ w'.heap[w.heap.size + 1]? = some (ro r0 r1 r2 r3) ∧ w.heap.size + 2 = w'.heap.size :=
  (parts_any h0 h1 h2 h3 r0 r1 r2 r3 w).mono fun e w' ⟨he, hw⟩ => by
    have h := (hs.alloc (ro h0 h1 h2 h3)).alloc (ro r0 r1 r2 r3)
    rw [World.size_alloc] at h
    subst hw
    exact ⟨he, h.sub (fun x hx => by simp [hx]), h.row (b := w.heap.size) (o := ro h0 h1 h2 h3) (by simp), h.row (b := w.heap.size + 1) (o := ro r0 r1 r2 r3) (by simp), by simp⟩

theorem Try.infoRect : (Try.prog.info? 23).map (fun i => (i.zero, i.size, i.bytes)) = some (some (rv 0 0 0 0), 4, 32) := by kernel_rfl
theorem heap_kept {W W' : World} {row : Option Nat} {b : Nat} {cs : Array Value} {t : TypeId} {fr : Nat × Nat} (h : W.heap[b]? = some (.cells cs t fr)) (hg : W.grownBy W' row) (hr : ∀ r, row = some r → ∃ o : Obj, W.heap[r]? = some o ∧ o.isCells = false) : W'.heap[b]? = some (.cells cs t fr) :=
  (hg.block b (Array.getElem?_eq_some_iff.1 h).1 (fun e => by
    obtain ⟨o, ho, hc⟩ := hr b e.symm
    rw [h] at ho; cases ho; cases hc)).trans h
theorem cell4_new (W : World) (a b c d : Int) (t : TypeId) : ∀ j u, [Value.int .i64 a, .int .i64 b, .int .i64 c, .int .i64 d][j]? = some u → (W.alloc (.cells #[.int .i64 a, .int .i64 b, .int .i64 c, .int .i64 d] t)).cell? ((⟨W.heap.size, 0, none⟩ : Addr).add j) = some u := by
  intro j u hj
  have hadd : (⟨W.heap.size, 0, none⟩ : Addr).add j = ⟨W.heap.size, j, none⟩ := by unfold Addr.add; split <;> simp_all
  rw [hadd, cell_of_row _ _ _ _ t (0, 0) (World.alloc_heap_new W _)]
  rw [← hj]; simp
theorem rcs_snoc (l : List Rc) (x : Rc) : rcs (l ++ [x]) = rcs l ++ [.int .i64 x.x0, .int .i64 x.y0, .int .i64 x.x1, .int .i64 x.y1] := by simp [rcs]
theorem filt_yes (l : List Rc) {x : Rc} (h : emp x.x0 x.y0 x.x1 x.y1 = false) : (l ++ [x]).filter nonemp = l.filter nonemp ++ [x] := by simp [nonemp, h]
theorem filt_no (l : List Rc) {x : Rc} (h : emp x.x0 x.y0 x.x1 x.y1 = true) : (l ++ [x]).filter nonemp = l.filter nonemp := by simp [nonemp, h]

theorem round_empty {w W W1 : World} {n₀ B Bx : Nat} {t e : TypeId} {size k : Nat} {v : Value} {xs : List Value} {x : Rc} (hv : Boxed W B t v) (hrow : W.ownsRow n₀ e size v k xs) (hB : Below n₀ w W) (hn : n₀ ≤ W.heap.size) (hbx : W.heap[Bx]? = some (ro x.x0 x.y0 x.x1 x.y1)) (hb : Below W.heap.size W W1) :
    Boxed W1 B t v ∧ W1.ownsRow n₀ e size v k xs ∧ Below n₀ w W1 ∧ RB W1 Bx x.x0 x.y0 x.x1 x.y1 := by
  have hg := grown_below hb
  exact ⟨hv.kept hg (by simp), hrow.kept hg (by cases v.ownBlock <;> simp), hB.trans (hb.mono hn), rb_of ((hb.block Bx (Array.getElem?_eq_some_iff.1 hbx).1).trans hbx)⟩

set_option maxRecDepth 100000 in
set_option maxHeartbeats 4000000 in
theorem minus_any (a0 a1 a2 a3 b0 b1 b2 b3 : Int) (w : World) : Calls Try.prog 30 #[rv a0 a1 a2 a3, rv b0 b1 b2 b3] w fun e w' => ∃ v, e = .returned v ∧
    w'.ownsRow w.heap.size 23 4 v (minus ⟨a0, a1, a2, a3⟩ ⟨b0, b1, b2, b3⟩).length (rcs (minus ⟨a0, a1, a2, a3⟩ ⟨b0, b1, b2, b3⟩)) ∧ Below w.heap.size w w' := by
  refine (callsIn_wide (n := 6)).1 ?_
  refine callsIn_of_wp_marks Try.func30 rfl trivial ?_ rfl
  simp only [Try.ntmps30, List.size_toArray, List.length_cons, List.length_nil, Nat.reduceAdd, Nat.reduceSub, Array.replicate_succ, Array.replicate_zero, List.push_toArray, List.append_toArray, List.nil_append, List.cons_append]
  refine wpIn_wide.2 ?_
  go_upto_region 2 with fail
  have hs := (((St.start w).alloc (ro a0 a1 a2 a3)).alloc (ro b0 b1 b2 b3)).alloc (.cells #[.slice none 0 0] 42)
  rw [World.size_alloc, World.size_alloc] at hs
  generalize ((w.alloc (ro a0 a1 a2 a3)).alloc (ro b0 b1 b2 b3)).alloc (.cells #[.slice none 0 0] 42) = w1 at hs ⊢
  obtain ⟨L, hL⟩ : ∃ L, L = [(w.heap.size + 1 + 1, .cells #[.slice none 0 0] 42), (w.heap.size + 1, ro b0 b1 b2 b3), (w.heap.size, ro a0 a1 a2 a3)] := ⟨_, rfl⟩
  rw [← hL] at hs
  have HC : Hid (∀ V, St w L V → RB V w.heap.size a0 a1 a2 a3 ∧ RB V (w.heap.size + 1) b0 b1 b2 b3) := fun V hV => by
    subst hL; exact ⟨hV.rect (by simp), hV.rect (by simp)⟩
  have HL := Lib.hid hL; clear hL
  have hd := hs.drew
  obtain ⟨hr1, hr2⟩ := HC.out _ hd
  go_region_held3 (fun V => St w L V ∧ RB V w.heap.size a0 a1 a2 a3 ∧ RB V (w.heap.size + 1) b0 b1 b2 b3) (exact ⟨by assumption, HC.out _ (by assumption)⟩) (first
    | (go_at_call 32; (with_reducible refine (St.call (W := w) (L := L) ?_ (inter_any _ _ _ _ _ _ _ _ _)).mono ?_); (focus assumption); rintro e w4 ⟨rfl, h4⟩)
    | (go_at_call 61; (with_reducible refine (parts_st (W := w) (L := L) (by assumption) _ _ _ _ _ _ _ _).mono ?_); rintro e w5 ⟨rfl, h5, h6, h7, h8⟩))
  go_wp2_with fail
  have HM : Hid (minus ⟨a0, a1, a2, a3⟩ ⟨b0, b1, b2, b3⟩ = (prt (nrm (mx a0 b0) (mx a1 b1) (mn a2 b2) (mn a3 b3)) ⟨a0, a1, a2, a3⟩).filter nonemp) := rfl
  rename_i hHeld
  clear hHeld hr1 hr2 hs hd HC
  generalize hH : nrm (mx a0 b0) (mx a1 b1) (mn a2 b2) (mn a3 b3) = H at h6 ⊢
  rw [hH] at HM
  clear hH
  obtain ⟨i0, i1, i2, i3⟩ := H
  have hbox : Boxed w5 (w.heap.size + 1 + 1) 42 (.slice none 0 0) := by
    have := HL.out; subst this; exact h5.row (by simp)
  have hbel := h5.below
  have hlt5 := hbox.lt
  clear HL h5 h4
  obtain ⟨inf, hi, hz0, hz1, hz2⟩ := info_parts Try.infoRect
  refine (wpIn_wide (n := 6)).1 ?_
  refine wpIn_rangeFunc_ownH rfl (by omega) (gf := 65) (lb := #[.pointer (some ⟨w4.heap.size, 0, none⟩), .pointer (some ⟨w4.heap.size + 1, 0, none⟩)]) rfl trivial (enters_of Try.func65 (by kernel_rfl) rfl)
    (around_stops 5 (by omega) (w.heap.size + 1 + 1) w4.heap.size (w4.heap.size + 1) ⟨i0, i1, i2, i3⟩ ⟨a0, a1, a2, a3⟩ w5 h6 h7) (fun h k => h.trans k) (fun W l o o' hl ho hc _ => Kp.putObj o' (by omega) ho hc) (Below.refl _ _) (fun _ => rfl)
    (fun pre W => (∃ v, Boxed W (w.heap.size + 1 + 1) 42 v ∧ W.ownsRow w.heap.size 23 4 v (pre.filter nonemp).length (rcs (pre.filter nonemp)) ∧ True) ∧ Below w.heap.size w W)
    (fun _ _ _ => False)
    (OwnFrom.and (Own.from (holdsRow_own w.heap.size (w.heap.size + 1 + 1) 42 23 4 (fun pre : List Rc => (pre.filter nonemp).length) (fun pre : List Rc => rcs (pre.filter nonemp)) (fun _ _ => True)) _) (ownFrom_below (Nat.le_refl _) (by omega)))
    (fun _ _ _ _ _ hs _ _ => hs)
    ⟨⟨_, hbox, World.ownsRow_nil _ _ _ _, trivial⟩, hbel⟩
    (fun x a' W => ∃ Bx, W.heap[Bx]? = some (ro x.x0 x.y0 x.x1 x.y1) ∧ a' = { tmps := #[rv a0 a1 a2 a3, rv b0 b1 b2 b3, .pointer (some ⟨w.heap.size, 0, none⟩), .pointer (some ⟨w.heap.size + 1, 0, none⟩), .slice none 0 0, .pointer (some ⟨w.heap.size + 1 + 1, 0, none⟩), .pointer (some ⟨Bx, 0, none⟩), rv a0 a1 a2 a3, rv b0 b1 b2 b3, rv i0 i1 i2 i3, rv a0 a1 a2 a3, .func (.func 65) #[] #[.pointer (some ⟨w4.heap.size, 0, none⟩), .pointer (some ⟨w4.heap.size + 1, 0, none⟩)], x.v, undef, undef, undef, undef, undef, undef, undef, undef], defers := [] })
    (fun x a' _ W W' row ⟨Bx, h2, h3⟩ hg hr => ⟨Bx, heap_kept h2 hg (fun r e => (hr r e).2), h3⟩) ?assign ?body ?done ?stop
  case assign =>
    rintro l pre x W K ⟨⟨v, hv, hrow, _⟩, hB⟩ hK
    gi_wp2
    exact hK _ _ ((KeepsOthers.alloc _ _).from _) (Kp.below below1 hv.lt) ⟨⟨v, hv.alloc _, hrow.alloc _, trivial⟩, hB.alloc hB.size _⟩ ⟨W.heap.size, World.alloc_heap_new W _, rfl⟩
  case body =>
    rintro l pre x a' W hl ⟨r, hr⟩ ⟨⟨v, hv, hrow, _⟩, hB⟩ ⟨Bx, hbx, rfl⟩ hlt
    obtain ⟨c0, c1, c2, c3⟩ := rb_of hbx
    have hpl : (pre.filter nonemp).length ≤ pre.length := List.length_filter_le _ _
    cases he : emp x.x0 x.y0 x.x1 x.y1
    case true =>
      gi_wp2_with (refine ⟨trivial, ?_⟩; gi_at_call 35; refine (CallsIn.inRound l (inWide (empty_any _ _ _ _ _))).mono ?_; rintro e W1 ⟨rfl, hb⟩)
      have hg := grown_below hb
      exact ⟨(KeepsOthers.of_grownBy hg (fun j o e => by cases e)).from _, Kp.below hb hv.lt, ⟨⟨v, hv.kept hg (by simp), by rw [filt_no pre he]; exact hrow.kept hg (by cases v.ownBlock <;> simp), trivial⟩, hB.trans (hb.mono hB.size)⟩⟩
    case false =>
      gi_upto_if 15 with (refine ⟨trivial, ?_⟩; gi_at_call 35; refine (CallsIn.inRound l (inWide (empty_any _ _ _ _ _))).mono ?_; rintro e W1 ⟨rfl, hb⟩; obtain ⟨hv1, hrow1, hB1, hcl⟩ := round_empty hv hrow hB hB.size hbx hb; obtain ⟨d0, d1, d2, d3⟩ := hcl; have hvc := hv1.cell)
      have T1 := (bas_le hrow1 hB1.size).2.2
      have T2 : bas v W1 ≤ (W1.alloc (ro x.x0 x.y0 x.x1 x.y1)).heap.size := by have := (bas_le hrow1 hB1.size).2.1; simp; omega
      have T4 : ∀ u ∈ [Value.int .i64 x.x0, .int .i64 x.y0, .int .i64 x.x1, .int .i64 x.y1], u.oneCell' = true := by simp [Value.oneCell']
      have T5 : (pre.filter nonemp).length + 1 ≤ maxLen := by unfold maxLen; omega
      have T6 : ((pre.filter nonemp).length + 1) * 32 ≤ 140737488355328 := by omega
      gi_wp2_with (gi_at_builtin; refine wpListIn_append_own _ rfl (.tmp 16) (.tmp 18) 42 rfl (bas v W1) 23 inf (rv 0 0 0 0) 4 32 Try.underlying42 hi hz0 hz1 hz2 rfl (by decide) v _ _ (by rfl) (T1.alloc _) ⟨W1.heap.size, 0, none⟩ 1 1 [.int .i64 x.x0, .int .i64 x.y0, .int .i64 x.x1, .int .i64 x.y1] (by rfl) rfl (cell4_new _ _ _ _ _ _) T4 T5 T6 T2 ?_; intro v' w1 hown' hgrow _; have hkp := Kp.appended hv1 (by decide) hrow1 hown' hgrow; have hown2 := ownsRow_le hown' (bas_le hrow1 hB1.size).1; obtain ⟨g', cap', rfl⟩ := ownsRow_succ hown'; obtain ⟨hv2, hv3, hr3, hk3, hb3⟩ := hv1.appended (by decide) hrow1 hB1.size (by omega) hown2 hgrow; have hc1 := hv2.cell; have hf1 := hv2.frozen)
      exact ⟨((KeepsOthers.of_grownBy (grown_below hb) (fun j o e => by cases e)).trans hk3).from _, (Kp.below hb hv.lt).trans hkp, ⟨_, hv3, by rw [filt_yes pre he, rcs_snoc]; simpa using hr3, trivial⟩, hB1.trans hb3⟩
  case done =>
    rintro D ys W hD rfl ⟨⟨v, hv, hrow, _⟩, hB⟩ hK
    have hc := hv.cell
    go_wp2_with fail
    rw [HM.out]
    refine ⟨by simp, .inl ⟨_, _, rfl, run_takeDeferred hK, ?_⟩⟩
    exact ⟨_, results_tmp rfl _ _ _, v, rfl, ownsRow_putObj hrow _ hK rfl, hB.trans (belowK_b (w := w5) (by omega) W D _ _ hD hK rfl rfl)⟩
  case stop =>
    rintro D c pre W _ _ h _
    exact h.elim
end Go.Proofs.Ytjadccelplnpnaa
