/-
  The iterator over the places of a rectangle: what it yields. The iterator over the window of a place: what it yields.
-/
import Derived.Test.YtbodmeiecdomfaaGreatWIter
import Derived.Test.YtbodmeiecdomfaaGreatENum
namespace Go.Proofs.YtbodmeiecdomfaaGreat.W
open Go.RowKit Go.Shelf
set_option maxRecDepth 100000
attribute [local go_sem] Oper.semAt_some
variable {W w w' : World} {L : List (Nat × Obj)}

abbrev pto (x y : Int) : Obj := .cells #[.int .i64 x, .int .i64 y] 67
/-- the i-th place of a rectangle that begins at x0, y0 and is d wide -/
abbrev plv (x0 y0 : Int) (d i : Nat) : Array Value := #[.int .i64 i, ptv (x0 + (i % d : Nat)) (y0 + (i / d : Nat))]

theorem inWide {P : Program} {f : FuncId} {args : Array Value} {w : World} {R : Ending → World → Prop} {n : Nat} (h : Calls P f args w R) : CallsIn Fence.wide n P f args w R := callsIn_wide.2 h

theorem places_any (q0 q1 q2 q3 : Int) (w : World) : Calls Tryz.prog 29 #[R.rv q0 q1 q2 q3] w fun e w' =>
    e = .returned (.func (.func 53) #[] #[.pointer (some ⟨w.heap.size, 0, none⟩), .pointer (some ⟨w.heap.size + 1, 0, none⟩)]) ∧ w' = (w.alloc (R.ro q0 q1 q2 q3)).alloc (numo (wrap64 (q2 - q0))) := by
  go_enter Tryz.func29, Tryz.ntmps29
  go_wp2
  go_ret
  exact ⟨rfl, rfl⟩

theorem qb_of {w : World} {b : Nat} {x0 x1 x2 x3 : Int} {t : TypeId} (h : w.heap[b]? = some (.cells #[.int .i64 x0, .int .i64 x1, .int .i64 x2, .int .i64 x3] t)) : w.cell? ⟨b, 0, none⟩ = some (.int .i64 x0) ∧ w.cell? ⟨b, 1, none⟩ = some (.int .i64 x1) ∧ w.cell? ⟨b, 2, none⟩ = some (.int .i64 x2) ∧ w.cell? ⟨b, 3, none⟩ = some (.int .i64 x3) :=
  ⟨cell_of_row _ _ 0 _ _ _ h, cell_of_row _ _ 1 _ _ _ h, cell_of_row _ _ 2 _ _ _ h, cell_of_row _ _ 3 _ _ _ h⟩

theorem range_at {N k : Nat} (h : k < N) : ∃ post, List.range N = List.range k ++ k :: post := by
  refine ⟨(List.range N).drop (k + 1), ?_⟩
  have h1 := List.take_append_drop k (List.range N)
  rw [List.take_range, Nat.min_eq_left (by omega), List.drop_eq_getElem_cons (by simpa using h)] at h1
  simpa using h1.symm
set_option maxHeartbeats 4000000 in
/-- a rectangle of N places, d wide -/
theorem places_iter (bq bw : Nat) (q0 q1 q2 q3 : Int) (N d : Nat) (X : List Nat) (w : World) (hq : w.heap[bq]? = some (R.ro q0 q1 q2 q3)) (hw : w.heap[bw]? = some (numo d))
    (hbq : bq ∉ X) (hbw : bw ∉ X) (hd : 0 < N → 0 < d) (hd2 : d ≤ 4000000) (hx0 : -2000000 ≤ q0) (hx1 : q0 ≤ 2000000) (hy0 : -2000000 ≤ q1) (hy1 : q1 ≤ 2000000) (hN : N ≤ 1000000) (ha : R.area q0 q1 q2 q3 = N) :
    Iter Tryz.prog 53 #[.pointer (some ⟨bq, 0, none⟩), .pointer (some ⟨bw, 0, none⟩)] (fun i : Nat => plv q0 q1 d i) X (List.range N) w := by
  intro m l J Jx W hW hJ hJx hY h0
  refine calls_any (m := 6) ?_
  refine callsIn_of_wp Tryz.func53 rfl trivial ?_ rfl
  simp only [Tryz.ntmps53, List.size_toArray, List.length_cons, List.length_nil, Nat.reduceAdd, Nat.reduceSub, Array.replicate_succ, Array.replicate_zero, List.push_toArray, List.append_toArray, List.nil_append, List.cons_append]
  have CE : Hid (∀ V, Mv X W V → (V.cell? ⟨bq, 0, none⟩ = some (.int .i64 q0) ∧ V.cell? ⟨bq, 1, none⟩ = some (.int .i64 q1) ∧ V.cell? ⟨bq, 2, none⟩ = some (.int .i64 q2) ∧ V.cell? ⟨bq, 3, none⟩ = some (.int .i64 q3)) ∧ V.cell? ⟨bw, 0, none⟩ = some (.int .i64 d)) := fun V hV =>
    ⟨qb_of ((hW.trans hV).row hbq hq), nb_of ((hW.trans hV).row hbw hw)⟩
  clear hq hw hW
  have hm : Tryz.prog.follows .mixedOrders = true := by kernel_rfl
  obtain ⟨⟨c0, c1, c2, c3⟩, c4⟩ := CE.out W (Mv.refl _ _)
  gi_wp2_with (refine ⟨trivial, ?_⟩; gi_at_call 28; refine (inWide (R.area_any _ _ _ _ _)).mono ?_; rintro e W1 ⟨rfl, hb⟩; rw [ha]; have hJ1 := hJ _ _ _ h0 hb; have hB1 : Mv X W W1 := .of_below hb)
  have HB1 := Lib.hid hB1
  clear c0 c1 c2 c3 c4 h0 hb hB1 ha
  gi_loopw [7] (fun i wr => ∃ k : Nat, k ≤ N ∧ i = .int .i64 k ∧ Hid (J (List.range k) wr) ∧ Hid (Mv X W wr)) (fun i _ => N - (intOf i).toNat)
  case atStart => exact ⟨0, by omega, rfl, hJ1, HB1.out⟩
  case round =>
    obtain ⟨k, hk, rfl, HJ, HB⟩ := hrel
    have hsz := HB.out.size
    by_cases hlt : k < N
    · have hd1 := hd (by omega)
      have HJd : Hid (J (List.range k) wr.drew) := hJ _ _ _ HJ.out ((Below.refl _ wr).drew.mono hsz)
      obtain ⟨post, hpost⟩ := range_at hlt
      obtain ⟨fn, tmps, assign, body, hy, hR⟩ := yield_any (m' := 5) (hY (List.range k) k post _ hpost HJd.out hsz)
      clear hpost
      have HT : Hid (List.range (k + 1) = List.range k ++ [k]) := List.range_succ
      have ht : (k : Int).tmod d = ((k % d : Nat) : Int) := (Int.ofNat_tmod k d).symm
      have hq : (k : Int).tdiv d = ((k / d : Nat) : Int) := (Int.ofNat_tdiv k d).symm
      have b1 : k % d ≤ k := Nat.mod_le _ _
      have b2 : k / d ≤ k := Nat.div_le_self _ _
      have hdz : ¬ d = 0 := by omega
      obtain ⟨⟨c0, c1, c2, c3⟩, c4⟩ := CE.out wr HB.out
      simp only [plv, ptv] at hy
      generalize k % d = m at *
      generalize k / d = q at *
      have w1 : IntKind.i64.wrap (q0 + m) = q0 + m := IntWalk.i64_in _ ⟨by omega, by omega⟩
      have w2 : IntKind.i64.wrap (q : Int) = q := IntWalk.i64_in _ ⟨by omega, by omega⟩
      have w3 : IntKind.i64.wrap (q1 + q) = q1 + q := IntWalk.i64_in _ ⟨by omega, by omega⟩
      have hR2 := hR.mono (R' := fun e W' => ∃ b, e = .returned (.bool b) ∧ Hid (if b then J (List.range (k + 1)) W' ∧ Mv X wr.drew W' else Jx (List.range (k + 1)) W')) (by
        rintro e W3 (⟨rfl, hJ3, hk3⟩ | ⟨rfl, hJx3, _⟩)
        · exact ⟨true, rfl, by rw [HT.out]; exact ⟨hJ3, hk3⟩⟩
        · exact ⟨false, rfl, by rw [HT.out]; exact hJx3⟩)
      have HR := Lib.hid hR2
      clear hR hR2 hY HT
      gi_wp2
      refine wpIn_still_tail (ro := none) 15 hm (by kernel_rfl) (by kernel_rfl) ?_
      simp only [List.take_succ_cons, List.take_zero, List.drop_succ_cons, List.drop_zero]
      repeat still_step
      refine wpStill_nil ?_
      gi_wp2_with (refine HR.out.mono ?_; rintro e W3 ⟨b, rfl, hp⟩)
      · rename_i hx
        cases b
        · refine bodyPost_ret (results_none rfl _ _ _) rfl ?_
          exact ⟨⟨_, rfl⟩, .inr ⟨_, hp.out⟩⟩
        · cases hx
      · rename_i hx
        cases b
        · cases hx
        · go_roundw
          case rel => exact ⟨k + 1, by omega, by go_num, hp.out.1, HB.out.trans ((Mv.drew wr).trans hp.out.2)⟩
          case measure => simp [intOf]; omega
    · obtain rfl : k = N := by omega
      gi_wp2
      go_end0
      exact ⟨⟨_, rfl⟩, .inl HJ.out⟩
end Go.Proofs.YtbodmeiecdomfaaGreat.W

namespace Go.Proofs.YtbodmeiecdomfaaGreat.W
open Go.RowKit Go.Shelf
set_option maxRecDepth 100000
attribute [local go_sem] Oper.semAt_some
variable {W w w' : World} {L : List (Nat × Obj)}

abbrev imo (x0 y0 x1 y1 : Int) (P : Value) : Obj := .cells #[.int .i64 x0, .int .i64 y0, .int .i64 x1, .int .i64 y1, P] 61
/-- the window of x, y: the rectangle that it covers -/
def cov (x y r : Int) : R.Rc := R.gro x y (wrap64 (x + 1)) (wrap64 (y + 1)) r
set_option maxHeartbeats 2000000 in
theorem window_any (x0 y0 x1 y1 x y r : Int) (P : Value) (w : World) : Calls Tryz.prog 60 #[imv x0 y0 x1 y1 P, ptv x y, .int .i64 r] w fun e w' =>
    ∃ b, e = .returned (.func (.func 78) #[] #[.pointer (some ⟨b, 0, none⟩), .pointer (some ⟨w.heap.size, 0, none⟩)]) ∧ (Below w.heap.size w w' ∧ w.heap.size < b ∧ b < w'.heap.size) ∧ w'.heap[w.heap.size]? = some (imo x0 y0 x1 y1 P) ∧ w'.heap[b]? = some (R.ro (cov x y r).x0 (cov x y r).y0 (cov x y r).x1 (cov x y r).y1) := by
  have HG : Hid (∀ V, Calls Tryz.prog 55 #[R.rv x y (wrap64 (x + 1)) (wrap64 (y + 1)), .int .i64 r] V fun e w' => e = .returned (cov x y r).v ∧ Below V.heap.size V w') := fun V => R.grow_any _ _ _ _ _ _
  generalize cov x y r = c at HG ⊢
  go_enter Tryz.func60, Tryz.ntmps60
  have HK : Hid (∀ V, Below ((w.alloc (imo x0 y0 x1 y1 P)).alloc (pto x y)).heap.size ((w.alloc (imo x0 y0 x1 y1 P)).alloc (pto x y)) V → Below w.heap.size w V ∧ w.heap.size + 2 ≤ V.heap.size ∧ V.heap[w.heap.size]? = some (imo x0 y0 x1 y1 P)) := fun V h => by
    have h2 : Below w.heap.size w V := below2.trans (h.mono (by simp; omega))
    refine ⟨h2, by have := h.size; simp at this; omega, ?_⟩
    rw [h.block _ (by simp; omega)]
    exact (Below.heap_alloc _ _ _ (by simp)).trans (World.alloc_heap_new w _)
  go_wp2_with (go_at_call 55; (with_reducible refine (HG.out _).mono ?_); rintro e w' ⟨rfl, hb⟩; have HB := Lib.hid (HK.out _ hb); clear hb)
  go_ret
  obtain ⟨h1, h2, h3⟩ := HB.out
  exact ⟨_, rfl, ⟨h1.alloc h1.size _, by omega, by simp⟩, (Below.heap_alloc _ _ _ (by omega)).trans h3, World.alloc_heap_new _ _⟩
theorem im_of {w : World} {b : Nat} {x0 x1 x2 x3 : Int} {P : Value} {t : TypeId} (h : w.heap[b]? = some (.cells #[.int .i64 x0, .int .i64 x1, .int .i64 x2, .int .i64 x3, P] t)) : w.cell? ⟨b, 0, none⟩ = some (.int .i64 x0) ∧ w.cell? ⟨b, 1, none⟩ = some (.int .i64 x1) ∧ w.cell? ⟨b, 2, none⟩ = some (.int .i64 x2) ∧ w.cell? ⟨b, 3, none⟩ = some (.int .i64 x3) ∧ w.cell? ⟨b, 4, none⟩ = some P :=
  ⟨cell_of_row _ _ 0 _ _ _ h, cell_of_row _ _ 1 _ _ _ h, cell_of_row _ _ 2 _ _ _ h, cell_of_row _ _ 3 _ _ _ h, cell_of_row _ _ 4 _ _ _ h⟩
theorem pt_of {w : World} {b : Nat} {x0 x1 : Int} {t : TypeId} (h : w.heap[b]? = some (.cells #[.int .i64 x0, .int .i64 x1] t)) : w.cell? ⟨b, 0, none⟩ = some (.int .i64 x0) ∧ w.cell? ⟨b, 1, none⟩ = some (.int .i64 x1) :=
  ⟨cell_of_row _ _ 0 _ _ _ h, cell_of_row _ _ 1 _ _ _ h⟩
set_option maxHeartbeats 8000000 in
theorem window_iter (bc bv : Nat) (x0 y0 x1 y1 c0 c1 c2 c3 : Int) (N d : Nat) (P : Value) (ps : List Px) (X : List Nat) (w : World) (hv : w.heap[bv]? = some (imo x0 y0 x1 y1 P)) (hc : w.heap[bc]? = some (R.ro c0 c1 c2 c3))
    (hbv : bv ∉ X) (hbc : bc ∉ X) (hX : ∀ b ∈ X, b < w.heap.size) (hP : ∀ V, Mv X w V → PM V P ps) (hd : 0 < N → 0 < d) (hd2 : d ≤ 4000000) (hdw : wrap64 (c2 - c0) = d) (hx0 : -2000000 ≤ c0) (hx1 : c0 ≤ 2000000) (hy0 : -2000000 ≤ c1) (hy1 : c1 ≤ 2000000) (hN : N ≤ 1000000) (ha : R.area c0 c1 c2 c3 = N)
    (hix : ∀ i, i < N → Plc x0 y0 x1 y1 ps (c0 + (i % d : Nat)) (c1 + (i / d : Nat))) :
    Iter Tryz.prog 78 #[.pointer (some ⟨bc, 0, none⟩), .pointer (some ⟨bv, 0, none⟩)] (fun i : Nat => #[.int .i64 i, (pat x0 y0 x1 ps (c0 + (i % d : Nat)) (c1 + (i / d : Nat))).v]) X (List.range N) w := by
  intro m l J Jx W hW hJ hJx hY h0
  refine calls_any (m := 8) ?_
  refine callsIn_of_wp_marks Tryz.func78 rfl trivial ?_ rfl
  simp only [Tryz.ntmps78, List.size_toArray, List.length_cons, List.length_nil, Nat.reduceAdd, Nat.reduceSub, Array.replicate_succ, Array.replicate_zero, List.push_toArray, List.append_toArray, List.nil_append, List.cons_append]
  have hm : Tryz.prog.follows .mixedOrders = true := by kernel_rfl
  have hWs := hW.size
  obtain ⟨b0, b1, b2, b3⟩ := qb_of ((hW.row hbc hc))
  have HIM : Hid (∀ V, Mv X W V → (V.cell? ⟨bv, 0, none⟩ = some (.int .i64 x0) ∧ V.cell? ⟨bv, 1, none⟩ = some (.int .i64 y0) ∧ V.cell? ⟨bv, 2, none⟩ = some (.int .i64 x1) ∧ V.cell? ⟨bv, 3, none⟩ = some (.int .i64 y1) ∧ V.cell? ⟨bv, 4, none⟩ = some P) ∧ PM V P ps) := fun V h => ⟨im_of ((hW.trans h).row hbv hv), hP V (hW.trans h)⟩
  have hbcl : bc < W.heap.size := (Array.getElem?_eq_some_iff.1 (hW.row hbc hc)).1
  clear hv hc hP
  gi_wp2_with (refine ⟨trivial, ?_⟩; gi_at_call 29; refine (inWide (places_any _ _ _ _ _)).mono ?_; rintro e W1 ⟨rfl, rfl⟩)
  obtain ⟨W3, hW3⟩ : ∃ W3, W3 = ((W.alloc (.cells #[.func (.yield l) #[] #[]] 110)).alloc (R.ro c0 c1 c2 c3)).alloc (numo d) := ⟨_, rfl⟩
  rw [← hW3]
  have z3 : W3.heap.size = W.heap.size + 3 := by rw [hW3]; simp
  have hb3 : Below W.heap.size W W3 := by rw [hW3]; exact R.below3
  have r0 : W3.heap[W.heap.size]? = some (.cells #[.func (.yield l) #[] #[]] 110) := by
    rw [hW3]; exact ((Below.heap_alloc _ _ _ (by simp; omega)).trans (Below.heap_alloc _ _ _ (by simp))).trans (World.alloc_heap_new _ _)
  have r1 : W3.heap[W.heap.size + 1]? = some (R.ro c0 c1 c2 c3) := by
    rw [hW3]; refine (Below.heap_alloc _ _ _ (by simp)).trans ?_; have := World.alloc_heap_new (W.alloc (.cells #[.func (.yield l) #[] #[]] 110)) (R.ro c0 c1 c2 c3); rwa [World.size_alloc] at this
  have r2 : W3.heap[W.heap.size + 1 + 1]? = some (numo d) := by
    rw [hW3]; have := World.alloc_heap_new ((W.alloc (.cells #[.func (.yield l) #[] #[]] 110)).alloc (R.ro c0 c1 c2 c3)) (numo d); rwa [World.size_alloc, World.size_alloc] at this
  clear hW3
  have hXW : ∀ b ∈ X, b < W.heap.size := fun b hb => by have := hX b hb; omega
  have hn : ∀ k, W.heap.size + k ∉ X := fun k hk => by have := hXW _ hk; omega
  refine range_iter (gf := 53) (lb := #[.pointer (some ⟨W.heap.size + 1, 0, none⟩), .pointer (some ⟨W.heap.size + 1 + 1, 0, none⟩)]) (w0 := W3) rfl (enters_of Tryz.func53 (by kernel_rfl) rfl)
    (places_iter (W.heap.size + 1) (W.heap.size + 1 + 1) c0 c1 c2 c3 N d X W3 r1 r2 (hn 1) (hn 2) hd hd2 hx0 hx1 hy0 hy1 hN ha) (Mv.refl _ _) (fun b hb => by have := hXW b hb; omega) (fun _ => rfl)
    (fun pre V => J pre V ∧ V.heap[W.heap.size]? = some (.cells #[.func (.yield l) #[] #[]] 110) ∧ Mv X W V) (fun pre V => Jx pre V)
    ((hJ.mono (by omega)).and ((Loc.row (by omega)).and (Loc.mv (by omega)))) (hJx.mono (by omega)) ⟨hJ _ _ _ h0 hb3, r0, .of_below hb3⟩ ?round ?done ?ret
  case round =>
    rintro lp pre x post V hx hl hlt ⟨j0, jr, jm⟩
    have hxN : x < N := by
      have : x ∈ List.range N := by rw [hx]; simp
      simpa using this
    have HPL := Lib.hid (hix x hxN)
    have HJA : Hid (∀ V2, Mv [lp] (V.alloc (pto (c0 + (x % d : Nat)) (c1 + (x / d : Nat)))) V2 → Below W.heap.size V V2) := fun V2 h => by
      have h1 : Below W.heap.size V (V.alloc (pto (c0 + (x % d : Nat)) (c1 + (x / d : Nat)))) := below1.mono jm.size
      exact h1.trans (h.below (by simp; omega) (by have := jm.size; simp; omega))
    have HPT : Hid (∀ V2, Mv [lp] (V.alloc (pto (c0 + (x % d : Nat)) (c1 + (x / d : Nat)))) V2 → V2.heap[V.heap.size]? = some (pto (c0 + (x % d : Nat)) (c1 + (x / d : Nat)))) := fun V2 h =>
      h.row (by simp; omega) (World.alloc_heap_new _ _)
    have HRB : Hid (∀ V2, Mv [lp] (V.alloc (pto (c0 + (x % d : Nat)) (c1 + (x / d : Nat)))) V2 → V2.heap[W.heap.size]? = some (.cells #[.func (.yield l) #[] #[]] 110)) := fun V2 h =>
      h.row (by simp; omega) ((Below.heap_alloc _ _ _ (by have := (Array.getElem?_eq_some_iff.1 jr).1; omega)).trans jr)
    have HXA : Hid (Mv X V (V.alloc (pto (c0 + (x % d : Nat)) (c1 + (x / d : Nat))))) := Mv.alloc _ _
    have HVB : Hid (∀ V2, Mv X V V2 → Mv X W V2) := fun V2 h => jm.trans h
    have HBM : Hid (∀ V2, Below W.heap.size V V2 → Mv X W V2) := fun V2 h => (Loc.mv (β := Unit) (Nat.le_refl _)) () _ _ jm h
    gi_wp2
    refine ⟨HXA.out, fun V2 hV2 => ?_⟩
    have hB2 := HJA.out V2 hV2
    have hp2 := HPT.out V2 hV2
    have hj2 := hJ _ _ _ j0 hB2
    have hr2 : V2.heap[W.heap.size]? = some (.cells #[.func (.yield l) #[] #[]] 110) := HRB.out V2 hV2
    have hm2 := HBM.out _ hB2
    have HYY : Hid (∀ V4, Below V2.heap.size V2 V4 → V4.cell? ⟨W.heap.size, 0, none⟩ = some (.func (.yield l) #[] #[]) ∧ ∃ fn tmps assign body, (Instr.yield l #[.int .i64 x, (pat x0 y0 x1 ps (c0 + (x % d : Nat)) (c1 + (x / d : Nat))).v]).run Tryz.prog V4 = .ok (.round l fn tmps assign body) V4 ∧
        RoundIn Fence.wide 5 Tryz.prog l fn tmps assign body V4 (fun e W' => ∃ b, e = .returned (.bool b) ∧ Hid (if b then J (pre ++ [x]) W' ∧ Mv X V4 W' else Jx (pre ++ [x]) W' ∧ ∃ Y, (∀ b ∈ Y, b < W.heap.size) ∧ Mv Y V4 W'))) := fun V4 h4 => by
      have hs2 : W.heap.size ≤ V2.heap.size := hm2.size
      refine ⟨nb_of ((h4.block _ (by have := (Array.getElem?_eq_some_iff.1 hr2).1; omega)).trans hr2), ?_⟩
      obtain ⟨fn, tmps, assign, body, hy, hR⟩ := yield_any (m' := 5) (hY pre x post V4 hx (hJ _ _ _ hj2 (h4.mono hs2)) (Nat.le_trans hs2 h4.size))
      refine ⟨fn, tmps, assign, body, hy, hR.mono ?_⟩
      rintro e W' (⟨rfl, h1, h2⟩ | ⟨rfl, h1, h2⟩)
      · exact ⟨true, rfl, h1, h2⟩
      · exact ⟨false, rfl, h1, h2⟩
    have HI5 : Hid (∀ V5, Mv X V2 V5 → V5.heap[W.heap.size]? = some (.cells #[.func (.yield l) #[] #[]] 110) ∧ Mv X W V5) := fun V5 h => ⟨h.row (hn 0) hr2, hm2.trans h⟩
    obtain ⟨p0, p1⟩ := pt_of hp2
    have y0c := nb_of hr2
    obtain ⟨⟨i0, i1, i2, i3, i4⟩, hPM⟩ := HIM.out _ hm2
    have hPMd : PM V2.drew P ps := hPM.later (Below.refl _ V2).drew
    clear hPM hp2 hr2 hj2 hB2 hV2 hY hix hx hm2 HJA HPT HXA HVB HBM HRB j0 jr hJ hJx HIM b0 b1 b2 b3 h0
    generalize hpp : pat x0 y0 x1 ps (c0 + (x % d : Nat)) (c1 + (x / d : Nat)) = pp at *
    generalize c0 + ((x % d : Nat) : Int) = px at *
    generalize c1 + ((x / d : Nat) : Int) = py at *
    have HPP := Lib.hid hpp
    clear hpp
    gi_wp2
    gi_region_with_o (first
      | (refine ⟨trivial, ?_⟩; gi_at_call 73; refine (CallsIn.inRound lp (inWide (pixel_at _ hPMd HPL.out))).mono ?_; rintro e V4 ⟨rfl, hb4⟩; rw [HPP.out]; have hb5 : Below V2.heap.size V2 V4 := (Below.refl _ V2).drew.trans hb4; obtain ⟨y4, fn, tmps, assign, body, hy, hR⟩ := HYY.out V4 hb5; have HB5 := Lib.hid hb5; clear hb5 hb4)
      | (refine RoundIn.mono hR ?_; rintro e V5 ⟨b, rfl, hp⟩))
    all_goals
      cases b
      · gi_wp2
        obtain ⟨h1, Y, h2, h3⟩ := hp.out
        exact ⟨⟨Y, fun b hb => by have := h2 b hb; omega, (Mv.of_below HB5.out).trans h3⟩, h1⟩
      · gi_wp2
        obtain ⟨h1, h2⟩ := hp.out
        obtain ⟨h3, h4⟩ := HI5.out _ ((Mv.of_below HB5.out).trans h2)
        exact ⟨(Mv.of_below HB5.out).trans h2, h1, h3, h4⟩
  case done =>
    rintro D V hD ⟨j0, _, _⟩ hK
    have hb : Below W.heap.size V (V.putObj D (.deferred none)) := (Mv.put V _).below (by simp; omega) (by have := (Array.getElem?_eq_some_iff.1 hK).1; omega)
    refine ⟨by simp, .inl ⟨_, _, rfl, run_takeDeferred hK, ?_⟩⟩
    exact ⟨_, results_none rfl _ _ _, ⟨_, rfl⟩, .inl (hJ _ _ _ j0 hb)⟩
  case ret =>
    rintro D pre V hD hj hK
    have hb : Below W.heap.size V (V.putObj D (.deferred none)) := (Mv.put V _).below (by simp; omega) (by have := (Array.getElem?_eq_some_iff.1 hK).1; omega)
    gi_wp2
    refine ⟨by simp, .inl ⟨_, _, rfl, run_takeDeferred hK, ?_⟩⟩
    exact ⟨_, results_none rfl _ _ _, ⟨_, rfl⟩, .inr ⟨_, hJx _ _ _ hj hb⟩⟩
end Go.Proofs.YtbodmeiecdomfaaGreat.W
