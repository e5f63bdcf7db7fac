/-
  The iterator over the places of a rectangle: what it yields.
-/
import Derived.Test.YtihfpflnnhiikaaGreatWIter
import Derived.Test.YtihfpflnnhiikaaGreatENum
namespace Go.Proofs.YtihfpflnnhiikaaGreat.W
open Go.RowKit Go.Shelf
set_option maxRecDepth 100000
attribute [local go_sem] Oper.semAt_some
variable {W w w' : World} {L : List (Nat × Obj)}

abbrev pto (x y : Int) : Obj := .cells #[.int .i64 x, .int .i64 y] 62
/-- the i-th place of a rectangle that begins at x0, y0 and is d wide -/
abbrev plv (x0 y0 : Int) (d i : Nat) : Array Value := #[.int .i64 i, ptv (x0 + (i % d : Nat)) (y0 + (i / d : Nat))]

theorem inWide {P : Program} {f : FuncId} {args : Array Value} {w : World} {R : Ending → World → Prop} {n : Nat} (h : Calls P f args w R) : CallsIn Fence.wide n P f args w R := callsIn_wide.2 h

theorem places_any (q0 q1 q2 q3 : Int) (w : World) : Calls Tryz.prog 21 #[R.rv q0 q1 q2 q3] w fun e w' =>
    e = .returned (.func (.func 42) #[] #[.pointer (some ⟨w.heap.size, 0, none⟩), .pointer (some ⟨w.heap.size + 1, 0, none⟩)]) ∧ w' = (w.alloc (R.ro q0 q1 q2 q3)).alloc (numo (wrap64 (q2 - q0))) := by
  go_enter Tryz.func21, Tryz.ntmps21
  go_wp2
  go_ret
  exact ⟨rfl, rfl⟩

theorem qb_of {w : World} {b : Nat} {x0 x1 x2 x3 : Int} {t : TypeId} (h : w.heap[b]? = some (.cells #[.int .i64 x0, .int .i64 x1, .int .i64 x2, .int .i64 x3] t)) : w.cell? ⟨b, 0, none⟩ = some (.int .i64 x0) ∧ w.cell? ⟨b, 1, none⟩ = some (.int .i64 x1) ∧ w.cell? ⟨b, 2, none⟩ = some (.int .i64 x2) ∧ w.cell? ⟨b, 3, none⟩ = some (.int .i64 x3) :=
  ⟨cell_of_row _ _ 0 _ _ _ h, cell_of_row _ _ 1 _ _ _ h, cell_of_row _ _ 2 _ _ _ h, cell_of_row _ _ 3 _ _ _ h⟩

theorem range_at {N k : Nat} (h : k < N) : ∃ post, List.range N = List.range k ++ k :: post := by
  refine ⟨(List.range N).drop (k + 1), ?_⟩
  have h1 := List.take_append_drop k (List.range N)
  rw [List.take_range, Nat.min_eq_left (by omega), List.drop_eq_getElem_cons (by simpa using h)] at h1
  simpa using h1.symm
set_option maxHeartbeats 4000000 in
/-- a rectangle of N places, d wide -/
theorem places_iter (bq bw : Nat) (q0 q1 q2 q3 : Int) (N d : Nat) (X : List Nat) (w : World) (hq : w.heap[bq]? = some (R.ro q0 q1 q2 q3)) (hw : w.heap[bw]? = some (numo d))
    (hbq : bq ∉ X) (hbw : bw ∉ X) (hd : 0 < N → 0 < d) (hd2 : d ≤ 4000000) (hx0 : -2000000 ≤ q0) (hx1 : q0 ≤ 2000000) (hy0 : -2000000 ≤ q1) (hy1 : q1 ≤ 2000000) (hN : N ≤ 1000000) (ha : R.area q0 q1 q2 q3 = N) :
    Iter Tryz.prog 42 #[.pointer (some ⟨bq, 0, none⟩), .pointer (some ⟨bw, 0, none⟩)] (fun i : Nat => plv q0 q1 d i) X (List.range N) w := by
  intro m l J Jx W hW hJ hJx hY h0
  refine calls_any (m := 6) ?_
  refine callsIn_of_wp Tryz.func42 rfl trivial ?_ rfl
  simp only [Tryz.ntmps42, List.size_toArray, List.length_cons, List.length_nil, Nat.reduceAdd, Nat.reduceSub, Array.replicate_succ, Array.replicate_zero, List.push_toArray, List.append_toArray, List.nil_append, List.cons_append]
  have CE : Hid (∀ V, Mv X W V → (V.cell? ⟨bq, 0, none⟩ = some (.int .i64 q0) ∧ V.cell? ⟨bq, 1, none⟩ = some (.int .i64 q1) ∧ V.cell? ⟨bq, 2, none⟩ = some (.int .i64 q2) ∧ V.cell? ⟨bq, 3, none⟩ = some (.int .i64 q3)) ∧ V.cell? ⟨bw, 0, none⟩ = some (.int .i64 d)) := fun V hV =>
    ⟨qb_of ((hW.trans hV).row hbq hq), nb_of ((hW.trans hV).row hbw hw)⟩
  clear hq hw hW
  have hm : Tryz.prog.follows .mixedOrders = true := by kernel_rfl
  obtain ⟨⟨c0, c1, c2, c3⟩, c4⟩ := CE.out W (Mv.refl _ _)
  gi_wp2_with (refine ⟨trivial, ?_⟩; gi_at_call 20; refine (inWide (R.area_any _ _ _ _ _)).mono ?_; rintro e W1 ⟨rfl, hb⟩; rw [ha]; have hJ1 := hJ _ _ _ h0 hb; have hB1 : Mv X W W1 := .of_below hb)
  have HB1 := Lib.hid hB1
  clear c0 c1 c2 c3 c4 h0 hb hB1 ha
  gi_loopw [7] (fun i wr => ∃ k : Nat, k ≤ N ∧ i = .int .i64 k ∧ Hid (J (List.range k) wr) ∧ Hid (Mv X W wr)) (fun i _ => N - (intOf i).toNat)
  case atStart => exact ⟨0, by omega, rfl, hJ1, HB1.out⟩
  case round =>
    obtain ⟨k, hk, rfl, HJ, HB⟩ := hrel
    have hsz := HB.out.size
    by_cases hlt : k < N
    · have hd1 := hd (by omega)
      have HJd : Hid (J (List.range k) wr.drew) := hJ _ _ _ HJ.out ((Below.refl _ wr).drew.mono hsz)
      obtain ⟨post, hpost⟩ := range_at hlt
      obtain ⟨fn, tmps, assign, body, hy, hR⟩ := yield_any (m' := 5) (hY (List.range k) k post _ hpost HJd.out hsz)
      clear hpost
      have HT : Hid (List.range (k + 1) = List.range k ++ [k]) := List.range_succ
      have ht : (k : Int).tmod d = ((k % d : Nat) : Int) := (Int.ofNat_tmod k d).symm
      have hq : (k : Int).tdiv d = ((k / d : Nat) : Int) := (Int.ofNat_tdiv k d).symm
      have b1 : k % d ≤ k := Nat.mod_le _ _
      have b2 : k / d ≤ k := Nat.div_le_self _ _
      have hdz : ¬ d = 0 := by omega
      obtain ⟨⟨c0, c1, c2, c3⟩, c4⟩ := CE.out wr HB.out
      simp only [plv, ptv] at hy
      generalize k % d = m at *
      generalize k / d = q at *
      have w1 : IntKind.i64.wrap (q0 + m) = q0 + m := IntWalk.i64_in _ ⟨by omega, by omega⟩
      have w2 : IntKind.i64.wrap (q : Int) = q := IntWalk.i64_in _ ⟨by omega, by omega⟩
      have w3 : IntKind.i64.wrap (q1 + q) = q1 + q := IntWalk.i64_in _ ⟨by omega, by omega⟩
      have hR2 := hR.mono (R' := fun e W' => ∃ b, e = .returned (.bool b) ∧ Hid (if b then J (List.range (k + 1)) W' ∧ Mv X wr.drew W' else Jx (List.range (k + 1)) W')) (by
        rintro e W3 (⟨rfl, hJ3, hk3⟩ | ⟨rfl, hJx3, _⟩)
        · exact ⟨true, rfl, by rw [HT.out]; exact ⟨hJ3, hk3⟩⟩
        · exact ⟨false, rfl, by rw [HT.out]; exact hJx3⟩)
      have HR := Lib.hid hR2
      clear hR hR2 hY HT
      gi_wp2
      refine wpIn_still_tail (ro := none) 15 hm (by kernel_rfl) (by kernel_rfl) ?_
      simp only [List.take_succ_cons, List.take_zero, List.drop_succ_cons, List.drop_zero]
      repeat still_step
      refine wpStill_nil ?_
      gi_wp2_with (refine HR.out.mono ?_; rintro e W3 ⟨b, rfl, hp⟩)
      · rename_i hx
        cases b
        · refine bodyPost_ret (results_none rfl _ _ _) rfl ?_
          exact ⟨⟨_, rfl⟩, .inr ⟨_, hp.out⟩⟩
        · cases hx
      · rename_i hx
        cases b
        · cases hx
        · go_roundw
          case rel => exact ⟨k + 1, by omega, by go_num, hp.out.1, HB.out.trans ((Mv.drew wr).trans hp.out.2)⟩
          case measure => simp [intOf]; omega
    · obtain rfl : k = N := by omega
      gi_wp2
      go_end0
      exact ⟨⟨_, rfl⟩, .inl HJ.out⟩
end Go.Proofs.YtihfpflnnhiikaaGreat.W
