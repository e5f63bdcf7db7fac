/-
  What the statements' own tiles returns: the first n positions.
-/
import Derived.Test.YtjadccelplnpnaaTilesIt
import Derived.Test.YtjadccelplnpnaaSame
import Derived.Sort.CutIn
namespace Go.Proofs.Ytjadccelplnpnaa
open Go.RowKit Go.Shelf
attribute [local go_sem] Oper.semAt_some

def tcs (l : List (Int × Int)) : List Value := l.flatMap fun t => [.int .i64 t.1, .int .i64 t.2]
theorem tcs_snoc (l : List (Int × Int)) (x : Int × Int) : tcs (l ++ [x]) = tcs l ++ [.int .i64 x.1, .int .i64 x.2] := by simp [tcs]
theorem Try.infoPos : (Try.prog.info? 30).map (fun i => (i.zero, i.size, i.bytes)) = some (some (tv 0 0), 2, 16) := by kernel_rfl
theorem cell2_new (W : World) (a b : Int) (t : TypeId) : ∀ j u, [Value.int .i64 a, Value.int .i64 b][j]? = some u → (W.alloc (.cells #[.int .i64 a, .int .i64 b] t)).cell? ((⟨W.heap.size, 0, none⟩ : Addr).add j) = some u := by
  intro j u hj
  have hadd : (⟨W.heap.size, 0, none⟩ : Addr).add j = ⟨W.heap.size, j, none⟩ := by unfold Addr.add; split <;> simp_all
  rw [hadd, cell_of_row _ _ _ _ t (0, 0) (World.alloc_heap_new W _)]
  rw [← hj]; simp

theorem ownsRow_slice {W : World} {base : Nat} {e : TypeId} {size k : Nat} {v : Value} {xs : List Value} (h : W.ownsRow base e size v k xs) : ∃ po c, v = .slice po k c := by
  rcases h.2 with ⟨rfl, h0⟩ | ⟨g, cap, _, rfl, _⟩
  · exact ⟨none, 0, by rw [h0]⟩
  · exact ⟨_, cap, rfl⟩

theorem tilesF_any (x0 y0 x1 y1 : Int) (w : World) : Calls Try.prog 63 #[rv x0 y0 x1 y1] w fun e w' =>
    e = .returned (.func (.func 66) #[] #[.pointer (some ⟨w.heap.size, 0, none⟩)]) ∧ w' = w.alloc (ro x0 y0 x1 y1) := by
  go_enter Try.func63, Try.ntmps63
  go_wp2
  go_ret
  exact ⟨rfl, rfl⟩

set_option maxRecDepth 100000 in
set_option maxHeartbeats 4000000 in
theorem tiles_any (x0 y0 x1 y1 : Int) (N : Nat) (w : World) (hx0 : -100000 ≤ x0) (hx1 : x1 ≤ 100000) (hy0 : -100000 ≤ y0) (hy1 : y1 ≤ 100000) (hN : N ≤ 1000) : Calls Try.prog 37 #[rv x0 y0 x1 y1, .int .i64 N] w fun e w' => ∃ v, e = .returned v ∧
    w'.ownsRow w.heap.size 30 2 v ((tiles x0 y0 x1 y1).take N).length (tcs ((tiles x0 y0 x1 y1).take N)) ∧ Below w.heap.size w w' := by
  refine (callsIn_wide (n := 6)).1 ?_
  refine callsIn_of_wp_marks Try.func37 rfl trivial ?_ rfl
  simp only [Try.ntmps37, List.size_toArray, List.length_cons, List.length_nil, Nat.reduceAdd, Nat.reduceSub, Array.replicate_succ, Array.replicate_zero, List.push_toArray, List.append_toArray, List.nil_append, List.cons_append]
  refine wpIn_wide.2 ?_
  go_upto_region 2 with fail
  have hs := (((St.start w).alloc (ro x0 y0 x1 y1)).alloc (.cells #[.int .i64 N] 3)).alloc (.cells #[.slice none 0 0] 52)
  rw [World.size_alloc, World.size_alloc] at hs
  have hr := hs.rect (b := w.heap.size) (x0 := x0) (x1 := y0) (x2 := x1) (x3 := y1) (by simp)
  generalize ((w.alloc (ro x0 y0 x1 y1)).alloc (.cells #[.int .i64 N] 3)).alloc (.cells #[.slice none 0 0] 52) = w1 at hs hr ⊢
  have hs5 := hs.alloc (ro x0 y0 x1 y1)
  have h6 : (w1.alloc (ro x0 y0 x1 y1)).heap[w1.heap.size]? = some (ro x0 y0 x1 y1) := World.alloc_heap_new w1 _
  have h8 : w1.heap.size + 1 = (w1.alloc (ro x0 y0 x1 y1)).heap.size := by simp
  go_upto_region 3 with (go_at_call 63; (with_reducible refine (tilesF_any _ _ _ _ _).mono ?_); rintro e w5 ⟨rfl, rfl⟩)
  clear hs hr
  generalize w1.heap.size = b4 at hs5 h6 h8 ⊢
  generalize w1.alloc (ro x0 y0 x1 y1) = w5 at hs5 h6 h8 ⊢
  have hnf : ∀ V, (binOp .eql 69 (.func (.func 66) #[] #[.pointer (some ⟨b4, 0, none⟩)]) .nilFunc).run Try.prog V = .ok (.bool false) V := fun V => by kernel_rfl
  go_wp2_with fail
  clear hnf
  have hbox : Boxed w5 (w.heap.size + 1 + 1) 52 (.slice none 0 0) := hs5.row (by simp)
  have hnb : Boxed w5 (w.heap.size + 1) 3 (.int .i64 N) := hs5.row (by simp)
  have hbel := hs5.below
  have hlt5 := hbox.lt
  have hrb : rowB w5 (w.heap.size + 1 + 1) = none := rowB_boxed hbox
  clear hs5
  obtain ⟨inf, hi, hz0, hz1, hz2⟩ := info_parts Try.infoPos
  refine (wpIn_wide (n := 6)).1 ?_
  refine wpIn_rangeFunc_ownH rfl (by omega) (gf := 66) (lb := #[.pointer (some ⟨b4, 0, none⟩)]) rfl trivial (enters_of Try.func66 (by kernel_rfl) rfl)
    (tiles_stops 5 (by omega) (w.heap.size + 1 + 1) b4 x0 y0 x1 y1 w5 hx0 hx1 hy0 hy1 hlt5 hrb h6) (fun h k => h.trans k) (fun W l o o' hl ho hc _ => Kp.putObj o' (by omega) ho hc) (Below.refl _ _) (fun _ => rfl)
    (fun (pre : List (Int × Int)) W => (((∃ v, Boxed W (w.heap.size + 1 + 1) 52 v ∧ W.ownsRow w.heap.size 30 2 v pre.length (tcs pre) ∧ True) ∧ Below w.heap.size w W) ∧ Boxed W (w.heap.size + 1) 3 (.int .i64 N)) ∧ pre.length ≤ N)
    (fun c (pre : List (Int × Int)) W => (((∃ v, Boxed W (w.heap.size + 1 + 1) 52 v ∧ W.ownsRow w.heap.size 30 2 v (pre.take N).length (tcs (pre.take N)) ∧ True) ∧ Below w.heap.size w W)) ∧ (c = .exit 0 ∧ N < pre.length))
    (OwnFrom.and (OwnFrom.and (OwnFrom.and (Own.from (holdsRow_own w.heap.size (w.heap.size + 1 + 1) 52 30 2 (fun pre : List (Int × Int) => pre.length) (fun pre => tcs pre) (fun _ _ => True)) _) (ownFrom_below (Nat.le_refl _) (by omega))) (Own.from (boxed_own _ _ (fun _ => _)) _)) (ownFrom_pure _ (fun pre : List (Int × Int) => pre.length ≤ N)))
    (fun c => OwnFrom.and (OwnFrom.and (Own.from (holdsRow_own w.heap.size (w.heap.size + 1 + 1) 52 30 2 (fun pre : List (Int × Int) => (pre.take N).length) (fun pre => tcs (pre.take N)) (fun _ _ => True)) _) (ownFrom_below (Nat.le_refl _) (by omega))) (ownFrom_pure _ (fun pre : List (Int × Int) => c = .exit 0 ∧ N < pre.length)))
    ⟨⟨⟨⟨_, hbox, World.ownsRow_nil _ _ _ _, trivial⟩, hbel⟩, hnb⟩, by simp⟩
    (fun t a' W => ∃ Bx, W.heap[Bx]? = some (tob t.1 t.2) ∧ a' = { tmps := #[rv x0 y0 x1 y1, .int .i64 N, .pointer (some ⟨w.heap.size, 0, none⟩), .pointer (some ⟨w.heap.size + 1, 0, none⟩), .slice none 0 0, .pointer (some ⟨w.heap.size + 1 + 1, 0, none⟩), .func (.func 66) #[] #[.pointer (some ⟨b4, 0, none⟩)], .pointer (some ⟨Bx, 0, none⟩), rv x0 y0 x1 y1, .func (.func 66) #[] #[.pointer (some ⟨b4, 0, none⟩)], .func (.func 66) #[] #[.pointer (some ⟨b4, 0, none⟩)], .bool false, undef, undef, .func (.func 66) #[] #[.pointer (some ⟨b4, 0, none⟩)], tv t.1 t.2, undef, undef, undef, undef, undef, undef, undef, undef, undef], defers := [] })
    (fun x a' _ W W' row ⟨Bx, h2, h3⟩ hg hr => ⟨Bx, heap_kept h2 hg (fun r e => (hr r e).2), h3⟩) ?assign ?body ?done ?stop
  case assign =>
    rintro l pre x W K ⟨⟨⟨⟨v, hv, hrow, _⟩, hB⟩, hn⟩, hle⟩ hK
    gi_wp2
    exact hK _ _ ((KeepsOthers.alloc _ _).from _) (Kp.below below1 hv.lt) ⟨⟨⟨⟨v, hv.alloc _, hrow.alloc _, trivial⟩, hB.alloc hB.size _⟩, hn.alloc _⟩, hle⟩ ⟨W.heap.size, World.alloc_heap_new W _, rfl⟩
  case body =>
    rintro l pre t a' W hl ⟨r, hr⟩ ⟨⟨⟨⟨v, hv, hrow, _⟩, hB⟩, hn⟩, hle⟩ ⟨Bx, hbx, rfl⟩ hlt
    obtain ⟨c0, c1⟩ : TB W Bx t.1 t.2 := ⟨cell_of_row _ _ 0 _ _ _ hbx, cell_of_row _ _ 1 _ _ _ hbx⟩
    have hnc := hn.cell
    obtain ⟨po, cp, rfl⟩ := ownsRow_slice hrow
    have hvc := hv.cell
    by_cases hge : N ≤ pre.length
    · have hlN : Hid (pre.length = N) := by unfold Hid; omega
      gi_wp2
      exact ⟨KeepsFrom.refl _ _, ⟨⟨_, hv, by rw [List.take_append_of_le_length (by have := hlN.out; omega), List.take_of_length_le (by have := hlN.out; omega)]; exact hrow, trivial⟩, hB⟩, rfl, by rw [List.length_append]; have := hlN.out; simp; omega⟩
    · have T1 := (bas_le hrow hB.size).2.2
      have T2 : bas (.slice po pre.length cp) W ≤ (W.alloc (tob t.1 t.2)).heap.size := by have := (bas_le hrow hB.size).2.1; simp; omega
      have T4 : ∀ u ∈ [Value.int .i64 t.1, .int .i64 t.2], u.oneCell' = true := by simp [Value.oneCell']
      have T5 : pre.length + 1 ≤ maxLen := by unfold maxLen; omega
      have T6 : (pre.length + 1) * 16 ≤ 140737488355328 := by omega
      have hgi : ¬ ((N : Int) ≤ pre.length) := by omega
      gi_upto_if 19 with fail
      gi_wp2_with (gi_at_builtin; refine wpListIn_append_own _ rfl (.tmp 20) (.tmp 22) 52 rfl (bas (.slice po pre.length cp) W) 30 inf (tv 0 0) 2 16 Try.underlying52 hi hz0 hz1 hz2 rfl (by decide) _ _ _ (by rfl) (T1.alloc _) ⟨W.heap.size, 0, none⟩ 1 1 [.int .i64 t.1, .int .i64 t.2] (by rfl) rfl (cell2_new _ _ _ _) T4 T5 T6 T2 ?_; intro v' w1 hown' hgrow _; have hkp := Kp.appended hv (by decide) hrow hown' hgrow; have hown2 := ownsRow_le hown' (bas_le hrow hB.size).1; obtain ⟨g', cap', rfl⟩ := ownsRow_succ hown'; obtain ⟨hv2, hv3, hr3, hk3, hb3⟩ := hv.appended (by decide) hrow hB.size (by omega) hown2 hgrow; have hc1 := hv2.cell; have hf1 := hv2.frozen)
      have hn1 : Boxed w1 (w.heap.size + 1) 3 (.int .i64 N) := (hn.alloc _).kept hgrow (hn.not_row (by decide) hrow)
      exact ⟨hk3.from _, hkp, ⟨⟨⟨_, hv3, by rw [tcs_snoc]; simpa using hr3⟩, hB.trans hb3⟩, hn1.other (by omega) _⟩, by rw [List.length_append]; simp; omega⟩
  case done =>
    rintro D ys W hD rfl ⟨⟨⟨⟨v, hv, hrow, _⟩, hB⟩, hn⟩, hle⟩ hK
    have hc := hv.cell
    go_wp2_with fail
    rw [List.take_of_length_le hle]
    refine ⟨by simp, .inl ⟨_, _, rfl, run_takeDeferred hK, ?_⟩⟩
    exact ⟨_, results_tmp rfl _ _ _, v, rfl, ownsRow_putObj hrow _ hK rfl, hB.trans (belowK_b (w := w5) (by omega) W D _ _ hD hK rfl rfl)⟩
  case stop =>
    rintro D c pre W hD hpre ⟨⟨⟨v, hv, hrow, _⟩, hB⟩, rfl, hlt⟩ hK
    have hc := hv.cell
    have htk : (tiles x0 y0 x1 y1).take N = pre.take N := by
      obtain ⟨q, hq⟩ := hpre
      rw [← hq, List.take_append_of_le_length (by omega)]
    have HT := Lib.hid htk; clear htk
    gi_wp2
    go_wp2_with fail
    rw [HT.out]
    refine ⟨by simp, .inl ⟨_, _, rfl, run_takeDeferred hK, ?_⟩⟩
    exact ⟨_, results_tmp rfl _ _ _, v, rfl, ownsRow_putObj hrow _ hK rfl, hB.trans (belowK_b (w := w5) (by omega) W D _ _ hD hK rfl rfl)⟩
end Go.Proofs.Ytjadccelplnpnaa
