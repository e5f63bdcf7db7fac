/-
  The iterator of the arguments of n points.
-/
import Derived.Test.YtcmplgiilcfncaaRange
import Derived.Test.YtcmplgiilcfncaaNum
namespace Go.Proofs.Ytcmplgiilcfncaa
open Go.RowKit Go.Shelf
attribute [local go_sem] Oper.semAt_some
variable {w : World}

theorem inWide {P : Program} {f : FuncId} {args : Array Value} {w : World} {R : Ending → World → Prop} {n : Nat} (h : Calls P f args w R) : CallsIn Fence.wide n P f args w R := callsIn_wide.2 h
abbrev ptr (b : Nat) : Value := .pointer (some ⟨b, 0, none⟩)
theorem arguments_any (n : Int) (w : World) : Calls Try.prog 60 #[.int .i64 n] w fun e w' => e = .returned (.func (.func 70) #[] #[ptr w.heap.size]) ∧ w' = w.alloc (vo (.int .i64 n) 3) := by
  go_enter Try.func60, Try.ntmps60
  go_wp2
  go_ret
  exact ⟨rfl, rfl⟩
theorem Kept.cell {M : Nat → Prop} {W W' : World} (h : Kept M W W') {b : Nat} {x : Value} {t : TypeId} (hb : W.heap[b]? = some (vo x t)) (hm : ¬ M b) : W'.cell? ⟨b, 0, none⟩ = some x :=
  cell_of_row _ _ 0 _ _ _ (h.row hb hm)

theorem range_pre {k n : Nat} (h : k < n) : (List.range k ++ [k]) <+: List.range n := by
  rw [← List.range_succ]
  have e : n = (k + 1) + (n - (k + 1)) := by omega
  rw [e, List.range_add]
  exact ⟨_, rfl⟩
set_option maxRecDepth 100000 in
set_option maxHeartbeats 2000000 in
theorem args_seq (n B : Nat) (M : Nat → Prop) (w : World) (h2 : 2 ≤ n) (h3 : n ≤ 257) (hB : w.heap[B]? = some (vo (.int .i64 n) 3)) (hM : ¬ M B) :
    SeqAll Try.prog 70 #[ptr B] (fun i : Nat => #[.int .i64 i, .int .i64 (arg i n)]) M (List.range n) w := by
  intro l J W hW hMW hJ hY h0
  have hB1 : W.heap[B]? = some (vo (.int .i64 n) 3) := (hW.block B (Array.getElem?_eq_some_iff.1 hB).1).trans hB
  clear hB hW
  refine (callsIn_wide (n := 5)).1 ?_
  refine callsIn_of_wp Try.func70 rfl trivial ?_ rfl
  simp only [Try.ntmps70, List.size_toArray, List.length_cons, List.length_nil, Nat.reduceAdd, Nat.reduceSub, Array.replicate_succ, Array.replicate_zero, List.push_toArray, List.append_toArray, List.nil_append, List.cons_append]
  have HC : Hid (∀ V, Kept M W V → V.cell? ⟨B, 0, none⟩ = some (.int .i64 n)) := fun V hV => hV.cell hB1 hM
  have hc0 := HC.out W (Kept.refl _ _)
  gi_wp2
  clear hc0 hB1
  gi_loopw [5] (fun i wr => ∃ k : Nat, k ≤ n ∧ i = .int .i64 k ∧ J (List.range k) wr ∧ Hid (Kept M W wr)) (fun i _ => n - (intOf i).toNat)
  case atStart => exact ⟨0, by omega, rfl, h0, Kept.refl _ _⟩
  case round =>
    obtain ⟨k, hk, rfl, hJk, HK⟩ := hrel
    by_cases hlt : k < n
    · have hc1 := HC.out _ HK.out
      have hpre := range_pre hlt
      have hY1 := fun m => hY _ k wr m hJk hpre
      have HA : Hid (∀ m, YieldAt Fence.wide m Try.prog l #[.int .i64 k, .int .i64 (arg k n)] wr fun e W' => e = .returned (.bool true) ∧ J (List.range k ++ [k]) W' ∧ Kept M wr W') := hY1
      have harg := arg_near2 k n
      have HG := Lib.hid harg
      clear hpre hY1 harg
      obtain ⟨fn, tmps, assign, body, hy, hR⟩ := HA.out 3
      gi_wp2_with (refine ⟨trivial, ?_⟩; gi_at_call 71; refine (inWide (nearest_any _ _ _ (by omega) (by omega) (by omega) (by omega))).mono ?_; rintro e W1 ⟨rfl, rfl⟩; rw [HG.out])
      refine (round_any hR).mono ?_
      rintro e W3 ⟨rfl, hJ3, hk3⟩
      have HJ3 := Lib.hid hJ3
      have HK3 : Hid (Kept M W W3) := HK.out.trans hk3
      clear hJ3 hk3 hJk hR hy
      gi_wp2
      go_roundw
      case rel => exact ⟨k + 1, by omega, by go_num, by rw [List.range_succ]; exact HJ3.out, HK3⟩
      case measure => simp [intOf]; omega
    · obtain rfl : k = n := by omega
      gi_wp2
      go_end0
      exact ⟨⟨_, rfl⟩, hJk, HK.out⟩
end Go.Proofs.Ytcmplgiilcfncaa
