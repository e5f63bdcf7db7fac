/-
  slices.Backward over three words.
-/
import Derived.Test.YtgdcjpnmalnmbaaWide
namespace Go.Proofs.Ytgdcjpnmalnmbaa
open Go.RowKit Go.Shelf
attribute [local go_sem] Oper.semAt_some
variable {w : World}

/-- three words in memory, as a value -/
abbrev wo (a b c : Nat) : Obj := .cells #[.int .u64 (a : Nat), .int .u64 (b : Nat), .int .u64 (c : Nat)] 115
abbrev wv (a b c : Nat) : Value := .agg #[.int .u64 (a : Nat), .int .u64 (b : Nat), .int .u64 (c : Nat)]
def sel (a b c i : Nat) : Nat := if i = 0 then a else if i = 1 then b else c
theorem backward_any (v : Value) (po : Option Addr) (n m : Nat) (w : World) (hv : v = .slice po n m) : Calls Try.prog 113 #[v] w fun e w' => e = .returned (.func (.func 119) #[] #[ptr w.heap.size]) ∧ w' = w.alloc (vo v 127) := by
  subst hv
  go_enter Try.func113, Try.ntmps113
  go_wp2
  go_ret
  exact ⟨rfl, rfl⟩

set_option maxRecDepth 100000 in
set_option maxHeartbeats 4000000 in
theorem back_seq (a b c B0 B5 : Nat) (M : Nat → Prop) (w : World) (h0 : w.heap[B0]? = some (wo a b c)) (h5 : w.heap[B5]? = some (vo (.slice (some ⟨B0, 0, none⟩) 3 3) 127)) (m0 : ¬ M B0) (m5 : ¬ M B5) :
    SeqAll Try.prog 119 #[ptr B5] (fun i : Nat => #[.int .i64 i, .int .u64 (sel a b c i : Nat)]) M [2, 1, 0] w := by
  intro l J W hW hMW hJ hY h00
  have HC : Hid (∀ V, Kept M W V → V.cell? ⟨B5, 0, none⟩ = some (.slice (some ⟨B0, 0, none⟩) 3 3) ∧ V.cell? ⟨B0, 0, none⟩ = some (.int .u64 a) ∧ V.cell? ⟨B0, 1, none⟩ = some (.int .u64 b) ∧ V.cell? ⟨B0, 2, none⟩ = some (.int .u64 c)) := fun V hV => by
    have h1 := hV.row ((hW.block B0 (Array.getElem?_eq_some_iff.1 h0).1).trans h0) m0
    have h2 := hV.row ((hW.block B5 (Array.getElem?_eq_some_iff.1 h5).1).trans h5) m5
    exact ⟨cell_of_row _ _ 0 _ _ _ h2, cell_of_row _ _ 0 _ _ _ h1, cell_of_row _ _ 1 _ _ _ h1, cell_of_row _ _ 2 _ _ _ h1⟩
  have HY := Lib.hid hY
  clear hY hW h0 h5 m0 m5 hJ hMW
  refine (callsIn_wide (n := 5)).1 ?_
  refine callsIn_of_wp Try.func119 rfl trivial ?_ rfl
  simp only [Try.ntmps119, List.size_toArray, List.length_cons, List.length_nil, Nat.reduceAdd, Nat.reduceSub, Array.replicate_succ, Array.replicate_zero, List.push_toArray, List.append_toArray, List.nil_append, List.cons_append]
  have H00 := Lib.hid h00
  obtain ⟨c5, c0, c1, c2⟩ := HC.out W (Kept.refl _ _)
  clear h00
  gi_wp2
  clear c5 c0 c1 c2
  gi_loopw [3] (fun i wr => Hid (Kept M W wr) ∧ ((i = .int .i64 2 ∧ Hid (J [] wr)) ∨ (i = .int .i64 1 ∧ Hid (J [2] wr)) ∨ (i = .int .i64 0 ∧ Hid (J [2, 1] wr)) ∨ (i = .int .i64 (-1) ∧ Hid (J [2, 1, 0] wr)))) (fun i _ => (intOf i + 1).toNat)
  case atStart => exact ⟨Kept.refl _ _, .inl ⟨rfl, H00⟩⟩
  case round =>
    obtain ⟨HK, hrel⟩ := hrel
    obtain ⟨c5, c0, c1, c2⟩ := HC.out _ HK.out
    rcases hrel with ⟨rfl, HJ⟩ | ⟨rfl, HJ⟩ | ⟨rfl, HJ⟩ | ⟨rfl, HJ⟩
    · have hY : YieldAt Fence.wide 3 Try.prog l #[.int .i64 2, .int .u64 (c : Nat)] wr fun e W' => e = .returned (.bool true) ∧ J ([] ++ [2]) W' ∧ Kept M wr W' := HY.out [] 2 wr 3 HJ.out ⟨[1, 0], rfl⟩
      obtain ⟨fn, tmps, assign, body, hy, hR⟩ := hY
      gi_wp2
      refine (round_any hR).mono ?_
      rintro e W3 ⟨rfl, hJ3, hk3⟩
      have HJ3 := Lib.hid hJ3
      have HK3 : Hid (Kept M W W3) := HK.out.trans hk3
      clear hJ3 hk3 hR hy c5 c0 c1 c2
      gi_wp2
      go_roundw
      case rel => exact ⟨HK3, .inr (.inl ⟨rfl, HJ3⟩)⟩
      case measure => simp [intOf]
    · have hY : YieldAt Fence.wide 3 Try.prog l #[.int .i64 1, .int .u64 (b : Nat)] wr fun e W' => e = .returned (.bool true) ∧ J ([2] ++ [1]) W' ∧ Kept M wr W' := HY.out [2] 1 wr 3 HJ.out ⟨[0], rfl⟩
      obtain ⟨fn, tmps, assign, body, hy, hR⟩ := hY
      gi_wp2
      refine (round_any hR).mono ?_
      rintro e W3 ⟨rfl, hJ3, hk3⟩
      have HJ3 := Lib.hid hJ3
      have HK3 : Hid (Kept M W W3) := HK.out.trans hk3
      clear hJ3 hk3 hR hy c5 c0 c1 c2
      gi_wp2
      go_roundw
      case rel => exact ⟨HK3, .inr (.inr (.inl ⟨rfl, HJ3⟩))⟩
      case measure => simp [intOf]
    · have hY : YieldAt Fence.wide 3 Try.prog l #[.int .i64 0, .int .u64 (a : Nat)] wr fun e W' => e = .returned (.bool true) ∧ J ([2, 1] ++ [0]) W' ∧ Kept M wr W' := HY.out [2, 1] 0 wr 3 HJ.out ⟨[], rfl⟩
      obtain ⟨fn, tmps, assign, body, hy, hR⟩ := hY
      gi_wp2
      refine (round_any hR).mono ?_
      rintro e W3 ⟨rfl, hJ3, hk3⟩
      have HJ3 := Lib.hid hJ3
      have HK3 : Hid (Kept M W W3) := HK.out.trans hk3
      clear hJ3 hk3 hR hy c5 c0 c1 c2
      gi_wp2
      go_roundw
      case rel => exact ⟨HK3, .inr (.inr (.inr ⟨rfl, HJ3⟩))⟩
      case measure => simp [intOf]
    · clear c5 c0 c1 c2
      gi_wp2
      go_end0
      exact ⟨⟨_, rfl⟩, HJ.out, HK.out⟩
end Go.Proofs.Ytgdcjpnmalnmbaa
