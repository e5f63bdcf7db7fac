/-
  The iterator of partsAround: which rectangles it yields.
-/
import Derived.Test.YtjadccelplnpnaaKp
namespace Go.Proofs.Ytjadccelplnpnaa
open Go.RowKit Go.Shelf
attribute [local go_sem] Oper.semAt_some

/-- the parts around h of r -/
def prt (h r : Rc) : List Rc :=
  if emp h.x0 h.y0 h.x1 h.y1 then [r] else [⟨r.x0, r.y0, r.x1, h.y0⟩, ⟨r.x0, h.y1, r.x1, r.y1⟩, ⟨r.x0, h.y0, h.x0, h.y1⟩, ⟨h.x1, h.y0, r.x1, h.y1⟩]
theorem prt_len (h r : Rc) : (prt h r).length ≤ 4 := by unfold prt; split <;> simp

theorem rb_of {w : World} {b : Nat} {x0 x1 x2 x3 : Int} {t : TypeId} (h : w.heap[b]? = some (.cells #[.int .i64 x0, .int .i64 x1, .int .i64 x2, .int .i64 x3] t)) : RB w b x0 x1 x2 x3 :=
  ⟨cell_of_row _ _ 0 _ _ _ h, cell_of_row _ _ 1 _ _ _ h, cell_of_row _ _ 2 _ _ _ h, cell_of_row _ _ 3 _ _ _ h⟩
theorem grown_below {W W1 : World} (h : Below W.heap.size W W1) : W.grownBy W1 none := ⟨h.os, h.tape, h.output, h.size, fun k hk _ => h.block k hk⟩
theorem abides_below {β : Type} {B : Nat} {J : β → World → Prop} (hJ : AbidesFrom B J) {s : β} {W W1 : World} (h : Below W.heap.size W W1) (hs : J s W) : J s W1 := hJ s W W1 none hs (grown_below h) (fun r e => by cases e)

/-- a Calls contract within a fence that asks nothing -/
theorem inWide {P : Program} {f : FuncId} {args : Array Value} {w : World} {R : Ending → World → Prop} {n : Nat} (h : Calls P f args w R) : CallsIn Fence.wide n P f args w R := callsIn_wide.2 h

set_option maxRecDepth 100000 in
set_option maxHeartbeats 4000000 in
theorem around_stops (n : Nat) (hn : 2 ≤ n) (B bh br : Nat) (h r : Rc) (w : World) (hh : w.heap[bh]? = some (ro h.x0 h.y0 h.x1 h.y1)) (hr : w.heap[br]? = some (ro r.x0 r.y0 r.x1 r.y1)) :
    SeqStopsK Fence.wide n Try.prog 65 #[.pointer (some ⟨bh, 0, none⟩), .pointer (some ⟨br, 0, none⟩)] (fun x : Rc => #[x.v]) (Kp B) (fun xs => xs = prt h r) (fun _ => True) 4 w := by
  intro l J Jx W hW hJ hJx hY h0
  refine callsIn_of_wp Try.func65 rfl trivial ?_ rfl
  simp only [Try.ntmps65, List.size_toArray, List.length_cons, List.length_nil, Nat.reduceAdd, Nat.reduceSub, Array.replicate_succ, Array.replicate_zero, List.push_toArray, List.append_toArray, List.nil_append, List.cons_append]
  have cW : ∀ b o, b < w.heap.size → w.heap[b]? = some o → W.heap[b]? = some o := fun b o hb ho => (hW.block b hb).trans ho
  have hh1 := cW bh _ (Array.getElem?_eq_some_iff.1 hh).1 hh
  have hr1 := cW br _ (Array.getElem?_eq_some_iff.1 hr).1 hr
  obtain ⟨h0c, h1c, h2c, h3c⟩ := rb_of hh1
  have CE : Hid (∀ V, Below W.heap.size W V → RB V bh h.x0 h.y0 h.x1 h.y1 ∧ RB V br r.x0 r.y0 r.x1 r.y1) := fun V hV =>
    ⟨rb_of ((hV.block bh (Array.getElem?_eq_some_iff.1 hh1).1).trans hh1), rb_of ((hV.block br (Array.getElem?_eq_some_iff.1 hr1).1).trans hr1)⟩
  clear cW hh hr hh1 hr1
  have hd : 1 ≤ n := by omega
  have hd1 : 1 ≤ n - 1 := by omega
  cases he : emp h.x0 h.y0 h.x1 h.y1
  case true =>
    have hp : Hid (prt h r = [r]) := by unfold Hid prt; rw [if_pos he]
    gi_wp2_with (refine ⟨trivial, ?_⟩; gi_at_call 35; refine (inWide (empty_any _ _ _ _ _)).mono ?_; rintro e W1 ⟨rfl, hb⟩; obtain ⟨⟨h0c, h1c, h2c, h3c⟩, ⟨r0c, r1c, r2c, r3c⟩⟩ := CE.out _ hb; have hJ1 := abides_below hJ hb h0; obtain ⟨fn, tmps, assign, body, hy, hR⟩ := hY [] r W1 hJ1 (by simp))
    refine hR.mono ?_
    rintro e W3 (⟨rfl, hJ3, hk3⟩ | ⟨rfl, hJx3⟩)
    · gi_wp2
      refine bodyPost_ret (results_none rfl _ _ _) rfl ?_
      exact ⟨⟨_, rfl⟩, .inl ⟨[r], hp.out.symm, hJ3⟩⟩
    · gi_wp2
      refine bodyPost_ret (results_none rfl _ _ _) rfl ?_
      exact ⟨⟨_, rfl⟩, .inr ⟨_, trivial, hJx3⟩⟩
  case false =>
    have hp : Hid (prt h r = [⟨r.x0, r.y0, r.x1, h.y0⟩, ⟨r.x0, h.y1, r.x1, r.y1⟩, ⟨r.x0, h.y0, h.x0, h.y1⟩, ⟨h.x1, h.y0, r.x1, h.y1⟩]) := by unfold Hid prt; rw [if_neg (by rw [he]; decide)]
    have HIX : Hid (∀ k : Nat, k < 4 → ∃ x : Rc, (prt h r)[k]? = some x ∧ ∀ V, (Instr.index 71 (.agg #[.int .i64 r.x0, .int .i64 r.y0, .int .i64 r.x1, .int .i64 h.y0, .int .i64 r.x0, .int .i64 h.y1, .int .i64 r.x1, .int .i64 r.y1, .int .i64 r.x0, .int .i64 h.y0, .int .i64 h.x0, .int .i64 h.y1, .int .i64 h.x1, .int .i64 h.y0, .int .i64 r.x1, .int .i64 h.y1]) (.int .i64 k)).run Try.prog V = .ok x.v V) := by
      intro k hk
      rw [hp.out]
      obtain rfl | rfl | rfl | rfl : k = 0 ∨ k = 1 ∨ k = 2 ∨ k = 3 := by omega
      · exact ⟨_, rfl, fun V => by kernel_rfl⟩
      · exact ⟨_, rfl, fun V => by kernel_rfl⟩
      · exact ⟨_, rfl, fun V => by kernel_rfl⟩
      · exact ⟨_, rfl, fun V => by kernel_rfl⟩
    have HL : Hid ((prt h r).length = 4) := by unfold Hid; rw [hp.out]; rfl
    clear hp
    gi_wp2_with (refine ⟨trivial, ?_⟩; gi_at_call 35; refine (inWide (empty_any _ _ _ _ _)).mono ?_; rintro e W1 ⟨rfl, hb⟩; obtain ⟨⟨h0c, h1c, h2c, h3c⟩, ⟨r0c, r1c, r2c, r3c⟩⟩ := CE.out _ hb; have hJ1 := abides_below hJ hb h0)
    clear h0c h1c h2c h3c r0c r1c r2c r3c CE h0 hb
    gi_loopw [48] (fun i wr => ∃ k : Nat, k ≤ 4 ∧ i = .int .i64 k ∧ J ((prt h r).take k) wr) (fun i _ => 4 - (intOf i).toNat)
    case atStart => exact ⟨0, by omega, rfl, hJ1⟩
    case round =>
      obtain ⟨k, hk, rfl, hJk⟩ := hrel
      by_cases hlt : k < 4
      · obtain ⟨x, hx, hix⟩ := HIX.out k hlt
        have HX := Lib.hid hx; clear hx
        have hJa := abides_below hJ (below1 (w := wr) (o := ro x.x0 x.y0 x.x1 x.y1)) hJk
        obtain ⟨fn, tmps, assign, body, hy, hR⟩ := hY _ x _ hJa (by rw [List.length_take]; omega)
        have HT : Hid ((prt h r).take (k + 1) = (prt h r).take k ++ [x]) := by
          unfold Hid; rw [List.take_add_one, HX.out]; rfl
        gi_wp2
        refine hR.mono ?_
        rintro e W3 (⟨rfl, hJ3, hk3⟩ | ⟨rfl, hJx3⟩)
        · gi_wp2
          go_roundw
          case rel => exact ⟨k + 1, by omega, by go_num, by rw [HT.out]; exact hJ3⟩
          case measure => simp [intOf]; omega
        · gi_wp2
          refine bodyPost_ret (results_none rfl _ _ _) rfl ?_
          exact ⟨⟨_, rfl⟩, .inr ⟨_, trivial, hJx3⟩⟩
      · obtain rfl : k = 4 := by omega
        gi_wp2
        go_end0
        exact ⟨⟨_, rfl⟩, .inl ⟨_, List.take_of_length_le (by rw [HL.out]; omega), hJk⟩⟩
end Go.Proofs.Ytjadccelplnpnaa
