/-
  The reference's clamp and Gamut.
-/
import Derived.Test.YtcmplgiilcfncaaKGrid
import Derived.Test.YtcmplgiilcfncaaKEq
import Derived.StillTailTactics
namespace Go.Proofs.Ytcmplgiilcfncaa.K
open Go.RowKit
set_option maxRecDepth 100000
variable {W w w' : World} {L : List (Nat × Obj)}

theorem quiet_sym {P : Program} {f : FuncId} {args : Array Value} {w : World} {v : Value} (h : Calls P f args w fun e w' => e = .returned v ∧ w = w') : Calls P f args w fun e w' => e = .returned v ∧ w' = w := h.mono fun _ _ ⟨h1, h2⟩ => ⟨h1, h2.symm⟩
theorem rclamp_any (lo hi v : Int) (w : World) (h : lo ≤ hi) : Calls Try.prog 51 #[.int .i64 lo, .int .i64 v, .int .i64 hi] w fun e w' => e = .returned (.int .i64 (clp lo hi v)) ∧ w = w' := by
  have e : max lo (min v hi) = clp lo hi v := by unfold clp; omega
  go_enter Try.func51, Try.ntmps51
  go_wp2
  all_goals go_ret
  all_goals exact ⟨ret_int (by first | exact e | (unfold clp; omega)), rfl⟩
set_option maxHeartbeats 4000000 in
theorem rgam_any (c0 c1 c2 : Int) (w : World) : Calls Try.prog 35 #[ag c0 c1 c2] w fun e w' => e = .returned (ag (clp 0 65535 c0) (clp 0 65535 c1) (clp 0 65535 c2)) ∧ Below w.heap.size w w' := by
  have HC : Hid (∀ v V, Calls Try.prog 51 #[.int .i64 0, .int .i64 v, .int .i64 65535] V fun e w' => e = .returned (.int .i64 (clp 0 65535 v)) ∧ V = w') := fun v V => rclamp_any 0 65535 v V (by decide)
  have H0 := Lib.hid (HC.out c0); have H1 := Lib.hid (HC.out c1); have H2 := Lib.hid (HC.out c2)
  generalize clp 0 65535 c0 = d0 at H0 ⊢
  generalize clp 0 65535 c1 = d1 at H1 ⊢
  generalize clp 0 65535 c2 = d2 at H2 ⊢
  go_enter Try.func35, Try.ntmps35
  go_upto_region 1 with fail
  have hs := ((St.start w).alloc (ac c0 c1 c2)).alloc (ac 0 0 0)
  simp only [World.size_alloc] at hs
  generalize (w.alloc (ac c0 c1 c2)).alloc (ac 0 0 0) = w1 at hs ⊢
  generalize hb : w.heap.size = b at hs ⊢
  have hd := hs.drew
  refine wp_region_still_tail 10 (by kernel_rfl) (by kernel_rfl) ?_
  rw [drew_eq w1]
  generalize w1.drew = w2 at hd ⊢
  simp only [List.take_succ_cons, List.take_zero, List.drop_succ_cons, List.drop_zero]
  obtain ⟨k0, k1, k2⟩ := hd.col (b := b) (x := c0) (y := c1) (z := c2) (t := 25) (by simp)
  obtain ⟨m0, m1, m2⟩ := hd.col (b := b + 1) (x := 0) (y := 0) (z := 0) (t := 25) (by simp)
  obtain ⟨f0, f1, f2⟩ := hd.fro (b := b + 1) (cs := #[.int .i64 0, .int .i64 0, .int .i64 0]) (t := 25) (by simp)
  iterate 2 still_step
  still_call (quiet_sym (H0.out _))
  iterate 2 still_step
  still_call (quiet_sym (H1.out _))
  iterate 2 still_step
  still_call (quiet_sym (H2.out _))
  still_step
  refine wpStill_nil ?_
  go_wp2
  subst hb
  exact bodyPost_ret (v := ag d0 d1 d2) (by simp [results, Try.results35, go_sem, *]) rfl ⟨rfl, below_set3 hd.below (by omega) _ _ _⟩
end Go.Proofs.Ytcmplgiilcfncaa.K
