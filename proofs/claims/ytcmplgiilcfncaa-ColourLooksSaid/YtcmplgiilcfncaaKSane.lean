/-
  The statements' own 'sanity' returns true: the chapter's examples.
-/
import Derived.Test.YtcmplgiilcfncaaKDev
import Derived.Test.YtcmplgiilcfncaaKNar
namespace Go.Proofs.Ytcmplgiilcfncaa.K
open Go.RowKit
variable {W w w' : World} {L : List (Nat × Obj)}

def T8 : List C3 := [⟨0, 0, 0⟩, ⟨0, 0, 65535⟩, ⟨0, 65535, 0⟩, ⟨0, 65535, 65535⟩, ⟨65535, 0, 0⟩, ⟨65535, 0, 65535⟩, ⟨65535, 65535, 0⟩, ⟨65535, 65535, 65535⟩]
theorem ex_tab : tab [devP] 2 = T8 := by kernel_rfl
instance (c : C3) : Decidable (InG c) := by unfold InG Gm; infer_instance
theorem ex_gv : GV 2 T8 := ⟨by decide, by decide, by decide, by decide⟩
theorem ex_ipl : ipl 2 T8 ⟨1000, 2000, 3000⟩ = ⟨1000, 2000, 3000⟩ := by kernel_rfl
theorem ex_clip : clipF ⟨70000, 0, 0⟩ = ⟨65535, 2233, 2233⟩ := by kernel_rfl
theorem ex_nar : cl4 (nar 65535) (nar 300) (nar 0) (clp 0 255 255) = p4 255 1 0 255 := by kernel_rfl
theorem sane_clip (V : World) : Calls Try.prog 10 #[ag 70000 0 0] V fun e w' => e = .returned (ag 65535 2233 2233) ∧ Below V.heap.size V w' := by
  have h := clip_any 70000 0 0 V
  rw [ex_clip] at h; exact h
theorem sane_nar (V : World) : Calls Try.prog 11 #[ag 65535 300 0, .int .i64 255] V fun e w' => e = .returned (p4 255 1 0 255) ∧ Below V.heap.size V w' := by
  have h := narrow_any 65535 300 0 255 V
  rw [ex_nar] at h; exact h
theorem sane_tab (v : Value) (V : World) (hc : Chn V v [devP]) : Calls Try.prog 8 #[v, .int .i64 2] V (GotT 2 T8 V) := by
  have h := table_ok [devP] v 2 V hc ⟨by decide, by decide, fun i hi => by
    have : i = 0 := by simp at hi; omega
    subst this; exact devP_vd⟩ (by omega) (by omega)
  rw [ex_tab] at h; exact h
theorem sane_look (v : Value) (V : World) (hc : Cls V v T8) : Calls Try.prog 6 #[gv 2 v, ag 1000 2000 3000] V fun e w' => e = .returned (.tuple #[ag 1000 2000 3000, er 0]) ∧ Below V.heap.size V w' := by
  have h := look_any 2 v T8 true 1000 2000 3000 V hc (by decide) (by simp; exact ⟨2, rfl, ex_gv⟩)
  rw [if_pos rfl, if_pos rfl, ex_ipl] at h; exact h
theorem chn_one {s : Sp} {p : Ps} (h : Rep w s p) : Chn (w.alloc (so s)) (.slice (some ⟨w.heap.size, 0, none⟩) 1 1) [p] := by
  refine ⟨_, _, rfl, Nat.le_refl _, by omega, fun _ => ⟨_, _, fun _ => s, rfl, by simp, fun i hi => ?_, fun i hi => ?_⟩⟩
  · have : i = 0 := by simp at hi; omega
    subst this
    have hs := (St.start w).alloc (so s)
    rw [Nat.zero_mul, Nat.add_zero]; exact St.sp hs (b := w.heap.size) (s := s) (by simp)
  · have : i = 0 := by simp at hi; omega
    subst this
    exact h.later below1
set_option maxRecDepth 100000 in
set_option maxHeartbeats 8000000 in
theorem sane_any (w : World) : Calls Try.prog 4 #[] w fun e w' => e = .returned (.bool true) ∧ Below w.heap.size w w' := by
  go_enter Try.func4, Try.ntmps4
  go_upto_region 1 with fail
  go_upto_region 2 with (first
    | (go_at_call 9; (refine (dev_any _).mono ?_); rintro e w2 ⟨s, rfl, hrep, hb⟩; have HR := Lib.hid hrep; have B2 := Lib.hid hb; clear hrep hb)
    | (go_at_call 8; (refine (sane_tab _ _ (chn_one HR.out)).mono ?_); rintro e w3 ⟨p3, c3, rfl, ⟨hcl, hfr⟩, hb⟩; have HCL := Lib.hid hcl; have B3 : Hid (Below w.heap.size w w3) := (B2.out.alloc B2.out.size _).trans (hb.mono (by have := B2.out.size; simp; omega)); clear hcl hb B2))
  have k3 := (St.start w3).alloc (gob 2 (.slice p3 T8.length c3))
  have HCL2 := Lib.hid (HCL.out.later (below1 (o := gob 2 (.slice p3 T8.length c3))))
  have B4 : Hid (Below w.heap.size w (w3.alloc (gob 2 (.slice p3 T8.length c3)))) := B3.out.alloc B3.out.size _
  generalize w3.alloc (gob 2 (.slice p3 T8.length c3)) = w4 at k3 HCL2 B4 ⊢
  generalize w3.heap.size = b at k3 ⊢
  have m0 := k3.cell (b := b) (cs := #[.int .i64 2, .slice p3 T8.length c3]) (t := 30) (by simp) 0
  have m1 := k3.cell (b := b) (cs := #[.int .i64 2, .slice p3 T8.length c3]) (t := 30) (by simp) 1
  simp only [pair0, pair1] at m0 m1
  clear k3 HCL hfr HR B3
  go_upto_region 3 with (first
    | (go_at_call 6; (refine (sane_look _ _ HCL2.out).mono ?_); rintro e w5 ⟨rfl, hb⟩; have B5 : Hid (Below w.heap.size w w5) := B4.out.trans (hb.mono B4.out.size); clear hb B4 m0 m1))
  have k5 := (St.start w5).alloc (ac 1000 2000 3000)
  have B6 : Hid (Below w.heap.size w (w5.alloc (ac 1000 2000 3000))) := B5.out.alloc B5.out.size _
  generalize w5.alloc (ac 1000 2000 3000) = w6 at k5 B6 ⊢
  generalize w5.heap.size = g at k5 ⊢
  clear B5
  have HK := Lib.hid k5; clear k5
  have he1 := eql_col 65535 2233 2233 65535 2233 2233
  go_upto_region 4 with (go_at_call 10; (refine (sane_clip _).mono ?_); rintro e w7 ⟨rfl, h7⟩)
  have k7 := HK.out.later h7
  obtain ⟨l0, l1, l2⟩ := k7.col (b := g) (x := 1000) (y := 2000) (z := 3000) (t := 25) (by simp)
  have he := eql_col 1000 2000 3000 1000 2000 3000
  clear HCL2
  have B7 : Hid (Below w.heap.size w w7) := B6.out.trans (h7.mono B6.out.size)
  clear HK h7 B6
  have HK := Lib.hid k7; clear k7
  go_wp2_with (go_at_call 11; (refine (sane_nar _).mono ?_); rintro e w8 ⟨rfl, h8⟩; have B8 : Hid (Below w.heap.size w w8) := B7.out.trans (h8.mono B7.out.size); have l0' := (HK.out.later h8).col (b := g) (x := 1000) (y := 2000) (z := 3000) (t := 25) (by simp); obtain ⟨m0, m1, m2⟩ := l0'; clear l0 l1 l2)
  go_ret
  exact ⟨rfl, B8.out⟩
end Go.Proofs.Ytcmplgiilcfncaa.K
