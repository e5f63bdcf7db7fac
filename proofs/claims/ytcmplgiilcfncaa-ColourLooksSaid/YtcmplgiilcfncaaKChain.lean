/-
  Chains of spaces: whether they are valid.
-/
import Derived.Test.YtcmplgiilcfncaaKValid
namespace Go.Proofs.Ytcmplgiilcfncaa.K
open Go.RowKit
variable {W w w' : World} {L : List (Nat × Obj)}

def ps0 : Ps := ⟨[], [], [], ⟨0, 0, 0, 0, 0, 0, 0, 0, 0⟩, ⟨0, 0, 0, 0, 0, 0, 0, 0, 0⟩⟩
abbrev psn (ps : List Ps) (i : Nat) : Ps := ps.getD i ps0
/-- the cells from off on of block b hold the spaces -/
structure Spaces (w : World) (b off n : Nat) (ss : Nat → Sp) (ps : List Ps) : Prop where
  lt : b < w.heap.size
  has : ∀ i, i < n → Has w b (off + i * 21) (ss i).l
  rep : ∀ i, i < n → Rep w (ss i) (psn ps i)
theorem Spaces.later {b off n : Nat} {ss : Nat → Sp} {ps : List Ps} (h : Spaces w b off n ss ps) (hb : Below w.heap.size w w') : Spaces w' b off n ss ps :=
  ⟨Nat.lt_of_lt_of_le h.lt hb.size, fun i hi => (h.has i hi).later h.lt hb, fun i hi => (h.rep i hi).later hb⟩
/-- v is a chain of the spaces ps -/
def Chn (w : World) (v : Value) (ps : List Ps) : Prop :=
  ∃ po cap, v = .slice po ps.length cap ∧ ps.length ≤ cap ∧ cap ≤ 9223372036854775807 ∧ (0 < ps.length → ∃ b off ss, po = some ⟨b, off, none⟩ ∧ Spaces w b off ps.length ss ps)
theorem Chn.later {v : Value} {ps : List Ps} (h : Chn w v ps) (hb : Below w.heap.size w w') : Chn w' v ps := by
  obtain ⟨po, cap, rfl, h1, h2, h3⟩ := h
  refine ⟨po, cap, rfl, h1, h2, fun hp => ?_⟩
  obtain ⟨b, off, ss, h4, h5⟩ := h3 hp
  exact ⟨b, off, ss, h4, h5.later hb⟩
def AllVd (ps : List Ps) : Prop := ∀ i, i < ps.length → Vd (psn ps i)
def chk (n : Nat) (r : Bool) : Int := if n = 0 then 1 else if 8 < n then 2 else if r = true then 0 else 23
set_option maxRecDepth 100000 in
set_option maxHeartbeats 4000000 in
theorem check1_any (s : Sp) (p : Ps) (r : Bool) (w : World) (hp : Rep w s p) (hr : r = true ↔ Vd p) : Calls Try.prog 36 (#[s.v] ++ #[]) w fun e w' => e = .returned (.bool (!r)) ∧ Below w.heap.size w w' := by
  have key : Calls Try.prog 36 #[s.v] w fun e w' => e = .returned (.bool (!r)) ∧ Below w.heap.size w w' := by
    go_enter Try.func36, Try.ntmps36
    go_upto_region 1 with fail
    have hs := (St.start w).alloc (so s)
    generalize w.alloc (so s) = w1 at hs ⊢
    have HL := Lib.hid (run_sp (St.sp hs (b := w.heap.size) (s := s) (by simp)))
    have HA := Lib.hid (validS_any s p r w1 (hp.later hs.below) hr)
    have HS := Lib.hid hs; clear hs hp hr
    go_wp2_with (first
      | (refine wpList_load_at rfl 46 _ rfl _ _ rfl _ HL.out ?_)
      | (go_at_call 37; (refine HA.out.mono ?_); rintro e w2 ⟨rfl, h2⟩; have k2 := HS.out.later h2))
    go_ret
    exact ⟨rfl, k2.below⟩
  exact key
set_option maxRecDepth 100000 in
set_option maxHeartbeats 4000000 in
theorem check_any (ps : List Ps) (v : Value) (r : Bool) (w : World) (hc : Chn w v ps) (hr : r = true ↔ AllVd ps) : Calls Try.prog 16 #[v] w fun e w' => e = .returned (.int .i64 (chk ps.length r)) ∧ Below w.heap.size w w' := by
  obtain ⟨po, cap, rfl, h1, h2, h3⟩ := hc
  obtain ⟨n, hn⟩ : ∃ n, n = ps.length := ⟨_, rfl⟩
  unfold AllVd at hr
  rw [← hn] at h1 h3 hr ⊢
  have HE : Hid (chk n r = if n = 0 then 1 else if 8 < n then 2 else if r = true then 0 else 23) := rfl
  by_cases h0 : n = 0
  · have q1 : ((n : Int) == 0) = true := by simp; omega
    have HE2 : Hid (chk n r = 1) := by unfold Hid; rw [HE.out, if_pos h0]
    clear h0 hr h3 hn
    go_enter Try.func16, Try.ntmps16
    go_wp2_with fail
    go_ret
    exact ⟨ret_int (by rw [HE2.out]), Below.refl _ _⟩
  have q1 : ((n : Int) == 0) = false := by simp; omega
  by_cases h8 : 8 < n
  · have q2 : decide ((8 : Int) < n) = true := by simp; omega
    have HE2 : Hid (chk n r = 2) := by unfold Hid; rw [HE.out, if_neg h0, if_pos h8]
    clear h0 h8 hr h3 hn
    go_enter Try.func16, Try.ntmps16
    go_wp2_with fail
    go_ret
    exact ⟨ret_int (by rw [HE2.out]), Below.refl _ _⟩
  have q2 : decide ((8 : Int) < n) = false := by simp; omega
  obtain ⟨b, off, ss, rfl, hs⟩ := h3 (by omega)
  have HE2 : Hid (chk n r = if r = true then 0 else 23) := by unfold Hid; rw [HE.out, if_neg h0, if_neg h8]
  have hx : ∃ rs : Nat → Bool, ∀ i, rs i = true ↔ Vd (psn ps i) := ⟨fun i => Classical.choose (ex_bool (Vd (psn ps i))), fun i => Classical.choose_spec (ex_bool (Vd (psn ps i)))⟩
  obtain ⟨rs, hrs⟩ := hx
  have HA := Lib.hid (containsS_any 36 #[] ss (fun i => !rs i) (!r) b off n cap w (enters_of Try.func36 (by kernel_rfl) rfl) (by omega)
    (fun V hV i hi => run_sp ((hs.later hV).has i hi)) (fun V hV i hi => check1_any (ss i) (psn ps i) (rs i) V ((hs.later hV).rep i hi) (hrs i))
    (not_all hr ⟨fun h i hi => (hrs i).2 (h i hi), fun h i hi => (hrs i).1 (h i hi)⟩))
  clear hrs hs hr h0 h8 h3 hn HE
  go_enter Try.func16, Try.ntmps16
  cases r
  all_goals
    go_wp2_with (go_at_call 38; (refine HA.out.mono ?_); rintro e w2 ⟨rfl, h2⟩)
    go_ret
    exact ⟨ret_int (by rw [HE2.out]; rfl), h2⟩
end Go.Proofs.Ytcmplgiilcfncaa.K
