/-
  Whether a space is valid, and whether a chain is.
-/
import Derived.Test.YtcmplgiilcfncaaKUndo
import Derived.Test.YtcmplgiilcfncaaKIdx
namespace Go.Proofs.Ytcmplgiilcfncaa.K
open Go.RowKit
variable {W w w' : World} {L : List (Nat × Obj)}

def enb (a : Int) : Bool := !(decide (a < -65536) || decide (65536 < a))
theorem enb_iff (a : Int) : enb a = true ↔ En a := by unfold enb En; simp
theorem entry1_any (a : Int) (w : World) : Calls Try.prog 66 (#[.int .i64 a] ++ #[]) w fun e w' => e = .returned (.bool (!enb a)) ∧ Below w.heap.size w w' := by
  have key : Calls Try.prog 66 #[.int .i64 a] w fun e w' => e = .returned (.bool (!enb a)) ∧ Below w.heap.size w w' := by
    by_cases h1 : a < -65536
    · have h2 : decide (a < -65536) = true := by simp; omega
      have HE : Hid (enb a = false) := by unfold Hid enb; simp [h2]
      clear h1
      go_enter Try.func66, Try.ntmps66
      go_wp2
      go_ret
      exact ⟨ret_bool (by rw [HE.out]; rfl), Below.refl _ _⟩
    · have h2 : decide (a < -65536) = false := by simp; omega
      have HE : Hid (enb a = !decide (65536 < a)) := by unfold Hid enb; simp [h2]
      clear h1
      generalize hq : decide (65536 < a) = q at HE
      go_enter Try.func66, Try.ntmps66
      go_wp2
      go_ret
      exact ⟨ret_bool (by rw [HE.out]; simp), Below.refl _ _⟩
  exact key
theorem ex_bool (P : Prop) : ∃ r : Bool, r = true ↔ P := by
  by_cases h : P
  · exact ⟨true, by simp [h]⟩
  · exact ⟨false, by simp [h]⟩
theorem not_all {r : Bool} {P : Prop} {n : Nat} {q : Nat → Bool} (hr : r = true ↔ P) (hP : P ↔ ∀ i, i < n → q i = true) : (!r) = true ↔ ∃ i, i < n ∧ (!q i) = true := by
  cases r
  · refine ⟨fun _ => Classical.byContradiction fun hn => ?_, fun _ => rfl⟩
    have : P := hP.2 fun i hi => by
      cases hq : q i
      · exact absurd ⟨i, hi, by rw [hq]; rfl⟩ hn
      · rfl
    exact absurd (hr.2 this) (by decide)
  · refine ⟨fun h => absurd h (by decide), fun ⟨i, hi, hq⟩ => ?_⟩
    rw [hP.1 (hr.1 rfl) i hi] at hq
    exact absurd hq (by decide)
set_option maxRecDepth 100000 in
set_option maxHeartbeats 4000000 in
theorem entries_any (m : M9) (r : Bool) (w : World) (hr : r = true ↔ EnM m) : Calls Try.prog 55 #[m.v] w fun e w' => e = .returned (.bool r) ∧ Below w.heap.size w w' := by
  go_enter Try.func55, Try.ntmps55
  go_upto_region 1 with fail
  have hs := (St.start w).alloc (.cells m.l.toArray 44)
  generalize w.alloc (.cells m.l.toArray 44) = w1 at hs ⊢
  have hx : (!r) = true ↔ ∃ i, i < 9 ∧ (!enb (m.at i)) = true := not_all hr ⟨fun h i hi => (enb_iff _).2 (M9.en h i), fun h => have g := fun i hi => (enb_iff _).1 (h i hi)
    ⟨g 0 (by omega), g 1 (by omega), g 2 (by omega), g 3 (by omega), g 4 (by omega), g 5 (by omega), g 6 (by omega), g 7 (by omega), g 8 (by omega)⟩⟩
  have HA := Lib.hid (containsI_any 66 #[] (fun i => .int .i64 (m.at i)) (fun i => !enb (m.at i)) (!r) w.heap.size 0 9 9 w1 (enters_of Try.func66 (by kernel_rfl) rfl) (by omega)
    (fun V hV i hi => by rw [Nat.zero_add]; exact has_at (St.has (hs.later hV) (t := 44) (by simp)) hi) (fun V hV i hi => entry1_any _ V) hx)
  clear hx
  go_wp2_with (go_at_call 67; (refine HA.out.mono ?_); rintro e w2 ⟨rfl, h2⟩)
  go_ret
  exact ⟨ret_bool (by simp), (hs.later h2).below⟩
theorem curve1_any (c : List Int) (v : Value) (r : Bool) (w : World) (hc : Cm w v c) (hr : r = true ↔ Cv c) : Calls Try.prog 52 (#[v] ++ #[]) w fun e w' => e = .returned (.bool (!r)) ∧ Below w.heap.size w w' := by
  have HA := Lib.hid (valid_any c v r w hc hr)
  have key : Calls Try.prog 52 #[v] w fun e w' => e = .returned (.bool (!r)) ∧ Below w.heap.size w w' := by
    clear hc hr
    go_enter Try.func52, Try.ntmps52
    go_wp2_with (go_at_call 53; (refine HA.out.mono ?_); rintro e w2 ⟨rfl, h2⟩)
    go_ret
    exact ⟨rfl, h2⟩
  exact key
/-- a valid space -/
structure Vd (p : Ps) : Prop where
  ok : PsOk p
  un : Und p.mf p.mt
/-- the matrices of a space in memory -/
abbrev MB (w : World) (b : Nat) (s : Sp) : Prop := w.cell? ⟨b, 3, none⟩ = some (.int .i64 s.mt.m0) ∧ w.cell? ⟨b, 4, none⟩ = some (.int .i64 s.mt.m1) ∧ w.cell? ⟨b, 5, none⟩ = some (.int .i64 s.mt.m2) ∧ w.cell? ⟨b, 6, none⟩ = some (.int .i64 s.mt.m3) ∧ w.cell? ⟨b, 7, none⟩ = some (.int .i64 s.mt.m4) ∧ w.cell? ⟨b, 8, none⟩ = some (.int .i64 s.mt.m5) ∧ w.cell? ⟨b, 9, none⟩ = some (.int .i64 s.mt.m6) ∧ w.cell? ⟨b, 10, none⟩ = some (.int .i64 s.mt.m7) ∧ w.cell? ⟨b, 11, none⟩ = some (.int .i64 s.mt.m8) ∧ w.cell? ⟨b, 12, none⟩ = some (.int .i64 s.mf.m0) ∧ w.cell? ⟨b, 13, none⟩ = some (.int .i64 s.mf.m1) ∧ w.cell? ⟨b, 14, none⟩ = some (.int .i64 s.mf.m2) ∧ w.cell? ⟨b, 15, none⟩ = some (.int .i64 s.mf.m3) ∧ w.cell? ⟨b, 16, none⟩ = some (.int .i64 s.mf.m4) ∧ w.cell? ⟨b, 17, none⟩ = some (.int .i64 s.mf.m5) ∧ w.cell? ⟨b, 18, none⟩ = some (.int .i64 s.mf.m6) ∧ w.cell? ⟨b, 19, none⟩ = some (.int .i64 s.mf.m7) ∧ w.cell? ⟨b, 20, none⟩ = some (.int .i64 s.mf.m8)
theorem Has.mb {b : Nat} {s : Sp} (h : Has w b 0 s.l) : MB w b s := by
  have g := fun j v hj => h j v hj
  simp only [Nat.zero_add] at g
  exact ⟨g 3 _ rfl, g 4 _ rfl, g 5 _ rfl, g 6 _ rfl, g 7 _ rfl, g 8 _ rfl, g 9 _ rfl, g 10 _ rfl, g 11 _ rfl, g 12 _ rfl, g 13 _ rfl, g 14 _ rfl, g 15 _ rfl, g 16 _ rfl, g 17 _ rfl, g 18 _ rfl, g 19 _ rfl, g 20 _ rfl⟩
def three {α : Type} (x y z : α) : Nat → α
  | 0 => x
  | 1 => y
  | _ => z
set_option maxRecDepth 100000 in
set_option maxHeartbeats 4000000 in
theorem validS_any (s : Sp) (p : Ps) (r : Bool) (w : World) (hp : Rep w s p) (hr : r = true ↔ Vd p) : Calls Try.prog 37 #[s.v] w fun e w' => e = .returned (.bool r) ∧ Below w.heap.size w w' := by
  obtain ⟨r0, hr0⟩ := ex_bool (Cv p.a)
  obtain ⟨r1, hr1⟩ := ex_bool (Cv p.b)
  obtain ⟨r2, hr2⟩ := ex_bool (Cv p.c)
  obtain ⟨et, het⟩ := ex_bool (EnM p.mt)
  obtain ⟨ef, hef⟩ := ex_bool (EnM p.mf)
  obtain ⟨un, hun⟩ := ex_bool (Und p.mf p.mt)
  have HR : Hid (r = (r0 && (r1 && (r2 && (et && (ef && un)))))) := by
    unfold Hid
    rw [Bool.eq_iff_iff, hr]
    simp only [Bool.and_eq_true, hr0, hr1, hr2, het, hef, hun]
    exact ⟨fun h => ⟨h.ok.a, h.ok.b, h.ok.c, h.ok.t, h.ok.f, h.un⟩, fun ⟨a, b, c, t, f, u⟩ => ⟨⟨a, b, c, t, f⟩, u⟩⟩
  clear hr
  go_enter Try.func37, Try.ntmps37
  go_upto_region 1 with fail
  have hs := (St.start w).alloc (so s)
  generalize w.alloc (so s) = w1 at hs ⊢
  have hx : (!(r0 && (r1 && r2))) = true ↔ ∃ i, i < 3 ∧ (!three r0 r1 r2 i) = true := not_all (P := r0 = true ∧ r1 = true ∧ r2 = true) (by simp) ⟨fun ⟨h0, h1, h2⟩ i hi => by
      rcases (by omega : i = 0 ∨ i = 1 ∨ i = 2) with rfl | rfl | rfl <;> assumption, fun h => ⟨h 0 (by omega), h 1 (by omega), h 2 (by omega)⟩⟩
  have HA := Lib.hid (containsV_any 52 #[] (three s.v0 s.v1 s.v2) (fun i => !three r0 r1 r2 i) (!(r0 && (r1 && r2))) w.heap.size 0 3 3 w1 (enters_of Try.func52 (by kernel_rfl) rfl) (by omega)
    (fun V hV i hi => by
      have h := St.sp (hs.later hV) (b := w.heap.size) (s := s) (by simp)
      rcases (by omega : i = 0 ∨ i = 1 ∨ i = 2) with rfl | rfl | rfl
      · exact h 0 _ rfl
      · exact h 1 _ rfl
      · exact h 2 _ rfl)
    (fun V hV i hi => by
      have hq := hp.later (hs.later hV).below
      rcases (by omega : i = 0 ∨ i = 1 ∨ i = 2) with rfl | rfl | rfl
      · exact curve1_any p.a _ r0 V hq.a hr0
      · exact curve1_any p.b _ r1 V hq.b hr1
      · exact curve1_any p.c _ r2 V hq.c hr2) hx)
  clear hx hr0 hr1 hr2
  have HM : Hid (∀ V, St w [(w.heap.size, so s)] V → MB V w.heap.size s) := fun V hV => (St.sp hV (by simp)).mb
  have HT : Hid (∀ V, Calls Try.prog 55 #[s.mt.v] V fun e w' => e = .returned (.bool et) ∧ Below V.heap.size V w') := fun V => entries_any s.mt et V (hp.t ▸ het)
  have HF : Hid (∀ V, Calls Try.prog 55 #[s.mf.v] V fun e w' => e = .returned (.bool ef) ∧ Below V.heap.size V w') := fun V => entries_any s.mf ef V (hp.f ▸ hef)
  have HU : Hid (∀ V, et = true → ef = true → Calls Try.prog 56 #[s.mf.v, s.mt.v] V fun e w' => e = .returned (.bool un) ∧ Below V.heap.size V w') := fun V h1 h2 => undo_any s.mf s.mt un V (hp.f ▸ hef.1 h2) (hp.t ▸ het.1 h1) (hp.f ▸ hp.t ▸ hun)
  have HB := Lib.hid hs.below
  have HS := Lib.hid hs
  clear hs het hef hun hp
  have HR2 : Hid (r = ((r0 && (r1 && r2)) && (et && (ef && un)))) := by unfold Hid; rw [HR.out]; simp [Bool.and_assoc]
  clear HR
  generalize (r0 && (r1 && r2)) = q at HA HR2
  cases q
  · go_wp2_with (go_at_call 54; (refine HA.out.mono ?_); rintro e w2 ⟨rfl, h2⟩; have k2 := HS.out.later h2)
    go_ret
    exact ⟨ret_bool (by rw [HR2.out]; rfl), k2.below⟩
  · cases et
    · clear HF HU HB
      go_wp2_with (first
      | (go_at_call 54; (refine HA.out.mono ?_); rintro e w2 ⟨rfl, h2⟩; have k2 := HS.out.later h2; obtain ⟨m3, m4, m5, m6, m7, m8, m9, m10, m11, m12, m13, m14, m15, m16, m17, m18, m19, m20⟩ := HM.out _ k2)
      | (go_at_call 55; (refine (HT.out _).mono ?_); rintro e w3 ⟨rfl, h3⟩; have k3 := k2.later h3; clear m3 m4 m5 m6 m7 m8 m9 m10 m11 m12 m13 m14 m15 m16 m17 m18 m19 m20 k2; obtain ⟨m3, m4, m5, m6, m7, m8, m9, m10, m11, m12, m13, m14, m15, m16, m17, m18, m19, m20⟩ := HM.out _ k3))
      go_ret
      exact ⟨ret_bool (by rw [HR2.out]; rfl), k3.below⟩
    · cases ef
      · clear HU HB
        go_wp2_with (first
      | (go_at_call 54; (refine HA.out.mono ?_); rintro e w2 ⟨rfl, h2⟩; have k2 := HS.out.later h2; obtain ⟨m3, m4, m5, m6, m7, m8, m9, m10, m11, m12, m13, m14, m15, m16, m17, m18, m19, m20⟩ := HM.out _ k2)
      | (go_at_call 55; (refine (HT.out _).mono ?_); rintro e w3 ⟨rfl, h3⟩; have k3 := k2.later h3; clear m3 m4 m5 m6 m7 m8 m9 m10 m11 m12 m13 m14 m15 m16 m17 m18 m19 m20 k2; obtain ⟨m3, m4, m5, m6, m7, m8, m9, m10, m11, m12, m13, m14, m15, m16, m17, m18, m19, m20⟩ := HM.out _ k3)
      | (go_at_call 55; (refine (HF.out _).mono ?_); rintro e w4 ⟨rfl, h4⟩; have k4 := k3.later h4; clear m3 m4 m5 m6 m7 m8 m9 m10 m11 m12 m13 m14 m15 m16 m17 m18 m19 m20 k3; obtain ⟨m3, m4, m5, m6, m7, m8, m9, m10, m11, m12, m13, m14, m15, m16, m17, m18, m19, m20⟩ := HM.out _ k4))
        go_ret
        exact ⟨ret_bool (by rw [HR2.out]; rfl), k4.below⟩
      · have HU2 : Hid (∀ V, Calls Try.prog 56 #[s.mf.v, s.mt.v] V fun e w' => e = .returned (.bool un) ∧ Below V.heap.size V w') := fun V => HU.out V rfl rfl
        clear HB HU
        go_wp2_with (first
      | (go_at_call 54; (refine HA.out.mono ?_); rintro e w2 ⟨rfl, h2⟩; have k2 := HS.out.later h2; obtain ⟨m3, m4, m5, m6, m7, m8, m9, m10, m11, m12, m13, m14, m15, m16, m17, m18, m19, m20⟩ := HM.out _ k2)
      | (go_at_call 55; (refine (HT.out _).mono ?_); rintro e w3 ⟨rfl, h3⟩; have k3 := k2.later h3; clear m3 m4 m5 m6 m7 m8 m9 m10 m11 m12 m13 m14 m15 m16 m17 m18 m19 m20 k2; obtain ⟨m3, m4, m5, m6, m7, m8, m9, m10, m11, m12, m13, m14, m15, m16, m17, m18, m19, m20⟩ := HM.out _ k3)
      | (go_at_call 55; (refine (HF.out _).mono ?_); rintro e w4 ⟨rfl, h4⟩; have k4 := k3.later h4; clear m3 m4 m5 m6 m7 m8 m9 m10 m11 m12 m13 m14 m15 m16 m17 m18 m19 m20 k3; obtain ⟨m3, m4, m5, m6, m7, m8, m9, m10, m11, m12, m13, m14, m15, m16, m17, m18, m19, m20⟩ := HM.out _ k4)
      | (go_at_call 56; (refine (HU2.out _).mono ?_); rintro e w5 ⟨rfl, h5⟩; have k5 := k4.later h5))
        go_ret
        exact ⟨ret_bool (by rw [HR2.out]; rfl), k5.below⟩
end Go.Proofs.Ytcmplgiilcfncaa.K
