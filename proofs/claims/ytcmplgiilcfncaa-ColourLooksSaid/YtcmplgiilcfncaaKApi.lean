/-
  Look, Convert and Table.
-/
import Derived.Test.YtcmplgiilcfncaaKInter
namespace Go.Proofs.Ytcmplgiilcfncaa.K
open Go.RowKit
variable {W w w' : World} {L : List (Nat × Obj)}

abbrev er (e : Int) : Value := .int .i64 e
set_option maxRecDepth 100000 in
set_option maxHeartbeats 4000000 in
theorem look_any (n : Int) (v : Value) (l : List C3) (r : Bool) (c0 c1 c2 : Int) (w : World) (hc : Cls w v l) (hl : l.length ≤ 1000000000) (hr : r = true ↔ ∃ m : Nat, n = m ∧ GV m l) :
    Calls Try.prog 6 #[gv n v, ag c0 c1 c2] w fun e w' => e = .returned (.tuple #[if r = true then (ipl n l ⟨c0, c1, c2⟩).v else ag 0 0 0, er (if r = true then 0 else 1)]) ∧ Below w.heap.size w w' := by
  have hcl := hc
  obtain ⟨po, cap, rfl, _⟩ := hc
  have HG : Hid (∀ V, Below w.heap.size w V → Calls Try.prog 12 #[gv n (.slice po l.length cap)] V fun e w' => e = .returned (.bool r) ∧ Below V.heap.size V w') := fun V hV => gridv_any n _ l r V (hcl.later hV) hl hr
  have HI : Hid (r = true → ∀ V, Below w.heap.size w V → Calls Try.prog 13 #[gv n (.slice po l.length cap), ag c0 c1 c2] V fun e w' => e = .returned (ipl n l ⟨c0, c1, c2⟩).v ∧ Below V.heap.size V w') := fun h V hV => by
    obtain ⟨m, rfl, hg⟩ := hr.1 h
    exact inter_any m _ l c0 c1 c2 V (hcl.later hV) hg
  generalize ipl n l ⟨c0, c1, c2⟩ = d at HI ⊢
  obtain ⟨d0, d1, d2⟩ := d
  generalize l.length = N at *
  clear hr hcl hl
  go_enter Try.func6, Try.ntmps6
  go_upto_region 1 with fail
  have hs := (((St.start w).alloc (gob n (.slice po N cap))).alloc (ac c0 c1 c2)).alloc (ac 0 0 0)
  simp only [World.size_alloc] at hs
  generalize (((w.alloc (gob n (.slice po N cap))).alloc (ac c0 c1 c2))).alloc (ac 0 0 0) = w1 at hs ⊢
  generalize hb : w.heap.size = b at hs ⊢
  have HX : Hid (∀ V, St w [(b + 1 + 1, ac 0 0 0), (b + 1, ac c0 c1 c2), (b, gob n (.slice po N cap))] V → (V.cell? ⟨b, 0, none⟩ = some (.int .i64 n) ∧ V.cell? ⟨b, 1, none⟩ = some (.slice po N cap)) ∧ CB V (b + 1) c0 c1 c2 ∧ CB V (b + 1 + 1) 0 0 0 ∧ (V.frozen? ⟨b + 1 + 1, 0, none⟩ = false ∧ V.frozen? ⟨b + 1 + 1, 1, none⟩ = false ∧ V.frozen? ⟨b + 1 + 1, 2, none⟩ = false)) := fun V hV =>
    ⟨⟨hV.cell (b := b) (cs := #[.int .i64 n, .slice po N cap]) (t := 30) (by simp) 0, hV.cell (b := b) (cs := #[.int .i64 n, .slice po N cap]) (t := 30) (by simp) 1⟩, hV.col (t := 25) (by simp), St.out3 hV (t := 25) (by simp)⟩
  obtain ⟨⟨k0, k1⟩, _⟩ := HX.out _ hs
  have HS := Lib.hid hs
  cases r
  · go_wp2_with (go_at_call 12; (refine (HG.out _ hs.below).mono ?_); rintro e w2 ⟨rfl, h2⟩; have k2 := HS.out.later h2; obtain ⟨_, _, ⟨m0, m1, m2⟩, f0, f1, f2⟩ := HX.out _ k2)
    subst hb
    exact bodyPost_ret (v := .tuple #[ag 0 0 0, er 1]) (by simp [results, Try.results6, go_sem, *]) rfl ⟨rfl, below_set3 k2.below (by omega) _ _ _⟩
  · have HI2 : Hid (∀ V, Below w.heap.size w V → Calls Try.prog 13 #[gv n (.slice po N cap), ag c0 c1 c2] V fun e w' => e = .returned (ag d0 d1 d2) ∧ Below V.heap.size V w') := HI.out rfl
    clear HI
    go_upto_region 3 with (go_at_call 12; (refine (HG.out _ hs.below).mono ?_); rintro e w2 ⟨rfl, h2⟩)
    have k2 := HS.out.later h2
    clear hs HS h2 k0 k1
    obtain ⟨⟨k0, k1⟩, ⟨y0, y1, y2⟩, _⟩ := HX.out _ k2
    have HS := Lib.hid k2
    go_wp2_with (go_at_call 13; (refine (HI2.out _ k2.below).mono ?_); rintro e w3 ⟨rfl, h3⟩; have k3 := HS.out.later h3; obtain ⟨_, _, ⟨m0, m1, m2⟩, f0, f1, f2⟩ := HX.out _ k3)
    subst hb
    exact bodyPost_ret (v := .tuple #[ag d0 d1 d2, er 0]) (by simp [results, Try.results6, go_sem, *]) rfl ⟨rfl, below_set3 k3.below (by omega) _ _ _⟩
/-- a chain that is valid -/
structure ChOk (ps : List Ps) : Prop where
  pos : 0 < ps.length
  max : ps.length ≤ 8
  all : AllVd ps
theorem ChOk.chk {ps : List Ps} (h : ChOk ps) : chk ps.length true = 0 := by
  have h1 := h.pos; have h2 := h.max
  unfold K.chk; rw [if_neg (by omega), if_neg (by omega), if_pos rfl]
theorem check_ok (ps : List Ps) (v : Value) (w : World) (hc : Chn w v ps) (h : ChOk ps) : Calls Try.prog 16 #[v] w fun e w' => e = .returned (er 0) ∧ Below w.heap.size w w' := by
  have := check_any ps v true w hc (by simp [h.all])
  rw [h.chk] at this; exact this
/-- 'a grid and no error are handed back' -/
def GotT (n : Nat) (l : List C3) (w : World) (e : Ending) (w' : World) : Prop := ∃ po cap, e = .returned (.tuple #[.agg #[.int .i64 n, .slice po l.length cap], er 0]) ∧ (Cls w' (.slice po l.length cap) l ∧ Fr w.heap.size po) ∧ Below w.heap.size w w'
set_option maxRecDepth 100000 in
set_option maxHeartbeats 4000000 in
theorem table_ok (ps : List Ps) (v : Value) (n : Nat) (w : World) (hc : Chn w v ps) (h : ChOk ps) (h2 : 2 ≤ n) (h17 : n ≤ 17) : Calls Try.prog 8 #[v, .int .i64 n] w (GotT n (tab ps n) w) := by
  have HK : Hid (∀ V, Below w.heap.size w V → Calls Try.prog 16 #[v] V fun e w' => e = .returned (er 0) ∧ Below V.heap.size V w') := fun V hV => check_ok ps v V (hc.later hV) h
  have HC : Hid (∀ V, Below w.heap.size w V → Calls Try.prog 18 #[v, .int .i64 n] V (GotG n (tab ps n) V)) := fun V hV => sample_any ps v n V (hc.later hV) h.pos h.all h2 h17
  have HD : Hid (∀ V, Calls Try.prog 17 #[.int .i64 n] V fun e w' => e = .returned (.bool true) ∧ V = w') := fun V => by
    have := side_any (n : Int) V
    rw [(side_iff (n : Int)).2 (by omega)] at this; exact this
  obtain ⟨po, cap, rfl, _⟩ := hc
  generalize ps.length = N at *
  go_enter Try.func8, Try.ntmps8
  go_upto_region 1 with fail
  have hs := (St.start w).alloc (gob 0 (.slice none 0 0))
  generalize w.alloc (gob 0 (.slice none 0 0)) = w1 at hs ⊢
  generalize hb : w.heap.size = b at hs ⊢
  go_upto_region 6 with (first
    | (go_at_call 16; (refine (HK.out _ hs.below).mono ?_); rintro e w2 ⟨rfl, h2⟩)
    | (go_at_call 17; (refine (HD.out _).mono ?_); rintro e w3 ⟨rfl, rfl⟩))
  have k2 := hs.later h2
  clear hs h2
  have hbk : b < w2.heap.size := k2.lt (b := b) (o := gob 0 (.slice none 0 0)) (by simp)
  have hwk := k2.below.size
  have HS := Lib.hid k2
  go_wp2_with (go_at_call 18; (refine (HC.out _ k2.below).mono ?_); rintro e w3 ⟨po3, cap3, rfl, ⟨hcl3, hfr3⟩, h3⟩; have k3 := HS.out.later h3; have m0 := k3.cell (b := b) (cs := #[.int .i64 0, .slice none 0 0]) (t := 30) (by simp) 0; have m1 := k3.cell (b := b) (cs := #[.int .i64 0, .slice none 0 0]) (t := 30) (by simp) 1; simp only [pair0, pair1] at m0 m1; have f0 := k3.frozen (b := b) (cs := #[.int .i64 0, .slice none 0 0]) (t := 30) (by simp) 0; have f1 := k3.frozen (b := b) (cs := #[.int .i64 0, .slice none 0 0]) (t := 30) (by simp) 1; have HCL := Lib.hid hcl3; have HF := Lib.hid hfr3; clear hcl3 hfr3)
  have hcl9 := (HCL.out.setCell (j := 0) (x := .int .i64 n) HF.out hbk).setCell (j := 1) (x := .slice po3 (tab ps n).length cap3) HF.out hbk
  exact bodyPost_ret (v := .tuple #[.agg #[.int .i64 n, .slice po3 (tab ps n).length cap3], er 0]) (by simp [results, Try.results8, go_sem, *]) rfl ⟨po3, cap3, rfl, ⟨hcl9, fun g off e => Nat.le_trans hwk (HF.out g off e)⟩, (k3.below.setCell (p := ⟨b, 0, none⟩) (Nat.le_of_eq hb) _).setCell (p := ⟨b, 1, none⟩) (Nat.le_of_eq hb) _⟩
end Go.Proofs.Ytcmplgiilcfncaa.K
