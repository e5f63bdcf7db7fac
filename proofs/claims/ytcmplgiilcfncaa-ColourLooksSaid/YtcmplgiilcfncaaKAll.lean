/-
  convertAll: a list of colours along a valid chain.
-/
import Derived.Test.YtcmplgiilcfncaaKCol
namespace Go.Proofs.Ytcmplgiilcfncaa.K
open Go.RowKit
variable {W w w' : World} {L : List (Nat × Obj)}

/-- what convertAll makes of a colour -/
def cvg (ps : List Ps) (c : C3) : C3 := gmt (cnv ps c)
/-- the block is new -/
def Fr (B : Nat) (po : Option Addr) : Prop := ∀ g off, po = some ⟨g, off, none⟩ → B ≤ g
theorem OwnsC.fr {B n cap : Nat} {po : Option Addr} {l : List C3} (h : OwnsC B w (.slice po n cap) l) : Fr B po := by
  obtain ⟨_, ⟨hv, _⟩ | ⟨g, cap', cur, hv, hg, _⟩⟩ := h
  · injection hv with e; intro g off h2; rw [e] at h2; cases h2
  · injection hv with e; intro g' off h2; rw [e] at h2; cases h2; exact hg
theorem cell_other {b j g i : Nat} {x : Value} (h : g ≠ b) : (w.setCell ⟨b, j, none⟩ x).cell? ⟨g, i, none⟩ = w.cell? ⟨g, i, none⟩ := by
  have := Below.heap_setCell w ⟨b, j, none⟩ x g h
  simp only [World.cell?, this]
theorem Cls.setCell {B b j n cap : Nat} {po : Option Addr} {l : List C3} {x : Value} (h : Cls w (.slice po n cap) l) (hf : Fr B po) (hb : b < B) : Cls (w.setCell ⟨b, j, none⟩ x) (.slice po n cap) l := by
  obtain ⟨po', cap', hv, h1, h2, h3⟩ := h
  refine ⟨po', cap', hv, h1, h2, fun hp => ?_⟩
  obtain ⟨g, off, h4, h5⟩ := h3 hp
  injection hv with e
  have hg : b < g := Nat.lt_of_lt_of_le hb (hf g off (e.trans h4))
  refine ⟨g, off, h4, by simpa using h5.lt, fun i hi => ?_⟩
  obtain ⟨k0, k1, k2⟩ := h5.at' i hi
  exact ⟨(cell_other (by omega)).trans k0, (cell_other (by omega)).trans k1, (cell_other (by omega)).trans k2⟩
/-- 'a list is handed back' -/
def GotL (l : List C3) (w : World) (e : Ending) (w' : World) : Prop := ∃ po cap, e = .returned (.slice po l.length cap) ∧ (Cls w' (.slice po l.length cap) l ∧ Fr w.heap.size po) ∧ Below w.heap.size w w'
theorem below_step {B : Nat} {V V' : World} (hw : w.heap.size = B) (h : Below B w V) (h' : Below V.heap.size V V') : Below B w V' := by
  subst hw
  exact h.trans (h'.mono h.size)
set_option maxRecDepth 100000 in
set_option maxHeartbeats 8000000 in
theorem all_any (ps : List Ps) (v : Value) (l : List C3) (vl : Value) (w : World) (hc : Chn w v ps) (h0 : 0 < ps.length) (hv : AllVd ps) (hl : Cls w vl l) (hn : l.length ≤ 1000000) :
    Calls Try.prog 39 #[v, vl] w (GotL (l.map (cvg ps)) w) := by
  have HC := Lib.hid hc
  obtain ⟨poc, capc, hvc, _⟩ := hc
  obtain ⟨n, hnl⟩ : ∃ n, l.length = n := ⟨_, rfl⟩
  have HL := Lib.hid hl
  obtain ⟨pol, capl, hvl, _⟩ := hl
  rw [hnl] at hvl hn
  obtain ⟨w1, hmk, hown, hb1⟩ := make_col w n (by omega)
  have HO := Lib.hid hown; have HB := Lib.hid hb1
  clear hown hb1
  generalize hwb : w.heap.size = B at HO HB hmk
  subst hvc hvl
  go_enter Try.func39, Try.ntmps39
  go_upto_region 2 with fail
  clear hmk
  go_upto_region 3 with fail
  go_loopw [5, 13] (fun v5 v13 wr => ∃ k : Nat, k ≤ n ∧ v13 = .int .i64 k ∧ Hid (OwnsC B wr v5 ((l.take k).map (cvg ps))) ∧ Hid (Below B w wr)) (fun _ i _ => n - (intOf i).toNat)
  case atStart => exact ⟨0, by omega, rfl, HO.out, HB.out⟩
  case round =>
    obtain ⟨k, hk, rfl, HK, HW⟩ := hrel
    by_cases hlt : k < n
    · have hbw : Below w.heap.size w wr := hwb ▸ HW.out
      have hcl := HL.out.later hbw
      obtain ⟨bl, ofl, cpl, hvl, _, _, hrow⟩ := hcl.row (by omega)
      rw [hnl] at hvl
      injection hvl with e1 e2 e3
      subst e1
      clear e2 e3
      obtain ⟨x0, x1, x2⟩ := hrow.at' k (by omega)
      have hmt := map_take (f := cvg ps) l k (by omega)
      have hlen : ((l.take k).map (cvg ps)).length = k := by rw [List.length_map, List.length_take]; omega
      obtain ⟨c, hcx⟩ : ∃ c, c3n l k = c := ⟨_, rfl⟩
      rw [hcx] at x0 x1 x2 hmt
      have HMT := Lib.hid hmt; clear hmt hcx
      obtain ⟨c0, c1, c2⟩ := c
      have hO := HK.out
      obtain ⟨po, cp, rfl⟩ := hO.slice
      rw [hlen]
      clear hrow hcl
      have q1 : (0 : Int) ≤ k := by omega
      have q2 : (k : Int) < n := by omega
      go_upto_region 5 with fail
      have h5 := (St.start wr).alloc (ac c0 c1 c2)
      have hO2 : OwnsC B (wr.alloc (ac c0 c1 c2)) (.slice po k cp) ((l.take k).map (cvg ps)) := by rw [hlen] at hO; exact hO.later below1
      have hb2 : Below B w (wr.alloc (ac c0 c1 c2)) := below_step hwb HW.out below1
      generalize wr.alloc (ac c0 c1 c2) = w2 at h5 hO2 hb2 ⊢
      generalize wr.heap.size = g at h5 ⊢
      obtain ⟨y0, y1, y2⟩ := h5.col (b := g) (x := c0) (y := c1) (z := c2) (t := 25) (by simp)
      have HV := Lib.hid (conv_any ps _ c0 c1 c2 w2 (HC.out.later (hwb ▸ hb2)) h0 hv)
      have HE : Hid (cvg ps ⟨c0, c1, c2⟩ = gmt (cnv ps ⟨c0, c1, c2⟩)) := rfl
      generalize cnv ps ⟨c0, c1, c2⟩ = d at HV HE
      obtain ⟨d0, d1, d2⟩ := d
      have HG : Hid (∀ V, Calls Try.prog 26 #[ag d0 d1 d2] V fun e w' => e = .returned (gmt ⟨d0, d1, d2⟩).v ∧ Below V.heap.size V w') := fun V => clampG_any d0 d1 d2 V
      generalize gmt ⟨d0, d1, d2⟩ = z at HG HE
      obtain ⟨z0, z1, z2⟩ := z
      have HO2 := Lib.hid hO2; have HB2 := Lib.hid hb2
      clear hO hO2 hb2 h5 x0 x1 x2 hbw
      have hkl : ((l.take k).map (cvg ps)).length < 1000000000 := by omega
      go_wp2_with (first
        | (go_at_call 58; (refine HV.out.mono ?_); rintro e w3 ⟨rfl, h3⟩; have HO3 := Lib.hid (HO2.out.later h3); have HB3 := Lib.hid (below_step hwb HB2.out h3); clear h3)
        | (go_at_call 26; (refine (HG.out _).mono ?_); rintro e w4 ⟨rfl, h4⟩; have HO4 := Lib.hid (HO3.out.later h4); have HB4 := Lib.hid (below_step hwb HB3.out h4); clear h4)
        | (at_builtin; refine wp_appC rfl (.tmp 17) (.tmp 22) rfl B w4 _ _ z0 z1 z2 (by rfl) HO4.out (by rfl) hkl (hwb ▸ HB4.out.size) ?_; intro v' w5 ho5 hb5; have HO5 := Lib.hid ho5; have HB5 := Lib.hid (HB4.out.trans hb5); clear ho5 hb5))
      go_roundw
      case rel => exact ⟨k + 1, by omega, by go_num, by rw [HMT.out, HE.out]; exact HO5, HB5⟩
      case measure => simp [intOf]; omega
    · obtain rfl : k = n := by omega
      have hO := HK.out
      rw [← hnl, List.take_length] at hO
      obtain ⟨po, cp, hv5, h5, h6, h7⟩ := hO.cls
      subst hv5
      have hfr : Fr w.heap.size po := hwb ▸ hO.fr
      have hb : Below w.heap.size w wr := hwb ▸ HW.out
      have HF : Hid (GotL (l.map (cvg ps)) w (.returned (.slice po (l.map (cvg ps)).length cp)) wr) := ⟨po, cp, rfl, ⟨⟨po, cp, rfl, h5, h6, h7⟩, hfr⟩, hb⟩
      clear hO h5 h6 h7 hb HC HL
      generalize (l.map (cvg ps)).length = m at HF ⊢
      go_wp2_with fail
      go_ret
      exact HF.out
end Go.Proofs.Ytcmplgiilcfncaa.K
