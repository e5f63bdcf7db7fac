/-
  The reference's Made.
-/
import Derived.Test.YtbodmeiecdomfaaGreatMadeL
import Derived.Test.YtbodmeiecdomfaaGreatSame
namespace Go.Proofs.YtbodmeiecdomfaaGreat
open Go.RowKit
variable {w : World}

/-- a number of a slice of one's own is stored -/
theorem own_put {B b n cap i : Nat} {p : List Int} {x : Int} (h : OwnsI B w (.slice (some ⟨b, 0, none⟩) n cap) p) : OwnsI B (w.setCell ⟨b, i, none⟩ (.int .i64 x)) (.slice (some ⟨b, 0, none⟩) n cap) (p.set i x) := by
  obtain ⟨hl, h | ⟨g, cap', cur, hv, hg, hh, hc, hm, hsz, ht⟩⟩ := h
  · exact absurd h.1 (by simp)
  · have e : b = g := by simpa [Value.ownBlock] using congrArg Value.ownBlock hv
    subst e
    have hn : n = p.length := by
      have := hv; simp at this; exact this.1
    have hlen : (p.set i x).length = p.length := List.length_set
    have hcs : cur.size = cap' := by omega
    refine ⟨by simp, .inr ⟨b, cap', cur.setIfInBounds i (.int .i64 x), by rw [hlen]; exact hv, hg, ?_, by rw [hlen]; exact hc, hm, by simpa using hsz, ?_⟩⟩
    · obtain ⟨hlt, hk⟩ := Array.getElem?_eq_some_iff.1 hh
      show (w.heap.modify b _)[b]? = _
      rw [Array.getElem?_eq_getElem (by rw [Array.size_modify]; exact hlt), Array.getElem_modify_self, hk]
      simp
    · rw [hlen, List.map_set, ← ht, Array.toList_setIfInBounds, List.take_set]
theorem own_cell {B b n cap i : Nat} {p : List Int} (h : OwnsI B w (.slice (some ⟨b, 0, none⟩) n cap) p) (hi : i < p.length) : w.cell? ⟨b, i, none⟩ = some (.int .i64 (cg p i)) ∧ w.frozen? ⟨b, i, none⟩ = false ∧ B ≤ b ∧ b < w.heap.size ∧ n = p.length := by
  obtain ⟨hl, h | ⟨g, cap', cur, hv, hg, hh, hc, hm, hsz, ht⟩⟩ := h
  · exact absurd h.1 (by simp)
  · have e : b = g := by simpa [Value.ownBlock] using congrArg Value.ownBlock hv
    subst e
    have hn : n = p.length := by
      have := hv; simp at this; exact this.1
    refine ⟨?_, frozen_of_row _ _ _ _ _ hh, hg, (Array.getElem?_eq_some_iff.1 hh).1, hn⟩
    rw [cell_of_row _ _ i _ _ _ hh]
    have h1 : (List.take (p.length * 1) cur.toList)[i]? = (p.map (Value.int .i64))[i]? := by rw [ht]
    rw [List.getElem?_take, if_pos (by omega), List.getElem?_map, List.getElem?_eq_getElem hi] at h1
    rw [← Array.getElem?_toList, h1]
    simp [cg, List.getD, hi]
def mix (l : List Int) (k : Nat) : List Int := (List.range (md l + 1)).map fun i => if i < k then scal l i else sm l i
theorem mix_len (l : List Int) (k : Nat) : (mix l k).length = md l + 1 := by unfold mix; simp
theorem mix_set (l : List Int) (k : Nat) : (mix l k).set k (scal l k) = mix l (k + 1) := by
  apply List.ext_getElem (by simp [mix_len])
  intro i h1 h2
  simp [mix_len] at h1 h2
  simp only [List.getElem_set, mix, List.getElem_map, List.getElem_range]
  by_cases he : k = i
  · subst he; simp
  · rw [if_neg he]
    by_cases hlt : i < k
    · rw [if_pos hlt, if_pos (by omega)]
    · rw [if_neg hlt, if_neg (by omega)]
theorem mix_all {l : List Int} (hm : ¬ md l = 0) (h : 0 < sm l (md l)) : mix l (md l + 1) = madeL l := by
  unfold mix madeL
  rw [if_neg hm]
  apply List.map_congr_left
  intro i hi
  rw [if_pos (by simpa using hi), if_pos h]
theorem mix_none {l : List Int} (hm : ¬ md l = 0) (h : ¬ 0 < sm l (md l)) : mix l 0 = madeL l := by
  unfold mix madeL
  rw [if_neg hm]
  apply List.map_congr_left
  intro i _
  rw [if_neg (by omega), if_neg h]
theorem mix_cg {l : List Int} {k : Nat} (hk : k < md l + 1) : cg (mix l k) k = sm l k := by unfold mix; rw [cg_map hk, if_neg (by omega)]
/-- a slice of one's own with these numbers is returned -/
def GotOwn (c : List Int) (w : World) (e : Ending) (w' : World) : Prop := ∃ po n cap, e = .returned (.slice po n cap) ∧ OwnsI w.heap.size w' (.slice po n cap) c ∧ Below w.heap.size w w'
set_option maxRecDepth 100000 in
set_option maxHeartbeats 8000000 in
theorem made_own (l : List Int) (v : Value) (w : World) (hc : Cm w v l) : Calls Tryz.prog 16 #[v] w (GotOwn (madeL l) w) := by
  obtain ⟨po, cap, rfl, ⟨hlc, hcap⟩, hel⟩ := hc.elem
  have HL := Lib.hid hel
  have hmd : md l = min l.length 256 := rfl
  obtain ⟨n, hn⟩ : ∃ n, n = l.length := ⟨_, rfl⟩
  obtain ⟨m, hm⟩ : ∃ m, m = md l := ⟨_, rfl⟩
  have HM : Hid (m = min n 256) := by rw [hm, hn]; exact hmd
  have HMm := Lib.hid hm
  have HN := Lib.hid hn
  rw [← hn] at HL hlc ⊢
  have hmax : n ≤ 9223372036854775807 := by omega
  clear hm hn hmd hel hc
  go_enter Tryz.func16, Tryz.ntmps16
  go_wp2
  go_loopw [3, 4, 5] (fun c t i wr => ∃ k : Nat, k ≤ m ∧ i = .int .i64 k ∧ t = .int .i64 (sm l k) ∧ Hid (OwnsI w.heap.size wr c ((List.range (k + 1)).map (sm l))) ∧ Hid (Below w.heap.size w wr)) (fun _ _ i _ => m - (intOf i).toNat)
  case atStart => exact ⟨0, by omega, rfl, rfl, ownsI_lit w w.heap.size (Nat.le_refl _) [0] 1 rfl (by omega) _ rfl, below1⟩
  case round =>
    obtain ⟨k, hk, rfl, rfl, HO, HW⟩ := hrel
    have hk256 : k ≤ 256 := by have := HM.out; omega
    have hsb := sm_bd l k
    obtain ⟨hs0, hs1⟩ := hsb
    have hkn : k ≤ n := by have := HM.out; omega
    go_upto_region 4 with fail
    go_cut [16] (fun r wx => r = .bool (decide (k < m)) ∧ wx = wr)
    case first =>
      by_cases h1 : (k : Int) < n
      · by_cases h2 : (k : Int) < 256
        · go_wp2_with fail
          go_meet
          exact ⟨by rw [decide_eq_true (by have := HM.out; omega)], rfl⟩
        · go_wp2_with fail
          go_meet
          exact ⟨by rw [decide_eq_false (by have := HM.out; omega)], rfl⟩
      · go_wp2_with fail
        go_meet
        exact ⟨by rw [decide_eq_false (by have := HM.out; omega)], rfl⟩
    case rest =>
    obtain ⟨rfl, rfl⟩ := hcut
    by_cases hlt : k < m
    · rw [decide_eq_true hlt]
      obtain ⟨b, off, rfl, hcell⟩ := HL.out _ HW.out k (by have := HM.out; omega)
      have hkn2 : (k : Int) < n := by have := HM.out; omega
      have hmask : bits .and .i64 (cg l k) 65535 = cg l k % 65536 := i64_mask 16 (by omega) _
      have HS1 : Hid (sm l (k + 1) = sm l k + cg l k % 65536) := rfl
      have hx := Int.emod_nonneg (cg l k) (b := 65536) (by omega)
      have hx2 := Int.emod_lt_of_pos (cg l k) (b := 65536) (by omega)
      have HSn : Hid ((List.range (k + 1 + 1)).map (sm l) = (List.range (k + 1)).map (sm l) ++ [sm l (k + 1)]) := by unfold Hid; rw [List.range_succ, List.map_append]; rfl
      have HLen : Hid (((List.range (k + 1)).map (sm l)).length = k + 1) := by unfold Hid; simp
      generalize hp : (List.range (k + 1)).map (sm l) = p at HO HSn HLen
      have HP := Lib.hid hp; clear hp
      rw [HS1.out] at HSn
      generalize cg l k = z at hcell hmask hx hx2 HS1 HSn
      generalize z % 65536 = y at hmask hx hx2 HS1 HSn
      generalize sm l k = t at hs0 hs1 HS1 HSn ⊢
      go_wp2_with (at_builtin; refine wp_appI 23 Tryz.underlying23 rfl (.tmp 26) (.tmp 28) rfl w.heap.size wc _ p (t + y) (by rfl) HO.out (by rfl) (by rw [HLen.out]; omega) HW.out.size ?_; intro v' w' ho' hb'; have HO' := Lib.hid ho'; have HB' := Lib.hid hb'; clear ho' hb')
      go_roundw
      case rel => exact ⟨k + 1, by omega, by go_num, by rw [HS1.out], by rw [HSn.out]; exact HO', HW.out.trans HB'.out⟩
      case measure => simp [intOf]; omega
    · rw [decide_eq_false hlt]
      obtain rfl : k = m := by omega
      have HLen : Hid (((List.range (k + 1)).map (sm l)).length = k + 1) := by unfold Hid; simp
      have HPm : Hid (∀ i, i < k + 1 → cg ((List.range (k + 1)).map (sm l)) i = sm l i) := fun i hi => cg_map hi
      by_cases hk0 : k = 0
      · have hn0 : n = 0 := by have := HM.out; omega
        have HR : Hid ((List.range (k + 1)).map (sm l) ++ [65535] = madeL l) := by
          have := HMm.out
          unfold Hid madeL; rw [← this, if_pos hk0, hk0]; rfl
        have ht : sm l k = 0 := by rw [hk0]; rfl
        rw [ht]
        have hl1 : (k : Int) + 1 = 1 := by omega
        generalize hp : (List.range (k + 1)).map (sm l) = p at HO HLen HR
        have hlen1 : p.length = 1 := by rw [HLen.out, hk0]
        obtain ⟨p1, c1, rfl⟩ := HO.out.slice hlen1
        have HL1 := Lib.hid hlen1
        have HK0 := Lib.hid hk0
        have hn1 : ((n : Int) > 2) = False := by simp; omega
        have hn2 : ((2 : Int) < n) = False := by simp; omega
        clear hp hlen1 hk0 hl1 ht hs0 hs1 hk256 hkn hk hlt HPm
        go_wp2_with (at_builtin; refine wp_appI 23 Tryz.underlying23 rfl (.tmp 33) (.tmp 34) rfl w.heap.size wc _ p 65535 (by rfl) HO.out (by rfl) (by rw [HL1.out]; omega) HW.out.size ?_; intro v' w' ho' hb'; have HO' := Lib.hid ho'; have HB' := Lib.hid hb'; obtain ⟨p2, c2, rfl⟩ := ho'.slice (n := 2) (by rw [List.length_append, HL1.out]; rfl); clear ho' hb')
        refine wp_loop_rounds 1 ?_
        rw [rounds_succ]
        go_wp2_with fail
        go_ret
        exact ⟨_, _, _, rfl, by have := HO'.out; rw [HR.out] at this; exact this, HW.out.trans HB'.out⟩
      · have hk1 : 1 ≤ k := by omega
        have HMix : Hid ((List.range (k + 1)).map (sm l) = mix l 0) := by
          have := HMm.out
          unfold Hid mix; rw [← this]; simp
        have HK : Hid (¬ md l = 0) := by rw [← HMm.out]; exact hk0
        rw [HMix.out] at HO
        have hlenm : (mix l 0).length = k + 1 := by rw [mix_len, ← HMm.out]
        obtain ⟨g, c1, rfl⟩ := HO.out.some hlenm (by omega)
        have hlow : Hid (lw l = if 2 < n ∧ cg l 0 % 8 = 3 then cg l 1 % 4096 else 0) := by rw [HN.out]; rfl
        clear hlenm hk0 hlt HPm HLen HMix
        go_upto_region 11 with fail
        obtain ⟨q, hq⟩ : ∃ q : Bool, q = decide (2 < n ∧ cg l 0 % 8 = 3) := ⟨_, rfl⟩
        have HQ := Lib.hid hq; clear hq
        have HEL : Hid (2 < n → ∃ b off, po = some ⟨b, off, none⟩ ∧ wc.cell? ⟨b, off, none⟩ = some (.int .i64 (cg l 0)) ∧ wc.cell? ⟨b, off + 1, none⟩ = some (.int .i64 (cg l 1))) := fun h2n => by
          obtain ⟨b, off, e1, e2⟩ := HL.out _ HW.out 0 (by omega)
          obtain ⟨b', off', e3, e4⟩ := HL.out _ HW.out 1 (by omega)
          rw [e1] at e3
          cases e3
          exact ⟨b, off, e1, e2, e4⟩
        have hm8 : bits .and .i64 (cg l 0) 7 = cg l 0 % 8 := i64_mask 3 (by omega) _
        have hm12 : bits .and .i64 (cg l 1) 4095 = cg l 1 % 4096 := i64_mask 12 (by omega) _
        have hge : ¬ ((k : Int) + 1 < 2) := by omega
        go_cut [45] (fun r wx => r = .bool q ∧ wx = wc)
        case first =>
          by_cases h2n : 2 < n
          · obtain ⟨b, off, rfl, c0, c1'⟩ := HEL.out h2n
            have h2i : (2 : Int) < n := by omega
            have HQ2 : Hid (q = decide (cg l 0 % 8 = 3)) := by unfold Hid; rw [HQ.out]; simp [h2n]
            have hp0 : 0 < n := by omega
            generalize cg l 0 = z at c0 hm8 HQ2
            generalize z % 8 = y at hm8 HQ2
            by_cases hy : y = 3
            · have hy' : (y == 3) = true := by simp [hy]
              have HQ3 : Hid (q = true) := by unfold Hid; rw [HQ2.out]; simp [hy]
              clear hy HQ2
              go_wp2_with fail
              go_meet
              exact ⟨by rw [HQ3.out], rfl⟩
            · have hy' : (y == 3) = false := by simp [hy]
              have HQ3 : Hid (q = false) := by unfold Hid; rw [HQ2.out]; simp [hy]
              clear hy HQ2
              go_wp2_with fail
              go_meet
              exact ⟨by rw [HQ3.out], rfl⟩
          · have h2i : ¬ (2 : Int) < n := by omega
            have HQ3 : Hid (q = false) := by unfold Hid; rw [HQ.out]; simp [h2n]
            go_wp2_with fail
            go_meet
            exact ⟨by rw [HQ3.out], rfl⟩
        case rest =>
        obtain ⟨rfl, rfl⟩ := hcut
        go_upto_if 45 with fail
        go_cut [6] (fun r wx => r = .int .i64 (lw l) ∧ wx = wc)
        case first =>
          cases q
          · have HQ3 : Hid (lw l = 0) := by
              have h := of_decide_eq_false HQ.out.symm
              rw [hlow.out, if_neg h]; rfl
            go_wp2_with fail
            go_meet
            exact ⟨by rw [HQ3.out], rfl⟩
          · have h := of_decide_eq_true HQ.out.symm
            have HQ3 : Hid (lw l = cg l 1 % 4096) := by rw [hlow.out, if_pos h]; rfl
            obtain ⟨b, off, rfl, c0, c1'⟩ := HEL.out h.1
            have hp0 : (1 : Int) < n := by omega
            have hp1 : 1 < n := by omega
            clear h hm8 c0 hlow HEL HQ
            generalize cg l 1 = z at c1' hm12 HQ3
            generalize z % 4096 = y at hm12 HQ3
            go_wp2_with fail
            go_meet
            exact ⟨by rw [HQ3.out], rfl⟩
        case rest =>
        obtain ⟨rfl, rfl⟩ := hcut
        have hb := lw_bd l
        clear HEL HQ hlow hm8 hm12 hge
        have HLn : Hid (∀ j, (mix l j).length = k + 1) := fun j => by rw [mix_len, ← HMm.out]
        have hmono : ∀ j, j ≤ k → 0 ≤ sm l j ∧ sm l j ≤ sm l k := fun j hj => ⟨(sm_bd l j).1, sm_mono l hj⟩
        have HMono := Lib.hid hmono
        have HSc : Hid (∀ j, scal l j = lw l + sm l j * (65535 - lw l) / sm l k) := fun j => by have := HMm.out; unfold scal; rw [← this]
        have HAll : Hid (0 < sm l k → mix l (k + 1) = madeL l) := fun h => by
          have := mix_all HK.out (by rw [← HMm.out]; exact h)
          rw [← HMm.out] at this; exact this
        have HNo : Hid (¬ 0 < sm l k → mix l 0 = madeL l) := fun h => mix_none HK.out (by rw [← HMm.out]; exact h)
        generalize lw l = o at hb HSc ⊢
        obtain ⟨hb0, hb1⟩ := hb
        clear hmono
        by_cases hs : 0 < sm l k
        · have HF := Lib.hid (HAll.out hs)
          have hs1' : sm l k ≤ 16776960 := by omega
          clear HAll HNo hs1
          generalize sm l k = t at hs0 hs hs1' HMono HSc ⊢
          have htz : (t == 0) = false := by simp; omega
          go_wp2_with fail
          go_loopw [7] (fun i wr => ∃ j : Nat, j ≤ k + 1 ∧ i = .int .i64 j ∧ Hid (OwnsI w.heap.size wr (.slice (some ⟨g, 0, none⟩) (k + 1) c1) (mix l j)) ∧ Hid (Below w.heap.size w wr)) (fun i _ => k + 1 - (intOf i).toNat)
          case atStart => exact ⟨0, by omega, rfl, HO, HW⟩
          case round =>
            clear HO HW
            obtain ⟨j, hj, rfl, HO, HW⟩ := hrel
            by_cases hlt : j < k + 1
            · obtain ⟨d1, d2, d3, d4, -⟩ := own_cell HO.out (i := j) (by rw [HLn.out]; exact hlt)
              rw [mix_cg (by rw [← HMm.out]; exact hlt)] at d1
              have hx := HMono.out j (by omega)
              have HS1 := Lib.hid (HSc.out j)
              have HP := Lib.hid (own_put (i := j) (x := scal l j) HO.out)
              rw [mix_set l j, HS1.out] at HP
              generalize sm l j = x at d1 hx HS1 HP
              have hq := quo_bd hx.1 hx.2 (show 0 ≤ 65535 - o by omega) hs
              have hz1 : 0 ≤ x * (65535 - o) := Int.mul_nonneg hx.1 (by omega)
              have hz2 : x * (65535 - o) ≤ 16776960 * 65535 := Int.mul_le_mul (by omega) (by omega) (by omega) (by omega)
              have hwz : IntKind.i64.wrap (x * (65535 - o)) = x * (65535 - o) := IntWalk.i64_in _ (by omega)
              obtain ⟨z, hz⟩ : ∃ z, z = x * (65535 - o) := ⟨_, rfl⟩
              have hwz2 : IntKind.i64.wrap (x * (65535 - o)) = z := by rw [hwz, hz]
              have hwz3 : wrap64 (x * (65535 - o)) = z := (IntWalk.i64_left _).symm.trans hwz2
              rw [← hz] at hq hz1 hz2 HS1 HP
              have HZ := Lib.hid hz
              clear hwz hz
              obtain ⟨qd, hqd⟩ : ∃ qd, qd = z / t := ⟨_, rfl⟩
              rw [← hqd] at hq HS1 HP
              have htd : z.tdiv t = qd := by rw [hqd]; exact Int.tdiv_eq_ediv_of_nonneg hz1
              have htd2 : z / t = qd := hqd.symm
              have HQD := Lib.hid hqd
              clear hqd
              obtain ⟨hx1, hx2⟩ := hx
              obtain ⟨hq1, hq2⟩ := hq
              have hj1 : (j : Int) < (k : Int) + 1 := by omega
              go_wp2_with fail
              go_roundw
              case rel => exact ⟨j + 1, by omega, by go_num, HP, HW.out.setCell (p := ⟨g, j, none⟩) d3 _⟩
              case measure => simp [intOf]; omega
            · obtain rfl : j = k + 1 := by omega
              rw [HF.out] at HO
              have hj1 : (((k + 1 : Nat)) : Int) = (k : Int) + 1 := by omega
              rw [hj1]
              go_wp2_with fail
              go_ret
              exact ⟨_, _, _, rfl, HO.out, HW.out⟩
        · have HF := Lib.hid (HNo.out hs)
          have ht : sm l k = 0 := by omega
          rw [ht]
          rw [HF.out] at HO
          clear ht hs hs0 hs1 HAll HNo HMono HSc
          go_wp2_with fail
          refine wp_loop_rounds 1 ?_
          rw [rounds_succ]
          go_wp2_with fail
          go_ret
          exact ⟨_, _, _, rfl, HO.out, HW.out⟩
theorem made_any (l : List Int) (v : Value) (w : World) (hc : Cm w v l) : Calls Tryz.prog 16 #[v] w (GotC (madeL l) w) :=
  (made_own l v w hc).mono fun _ _ ⟨po, n, cap, h1, h2, h3⟩ => ⟨po, n, cap, h1, h2.cm, h3⟩
end Go.Proofs.YtbodmeiecdomfaaGreat
