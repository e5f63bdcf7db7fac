/-
  sample: the table of a valid chain.
-/
import Derived.Test.YtcmplgiilcfncaaKAll
namespace Go.Proofs.Ytcmplgiilcfncaa.K
open Go.RowKit
variable {W w w' : World} {L : List (Nat × Obj)}

/-- the grid's points: the first k of the row (x, y), the first j rows of x, all of the first i -/
def pt3 (x y : Int) (c : List Int) (k : Nat) : List C3 := (c.take k).map fun z => ⟨x, y, z⟩
def pt2 (x : Int) (c : List Int) (j : Nat) : List C3 := (c.take j).flatMap fun y => pt3 x y c c.length
def pt1 (c : List Int) (i : Nat) : List C3 := (c.take i).flatMap fun x => pt2 x c c.length
def pts (c : List Int) : List C3 := pt1 c c.length
theorem take_cg {c : List Int} {k : Nat} (h : k < c.length) : c.take (k + 1) = c.take k ++ [cg c k] := by
  rw [List.take_add_one, List.getElem?_eq_getElem h]
  simp [cg, List.getD, h]
theorem pt3_succ {x y : Int} {c : List Int} {k : Nat} (h : k < c.length) : pt3 x y c (k + 1) = pt3 x y c k ++ [⟨x, y, cg c k⟩] := by unfold pt3; rw [take_cg h]; simp
theorem pt2_succ {x : Int} {c : List Int} {j : Nat} (h : j < c.length) : pt2 x c (j + 1) = pt2 x c j ++ pt3 x (cg c j) c c.length := by unfold pt2; rw [take_cg h]; simp
theorem pt1_succ {c : List Int} {i : Nat} (h : i < c.length) : pt1 c (i + 1) = pt1 c i ++ pt2 (cg c i) c c.length := by unfold pt1; rw [take_cg h]; simp
theorem pt3_len {x y : Int} {c : List Int} {k : Nat} (h : k ≤ c.length) : (pt3 x y c k).length = k := by unfold pt3; simp; omega
theorem pt2_len {x : Int} {c : List Int} : ∀ {j : Nat}, j ≤ c.length → (pt2 x c j).length = j * c.length
  | 0, _ => by simp [pt2]
  | j + 1, h => by rw [pt2_succ (by omega), List.length_append, pt2_len (by omega), pt3_len (Nat.le_refl _), Nat.succ_mul]
theorem pt1_len {c : List Int} : ∀ {i : Nat}, i ≤ c.length → (pt1 c i).length = i * (c.length * c.length)
  | 0, _ => by simp [pt1]
  | i + 1, h => by rw [pt1_succ (by omega), List.length_append, pt1_len (by omega), pt2_len (Nat.le_refl _), Nat.succ_mul]
theorem pts_len (c : List Int) : (pts c).length = c.length * (c.length * c.length) := pt1_len (Nat.le_refl _)
theorem pt_bound {c : List Int} (hc : c.length ≤ 17) {i j k : Nat} (hi : i ≤ c.length) (hj : j ≤ c.length) (hk : k ≤ c.length) (x y : Int) : (pt1 c i ++ (pt2 x c j ++ pt3 x y c k)).length < 1000000000 := by
  rw [List.length_append, List.length_append, pt1_len hi, pt2_len hj, pt3_len hk]
  have h1 : i * (c.length * c.length) ≤ 17 * (17 * 17) := Nat.mul_le_mul (by omega) (Nat.mul_le_mul hc hc)
  have h2 : j * c.length ≤ 17 * 17 := Nat.mul_le_mul (by omega) hc
  omega
theorem cube_facts {n : Nat} (hn : n ≤ 17) : ∃ m2 m3 : Nat, IntKind.i64.wrap ((n : Int) * n) = m2 ∧ IntKind.i64.wrap ((m2 : Int) * n) = m3 ∧ wrap64 ((n : Int) * n) = m2 ∧ wrap64 ((m2 : Int) * n) = m3 ∧ m3 ≤ 1000000000 := by
  have hb2 : n * n ≤ 17 * 17 := Nat.mul_le_mul hn hn
  have hb3 : n * n * n ≤ 17 * 17 * 17 := Nat.mul_le_mul hb2 hn
  have i2 : (n : Int) * n = (n * n : Nat) := by simp
  have i3 : ((n * n : Nat) : Int) * n = (n * n * n : Nat) := by simp
  have g2 : IntKind.i64.wrap ((n : Int) * n) = (n * n : Nat) := by rw [i2]; exact wr_in (by omega)
  have g3 : IntKind.i64.wrap (((n * n : Nat) : Int) * n) = (n * n * n : Nat) := by rw [i3]; exact wr_in (by omega)
  exact ⟨n * n, n * n * n, g2, g3, (IntWalk.i64_left _).symm.trans g2, (IntWalk.i64_left _).symm.trans g3, by omega⟩
/-- 'a grid is handed back' -/
def GotG (n : Nat) (l : List C3) (w : World) (e : Ending) (w' : World) : Prop := ∃ po cap, e = .returned (.agg #[.int .i64 n, .slice po l.length cap]) ∧ (Cls w' (.slice po l.length cap) l ∧ Fr w.heap.size po) ∧ Below w.heap.size w w'
def tab (ps : List Ps) (n : Nat) : List C3 := (pts (lin n)).map (cvg ps)
set_option maxRecDepth 100000 in
set_option maxHeartbeats 8000000 in
theorem sample_any (ps : List Ps) (v : Value) (n : Nat) (w : World) (hc : Chn w v ps) (h0 : 0 < ps.length) (hv : AllVd ps) (hn2 : 2 ≤ n) (hn17 : n ≤ 17) :
    Calls Try.prog 18 #[v, .int .i64 n] w (GotG n (tab ps n) w) := by
  have HC := Lib.hid hc
  obtain ⟨poc, capc, rfl, _⟩ := hc
  obtain ⟨m2, m3, g2, g3, g4, g5, hb3⟩ := cube_facts hn17
  have HLine : Hid (∀ V, Calls Try.prog 19 #[.int .i64 n] V (GotC (lin n) V)) := fun V => by
    have h := line_any (n : Int) V
    have e : lineL n = lin n := by unfold lineL; rw [if_pos ((vc_iff _).2 (by omega))]; rfl
    rw [e] at h; exact h
  have HT : Hid (tab ps n = (pts (lin n)).map (cvg ps)) := rfl
  have hcl : (lin n).length = n := lin_len n
  generalize lin n = c at HLine HT hcl
  go_enter Try.func18, Try.ntmps18
  go_upto_region 1 with fail
  have hs := (St.start w).alloc (.cells #[.int .i64 0, .slice none 0 0] 30)
  generalize w.alloc (.cells #[.int .i64 0, .slice none 0 0] 30) = wA at hs ⊢
  generalize hwb : w.heap.size = b at hs ⊢
  have HS := Lib.hid hs; clear hs
  go_upto_region 2 with (go_at_call 19; (refine (HLine.out _).mono ?_); rintro e w1 ⟨pl, nl, cl, rfl, hcm, hb⟩)
  obtain ⟨bl, ol, cl', hvl, _, _, hrow⟩ := hcm.row (by omega)
  rw [hcl] at hvl
  injection hvl with e1 e2 e3
  subst e1 e2 e3
  have HR := Lib.hid hrow
  have HS1 := Lib.hid (HS.out.later hb)
  clear hrow hcm hb HLine HS
  obtain ⟨w2, hmk, hown, hb1⟩ := make_col w1 m3 hb3
  have HO := Lib.hid hown; have HB := Lib.hid hb1
  clear hown hb1
  generalize hB1 : w1.heap.size = B at HO HB hmk
  go_upto_region 3 with fail
  clear g2 g3 g4 g5 hb3 hmk
  go_upto_region 4 with fail
  go_loopw [6, 23] (fun v6 v23 wr => ∃ i : Nat, i ≤ nl ∧ v23 = .int .i64 i ∧ Hid (OwnsC B wr v6 (pt1 c i)) ∧ Hid (Below B w1 wr)) (fun _ i _ => nl - (intOf i).toNat)
  case atStart => exact ⟨0, by omega, rfl, HO.out, HB.out⟩
  case round =>
    obtain ⟨i, hi, rfl, HK, HW⟩ := hrel
    by_cases hlt : i < nl
    · have hr1 := HR.out.later (hB1 ▸ HW.out)
      have x1 := hr1.at' i (by omega)
      generalize hx : cg c i = x at x1
      have HX := Lib.hid hx; clear hx hr1
      obtain ⟨po, cp, rfl⟩ := HK.out.slice
      generalize (pt1 c i).length = N1 at HK ⊢
      have q1 : (0 : Int) ≤ i := by omega
      have q2 : (i : Int) < nl := by omega
      go_upto_region 7 with fail
      go_loopw [6, 29] (fun v6 v29 wr => ∃ j : Nat, j ≤ nl ∧ v29 = .int .i64 j ∧ Hid (OwnsC B wr v6 (pt1 c i ++ pt2 x c j)) ∧ Hid (Below B w1 wr)) (fun _ i _ => nl - (intOf i).toNat)
      case atStart => exact ⟨0, by omega, rfl, by rw [show pt1 c i ++ pt2 x c 0 = pt1 c i by simp [pt2]]; exact HK, HW⟩
      case round =>
        obtain ⟨j, hj, rfl, HKj, HWj⟩ := hrel
        by_cases hjt : j < nl
        · have hr1 := HR.out.later (hB1 ▸ HWj.out)
          have y1 := hr1.at' j (by omega)
          generalize hy : cg c j = y at y1
          have HY := Lib.hid hy; clear hy hr1
          obtain ⟨po2, cp2, rfl⟩ := HKj.out.slice
          generalize (pt1 c i ++ pt2 x c j).length = N2 at HKj ⊢
          have q3 : (0 : Int) ≤ j := by omega
          have q4 : (j : Int) < nl := by omega
          go_upto_region 10 with fail
          go_loopw [6, 35] (fun v6 v35 wr => ∃ k : Nat, k ≤ nl ∧ v35 = .int .i64 k ∧ Hid (OwnsC B wr v6 (pt1 c i ++ (pt2 x c j ++ pt3 x y c k))) ∧ Hid (Below B w1 wr)) (fun _ i _ => nl - (intOf i).toNat)
          case atStart => exact ⟨0, by omega, rfl, by rw [show pt1 c i ++ (pt2 x c j ++ pt3 x y c 0) = pt1 c i ++ pt2 x c j by simp [pt3]]; exact HKj, HWj⟩
          case round =>
            obtain ⟨k, hk, rfl, HKk, HWk⟩ := hrel
            by_cases hkt : k < nl
            · have hr1 := HR.out.later (hB1 ▸ HWk.out)
              have z1 := hr1.at' k (by omega)
              have hbd := pt_bound (c := c) (by omega) (i := i) (j := j) (k := k) (by omega) (by omega) (by omega) x y
              have HN : Hid (pt1 c i ++ (pt2 x c j ++ pt3 x y c (k + 1)) = pt1 c i ++ (pt2 x c j ++ pt3 x y c k) ++ [⟨x, y, cg c k⟩]) := by unfold Hid; rw [pt3_succ (by omega)]; simp
              generalize cg c k = z at z1 HN
              have hsz : B ≤ wr.heap.size := hB1 ▸ HWk.out.size
              clear hr1
              obtain ⟨po3, cp3, rfl⟩ := HKk.out.slice
              have q5 : (0 : Int) ≤ k := by omega
              have q6 : (k : Int) < nl := by omega
              generalize pt1 c i ++ (pt2 x c j ++ pt3 x y c k) = l at HKk HN hbd
              have HBD := Lib.hid hbd
              generalize l.length = N3 at HKk hbd ⊢
              have hbd2 : Hid (l.length < 1000000000) := HBD.out
              go_wp2_with (at_builtin; refine wp_appC rfl (.tmp 39) (.tmp 44) rfl B wr _ _ x y z (by rfl) HKk.out (by rfl) hbd2.out hsz ?_; intro v' w5 ho5 hb5; have HO5 := Lib.hid ho5; have HB5 := Lib.hid (HWk.out.trans hb5); clear ho5 hb5)
              go_roundw
              case rel => exact ⟨k + 1, by omega, by go_num, by rw [HN.out]; exact HO5, HB5⟩
              case measure => simp [intOf]; omega
            · obtain rfl : k = nl := by omega
              have HK2 : Hid (∀ V v, OwnsC B V v (pt1 c i ++ (pt2 x c j ++ pt3 x y c k)) → OwnsC B V v (pt1 c i ++ pt2 x c (j + 1))) := fun V v h => by
                rw [pt2_succ (by omega), HY.out, hcl]; exact h
              go_wp2_with fail
              go_roundw
              case rel => exact ⟨j + 1, by omega, by go_num, HK2.out _ _ HKk.out, HWk⟩
              case measure => simp [intOf]; omega
        · obtain rfl : j = nl := by omega
          have HK2 : Hid (∀ V v, OwnsC B V v (pt1 c i ++ pt2 x c j) → OwnsC B V v (pt1 c (i + 1))) := fun V v h => by
            rw [pt1_succ (by omega), HX.out, hcl]; exact h
          go_wp2_with fail
          go_roundw
          case rel => exact ⟨i + 1, by omega, by go_num, HK2.out _ _ HKj.out, HWj⟩
          case measure => simp [intOf]; omega
    · obtain rfl : i = nl := by omega
      have hO := HK.out
      have hP : pt1 c i = pts c := by unfold pts; rw [hcl]
      rw [hP] at hO
      have hlen : (pts c).length ≤ 1000000 := by
        rw [pts_len, hcl]
        exact Nat.le_trans (Nat.mul_le_mul hn17 (Nat.mul_le_mul hn17 hn17)) (by decide)
      obtain ⟨po, cp, rfl⟩ := hO.slice
      have hS := HS1.out.later (hB1 ▸ HW.out)
      have HA := Lib.hid (all_any ps _ (pts c) _ wr (HC.out.later hS.below) h0 hv hO.cls hlen)
      rw [← HT.out] at HA
      have HG : Hid (∀ V, Below wr.heap.size wr V → (V.cell? ⟨b, 0, none⟩ = some (.int .i64 0) ∧ V.cell? ⟨b, 1, none⟩ = some (.slice none 0 0)) ∧ (V.frozen? ⟨b, 0, none⟩ = false ∧ V.frozen? ⟨b, 1, none⟩ = false) ∧ Below w.heap.size w V) := fun V hV => by
        have hh := hS.later hV
        exact ⟨⟨hh.cell (b := b) (cs := #[.int .i64 0, .slice none 0 0]) (t := 30) (by simp) 0, hh.cell (b := b) (cs := #[.int .i64 0, .slice none 0 0]) (t := 30) (by simp) 1⟩, ⟨hh.frozen (b := b) (cs := #[.int .i64 0, .slice none 0 0]) (t := 30) (by simp) 0, hh.frozen (b := b) (cs := #[.int .i64 0, .slice none 0 0]) (t := 30) (by simp) 1⟩, hh.below⟩
      have hbr : b < wr.heap.size := hS.lt (b := b) (o := .cells #[.int .i64 0, .slice none 0 0] 30) (by simp)
      have hwr : w.heap.size ≤ wr.heap.size := hS.below.size
      clear hO hP hS HC HK HW HR HO HB HS1
      generalize (pts c).length = N at HA ⊢
      go_wp2_with (go_at_call 39; (refine HA.out.mono ?_); rintro e w5 ⟨po5, cp5, rfl, ⟨hcl5, hfr5⟩, h5⟩; obtain ⟨⟨m0, m1⟩, ⟨f0, f1⟩, h6⟩ := HG.out _ h5; have HCL := Lib.hid hcl5; have HF := Lib.hid hfr5; clear hcl5 hfr5)
      have hcl9 := (HCL.out.setCell (j := 0) (x := .int .i64 i) HF.out hbr).setCell (j := 1) (x := .slice po5 (tab ps i).length cp5) HF.out hbr
      exact bodyPost_ret (v := .agg #[.int .i64 i, .slice po5 (tab ps i).length cp5]) (by simp [results, Try.results18, go_sem, *]) rfl ⟨po5, cp5, rfl, ⟨hcl9, fun g off e => Nat.le_trans hwr (HF.out g off e)⟩, (h6.setCell (p := ⟨b, 0, none⟩) (Nat.le_of_eq hwb) _).setCell (p := ⟨b, 1, none⟩) (Nat.le_of_eq hwb) _⟩
end Go.Proofs.Ytcmplgiilcfncaa.K
