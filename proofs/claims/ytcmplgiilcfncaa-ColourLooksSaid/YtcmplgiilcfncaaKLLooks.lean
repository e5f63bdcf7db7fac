/-
  ColourLooks: for all grids, Look returns what the reference model returns. No conditions.
-/
import Derived.Test.YtcmplgiilcfncaaKLaw
import Derived.Test.YtcmplgiilcfncaaKRLook
import Derived.Test.YtcmplgiilcfncaaKGrd
import Derived.Deep.CutRange
import Derived.Deep.DeepCutAuto
namespace Go.Proofs.Ytcmplgiilcfncaa.K.KLLooks
open Go.ChangeShapes Go.WideShapes Go.ChangeAt Go.RowKit


set_option maxHeartbeats 8000000 in
set_option maxRecDepth 100000 in
theorem walk (s0 s1 : Int) (q : List Int) (vq : Value) (c0 c1 c2 : Int) (w : World) (hq : Ca w vq q) : Calls Try.prog 3 #[.agg #[.int .i64 s0, .int .i64 s1], vq, ag c0 c1 c2] w fun e w' => e = .returned (.bool true) ∧ Below w.heap.size w w' := by
  go_enter Try.func3, Try.ntmps3
  go_upto_region 1 with fail
  have hs := ((St.start w).alloc (.cells #[.int .i64 s0, .int .i64 s1] 22)).alloc (ac c0 c1 c2)
  rw [World.size_alloc] at hs
  generalize (w.alloc (.cells #[.int .i64 s0, .int .i64 s1] 22)).alloc (ac c0 c1 c2) = w1 at hs ⊢
  generalize hb : w.heap.size = b at hs ⊢
  go_upto_region 2 with (go_at_call 4; (refine (St.call hs (sane_any _)).mono ?_); rintro e w2 ⟨rfl, h2⟩)
  clear hs
  have n0 := h2.cell (b := b) (cs := #[.int .i64 s0, .int .i64 s1]) (t := 22) (by simp) 0
  have n1 := h2.cell (b := b) (cs := #[.int .i64 s0, .int .i64 s1]) (t := 22) (by simp) 1
  simp only [pair0, pair1] at n0 n1
  obtain ⟨k, hk⟩ : ∃ k : Nat, s0 % 6 = k := ⟨(s0 % 6).toNat, by omega⟩
  have hk6 : k < 6 := by omega
  obtain ⟨d, hd⟩ : ∃ d : Nat, s1 % 2 = d := ⟨(s1 % 2).toNat, by omega⟩
  have hd2 : d < 2 := by omega
  have HR6 : Hid (∀ V, Calls Try.prog 5 #[.int .i64 s0, .int .i64 6] V fun e w' => e = .returned (.int .i64 k) ∧ V = w') := fun V => rest_is s0 6 V (by omega) (by omega) k hk
  have HR2 : Hid (∀ V, Calls Try.prog 5 #[.int .i64 s1, .int .i64 2] V fun e w' => e = .returned (.int .i64 d) ∧ V = w') := fun V => rest_is s1 2 V (by omega) (by omega) d hd
  clear hk hd
  go_upto_region 5 with (go_at_call 5; (with_reducible refine (HR6.out _).mono ?_); rintro e w3 ⟨rfl, rfl⟩)
  have h3 := h2.alloc (gob k (.slice none 0 0))
  have hbg : b + 1 < w2.heap.size := h2.lt (b := b + 1) (o := ac c0 c1 c2) (by simp)
  have hwg : w.heap.size ≤ b := Nat.le_of_eq hb
  have hB : w2.heap.size + 1 = (w2.alloc (gob k (.slice none 0 0))).heap.size := by simp
  clear h2 n0 n1 HR6 hb
  generalize w2.alloc (gob k (.slice none 0 0)) = w3 at h3 hB ⊢
  generalize w2.heap.size = g at h3 hbg hB ⊢
  obtain ⟨B, hBg⟩ : ∃ B, g + 1 = B := ⟨_, rfl⟩
  rw [hBg] at hB
  have h3 := h3.sub (L' := [(g, gob k (.slice none 0 0)), (b, (.cells #[.int .i64 s0, .int .i64 s1] 22)), (b + 1, ac c0 c1 c2)]) (by intro z hz; simp only [List.mem_cons, List.not_mem_nil, or_false] at hz ⊢; grind)
  have HS := Lib.hid h3
  have HO := Lib.hid (OwnsC.nil B w3)
  clear h3
  have hcm := hq.cm
  obtain ⟨pq, capq, rfl, hq1, hq2, hq3⟩ := hcm
  have HQ : Hid (Cm w (.slice pq q.length capq) q) := ⟨pq, capq, rfl, hq1, hq2, hq3⟩
  clear hq hq1 hq2 hq3
  obtain ⟨N, hN⟩ : ∃ N, q.length = N := ⟨_, rfl⟩
  rw [hN] at HQ ⊢
  have HN := Lib.hid hN
  clear hN
  obtain ⟨m2, m3, hm3, g2, g3, g4, g5⟩ := cube_of (n := k) (by omega)
  have HGS0 := Lib.hid (And.intro g2 (And.intro g3 (And.intro g4 g5)))
  clear g2 g3 g4 g5
  have h125 : m3 ≤ 125 := by
    rw [hm3]
    clear hm3 HGS0
    rcases (by omega : k = 0 ∨ k = 1 ∨ k = 2 ∨ k = 3 ∨ k = 4 ∨ k = 5) with rfl | rfl | rfl | rfl | rfl | rfl <;> decide
  clear hm3
  have HGS := Lib.hid (And.intro HGS0.out.1 (And.intro HGS0.out.2.1 (And.intro HGS0.out.2.2.1 (And.intro HGS0.out.2.2.2 (And.intro (wr_in (x := (m3 : Int) - d) (by omega)) (wrap_in (x := (m3 : Int) - d) (by omega)))))))
  clear HGS0
  have HB0 : Hid (B ≤ w3.heap.size) := Nat.le_of_eq hB
  have HGG := Lib.hid (And.intro hbg (And.intro hwg hBg)); clear hbg hwg hBg hB
  have HK5 := Lib.hid (And.intro hk6 (And.intro hd2 h125)); clear hk6 hd2 h125
  go_wp2
  go_loopw [11] (fun v11 wr => ∃ i : Nat, ∃ l : List C3, ∃ v : Value, (i : Int) ≤ max ((m3 : Int) - d) 0 ∧ v11 = .int .i64 i ∧ Hid (l.length = i) ∧ Hid (St w [(g, gob k v), (b, (.cells #[.int .i64 s0, .int .i64 s1] 22)), (b + 1, ac c0 c1 c2)] wr) ∧ Hid (OwnsC B wr v l) ∧ Hid (B ≤ wr.heap.size)) (fun i _ => ((m3 : Int) - d).toNat - (intOf i).toNat)
  case atStart => exact ⟨0, [], .slice none 0 0, by omega, rfl, rfl, HS, HO, HB0⟩
  case round =>
    clear HS HO HB0
    obtain ⟨i, l, v, hi, rfl, HL, HT, HK, HZ⟩ := hrel
    have HP : Hid (∀ V, St w [(g, gob k v), (b, (.cells #[.int .i64 s0, .int .i64 s1] 22)), (b + 1, ac c0 c1 c2)] V → (V.cell? ⟨g, 0, none⟩ = some (.int .i64 k)) ∧ St w [(g, gob k v), (b, (.cells #[.int .i64 s0, .int .i64 s1] 22)), (b + 1, ac c0 c1 c2)] V) := fun V hV => ⟨hV.cell (b := g) (cs := #[.int .i64 k, v]) (t := 30) (by simp) 0, hV⟩
    obtain ⟨g2, g3, g4, g5, g6, g7⟩ := HGS.out
    have hdr := HT.out.drew
    obtain ⟨n0, _⟩ := HP.out _ hdr
    have HKd := Lib.hid (HK.out.later (Below.refl wr.heap.size wr).drew)
    go_upto_region 6 with fail
    clear HT HK
    go_region_held3 (fun V => (V.cell? ⟨g, 0, none⟩ = some (.int .i64 k)) ∧ St w [(g, gob k v), (b, (.cells #[.int .i64 s0, .int .i64 s1] 22)), (b + 1, ac c0 c1 c2)] V) ((refine HP.out _ ?_; assumption)) (first
      | (go_at_call 5; (with_reducible refine (HR2.out _).mono ?_); rintro e w4 ⟨rfl, rfl⟩))
    have hz0 : Hid (B ≤ wr.drew.heap.size) := HZ
    generalize wr.drew = wz at *
    have HT := Lib.hid hdr
    clear hdr n0 HZ HP
    by_cases hlt : (i : Int) < (m3 : Int) - d
    · as_aux_lemma =>
      have hi124 : i ≤ 124 := by have := HK5.out; omega
      have q0 : (0 : Int) ≤ i := Int.natCast_nonneg i
      have w1' : IntKind.i64.wrap (257 * (i : Int)) = 257 * i := wr_in (by omega)
      have w2' : wrap64 (257 * (i : Int)) = 257 * i := wrap_in (by omega)
      have w3' : IntKind.i64.wrap (400 * (i : Int)) = 400 * i := wr_in (by omega)
      have w4' : wrap64 (400 * (i : Int)) = 400 * i := wrap_in (by omega)
      have w5' : IntKind.i64.wrap (65535 - 400 * (i : Int)) = 65535 - 400 * i := wr_in (by omega)
      have w6' : wrap64 (65535 - 400 * (i : Int)) = 65535 - 400 * i := wrap_in (by omega)
      clear g2 g3 g4 g5
      go_upto_region 9 with fail
      clear g6 g7
      have hv := (St.start wz).alloc (ac (257 * i) (65535 - 400 * i) 30000)
      generalize wz.alloc (ac (257 * i) (65535 - 400 * i) 30000) = wy at hv ⊢
      generalize hvb : wz.heap.size = vb at hv ⊢
      clear w1' w2' w3' w4' w5' w6'
      go_upto_if 52 with fail
      go_cut [53] (fun _ wx => ∃ x y z : Int, Hid (St wz [(vb, ac x y z)] wx))
      case first =>
        by_cases hN : i < N
        · have q1 : (i : Int) < N := Int.ofNat_lt.2 hN
          have hby : Below w.heap.size w wy := HT.out.below.trans (hv.below.mono HT.out.below.size)
          obtain ⟨bq, oq, cq, hve, _, _, hrow⟩ := Cm.row HQ.out (by rw [HN.out]; omega)
          rw [HN.out] at hve
          injection hve with e1 e2 e3
          subst e1 e3
          clear e2
          have hne : bq ≠ vb := by have := hrow.lt; have := HT.out.below.size; omega
          have HCJ : Hid (∀ V, Below wy.heap.size wy V → V.cell? ⟨bq, oq + i, none⟩ = some (.int .i64 (cg q i))) := fun V hV => (hrow.later (hby.trans (hV.mono hby.size))).at' i (by rw [HN.out]; exact hN)
          clear hrow hby
          generalize cg q i = x at HCJ
          obtain ⟨t3, ht3⟩ : ∃ t, wrap64 (x.tdiv 3) = t := ⟨_, rfl⟩
          obtain ⟨t7, ht7⟩ : ∃ t, wrap64 (x.tdiv 7) = t := ⟨_, rfl⟩
          have hs3 : IntKind.i64.wrap (x.tdiv 3) = t3 := (IntWalk.i64_left _).trans ht3
          have hs7 : IntKind.i64.wrap (x.tdiv 7) = t7 := (IntWalk.i64_left _).trans ht7
          obtain ⟨y0, hy0⟩ : ∃ t, bits .and .i64 x 65535 = t := ⟨_, rfl⟩
          obtain ⟨y1, hy1⟩ : ∃ t, bits .and .i64 t3 65535 = t := ⟨_, rfl⟩
          obtain ⟨y2, hy2⟩ : ∃ t, bits .and .i64 t7 65535 = t := ⟨_, rfl⟩
          go_upto_region 10 with fail
          have hd := hv.drew
          refine wp_region_still_tail 17 (by kernel_rfl) (by kernel_rfl) ?_
          rw [drew_eq wy]
          have c9 := HCJ.out wy.drew (Below.refl _ _).drew
          have HCJ2 : Hid (∀ V, Below wy.drew.heap.size wy.drew V → V.cell? ⟨bq, oq + i, none⟩ = some (.int .i64 x)) := fun V hV => HCJ.out V ((Below.refl _ _).drew.trans hV)
          generalize wy.drew = wd at hd c9 HCJ2 ⊢
          clear hv HCJ
          simp only [List.take_succ_cons, List.take_zero, List.drop_succ_cons, List.drop_zero]
          obtain ⟨m0, m1, m2'⟩ := hd.col (b := vb) (x := 257 * i) (y := 65535 - 400 * i) (z := 30000) (t := 25) (by simp)
          obtain ⟨f0, f1, f2⟩ := hd.fro (b := vb) (cs := #[.int .i64 (257 * i), .int .i64 (65535 - 400 * i), .int .i64 30000]) (t := 25) (by simp)
          iterate 10 still_step
          still_step
          iterate 2 still_step
          iterate 2 still_step
          still_step
          still_step
          refine wpStill_nil ?_
          go_upto_region 11 with fail
          have he := ((hd.put0 (v := .int .i64 y0) (by omega) (by simp)).put1 (v := .int .i64 y1) (by omega) (by simp)).put2 (v := .int .i64 y2) (by omega) (by simp)
          have hcx : ((((wd.setCell ⟨vb, 0, none⟩ (.int .i64 y0)).setCell ⟨vb, 1, none⟩ (.int .i64 y1)).setCell ⟨vb, 2, none⟩ (.int .i64 y2))).cell? ⟨bq, oq + i, none⟩ = some (.int .i64 x) := by
            rw [cell_other hne, cell_other hne, cell_other hne]
            exact c9
          clear m0 m1 m2' f0 f1 f2 c9 HCJ2 hd
          generalize ((wd.setCell ⟨vb, 0, none⟩ (.int .i64 y0)).setCell ⟨vb, 1, none⟩ (.int .i64 y1)).setCell ⟨vb, 2, none⟩ (.int .i64 y2) = we at he hcx ⊢
          obtain ⟨m0, m1, m2'⟩ := he.col (b := vb) (x := y0) (y := y1) (z := y2) (t := 25) (by simp)
          obtain ⟨f0, f1, f2⟩ := he.fro (b := vb) (cs := #[.int .i64 y0, .int .i64 y1, .int .i64 y2]) (t := 25) (by simp)
          go_wp2_with fail
          all_goals go_meet
          all_goals first
            | exact ⟨x, y1, y2, Lib.hid (he.put0 (by omega) (by simp))⟩
            | exact ⟨y0, y1, y2, Lib.hid he⟩
        · have q1 : ¬ (i : Int) < N := by omega
          go_wp2_with fail
          go_meet
          exact ⟨_, _, _, Lib.hid hv⟩
      case rest =>
      as_aux_lemma =>
      obtain ⟨x, y, z, HV⟩ := hcut
      clear hv HQ HN HR2 HGS
      have hT := HT.out.later HV.out.below
      have hO := HKd.out.later HV.out.below
      have hZ := Nat.le_trans hz0.out HV.out.below.size
      obtain ⟨o0, o1, o2⟩ := HV.out.col (b := vb) (x := x) (y := y) (z := z) (t := 25) (by simp)
      clear HV HKd HT
      obtain ⟨po, cp, rfl⟩ := hO.slice
      have HTP : Hid (∀ V, Below B wc V → St w [(g, gob k (.slice po l.length cp)), (b, (.cells #[.int .i64 s0, .int .i64 s1] 22)), (b + 1, ac c0 c1 c2)] V) := fun V hV => St.past hT hV (by have := HGG.out; omega) (by have := HGG.out; simp; omega)
      have hbd : Hid (l.length < 1000000000) := by unfold Hid; rw [HL.out]; omega
      have HL2 := HL; clear HL
      generalize l.length = N3 at hO hT HTP ⊢
      have HKK := Lib.hid hO; clear hO
      have HZZ := Lib.hid hZ; clear hZ
      have n1 := hT.cell (b := g) (cs := #[.int .i64 k, .slice po N3 cp]) (t := 30) (by simp) 1
      simp only [pair1] at n1
      have HTA : Hid (∀ V v', St w [(g, gob k (.slice po N3 cp)), (b, (.cells #[.int .i64 s0, .int .i64 s1] 22)), (b + 1, ac c0 c1 c2)] V → St w [(g, gob k v'), (b, (.cells #[.int .i64 s0, .int .i64 s1] 22)), (b + 1, ac c0 c1 c2)] (V.setCell ⟨g, 1, none⟩ v')) := fun V v' hV => St.putg hV (by have := HGG.out; omega) (by have := HGG.out; simp; omega)
      have HF : Hid (∀ V, St w [(g, gob k (.slice po N3 cp)), (b, (.cells #[.int .i64 s0, .int .i64 s1] 22)), (b + 1, ac c0 c1 c2)] V → V.cell? ⟨g, 1, none⟩ = some (.slice po N3 cp) ∧ V.frozen? ⟨g, 1, none⟩ = false) := fun V hV => ⟨hV.cell (b := g) (cs := #[.int .i64 k, .slice po N3 cp]) (t := 30) (by simp) 1, hV.frozen (b := g) (cs := #[.int .i64 k, .slice po N3 cp]) (t := 30) (by simp) 1⟩
      clear hT
      have hw1 : wrap64 ((i : Int) + 1) = i + 1 := wrap_in (by omega)
      go_wp2_with (at_builtin; refine wp_appC rfl (.tmp 83) (.tmp 85) rfl B wc _ _ _ _ _ (by rfl) HKK.out (by rfl) hbd.out HZZ.out ?_; intro v' w5 ho5 hb5; obtain ⟨po5, cp5, hv5⟩ := OwnsC.slice ho5; simp only [List.length_append, List.length_singleton] at hv5; subst hv5; have HO5 := Lib.hid ho5; have HT5 := Lib.hid (HTP.out _ hb5); obtain ⟨n1, f1⟩ := HF.out _ HT5.out; have HB5 := Lib.hid (Nat.le_trans HZZ.out hb5.size); clear ho5 hb5)
      go_roundw
      case rel =>
        refine ⟨i + 1, _, _, by omega, by go_num, ?_, ?_, Lib.hid (OwnsC.set HO5.out (by have := HGG.out; omega)), ?_⟩
        · unfold Hid; rw [List.length_append, HL2.out]; rfl
        · exact Lib.hid (HTA.out _ _ HT5.out)
        · unfold Hid; simp [World.setCell]; exact HB5.out
      case measure => simp [intOf]; omega
    · as_aux_lemma =>
      clear HQ HN HR2 HGS g2 g3 g4 g5 g6 g7
      have hlb : l.length ≤ 1000 := by rw [HL.out]; have := HK5.out; omega
      have hcl := HKd.out.cls
      obtain ⟨po, cp, rfl⟩ := HKd.out.slice
      obtain ⟨r, hr⟩ : ∃ r : Bool, (r = true ↔ ∃ m : Nat, (k : Int) = m ∧ GV m l) := by
        by_cases h : ∃ m : Nat, (k : Int) = m ∧ GV m l
        · exact ⟨true, by simp [h]⟩
        · exact ⟨false, by simp [h]⟩
      have HLOOK : Hid (∀ x0 x1 x2 : Int, ∃ A0 A1 A2 E : Int, (∀ V, Cls V (.slice po l.length cp) l → Calls Try.prog 6 #[gv k (.slice po l.length cp), ag x0 x1 x2] V fun e w' => e = .returned (.tuple #[ag A0 A1 A2, .int .i64 E]) ∧ Below V.heap.size V w')
          ∧ (∀ V, Cls V (.slice po l.length cp) l → Calls Try.prog 7 #[gv k (.slice po l.length cp), ag x0 x1 x2] V fun e w' => e = .returned (got A0 A1 A2 E) ∧ Below V.heap.size V w')) := fun x0 x1 x2 => by
        have h1 := fun V hV => look_any k (.slice po l.length cp) l r x0 x1 x2 V hV (by omega) hr
        have h2 := fun V hV => rLook_any k (.slice po l.length cp) l r x0 x1 x2 V hV (by omega) hr
        cases r
        · simp only [Bool.false_eq_true, if_false] at h1 h2
          exact ⟨0, 0, 0, 1, h1, h2⟩
        · simp only [if_true] at h1 h2
          exact ⟨_, _, _, 0, h1, h2⟩
      clear hr
      have HCL := Lib.hid hcl
      generalize hlN : l.length = N3 at *
      have HTL : Hid (∀ L V, St wz L V → St w [(g, gob k (.slice po N3 cp)), (b, (.cells #[.int .i64 s0, .int .i64 s1] 22)), (b + 1, ac c0 c1 c2)] V ∧ Cls V (.slice po N3 cp) l) := fun L V h => ⟨HT.out.later h.below, HCL.out.later h.below⟩
      have HWB : Hid (Below w.heap.size w wz) := HT.out.below
      have HEQ : Hid (∀ a b c : Int, ∀ V, (Op.equalIn 10000 25 (ag a b c) (ag a b c)).run Try.prog V = .ok true V) := fun a b c V => by rw [eqIn_col]; simp
      have hs := St.start wz
      clear hcl HT HKd hlb HL HCL hlN
      have HF : Hid (∀ L V, St wz L V → (V.cell? ⟨g, 0, none⟩ = some (.int .i64 k) ∧ V.cell? ⟨g, 1, none⟩ = some (.slice po N3 cp)) ∧ CB V (b + 1) c0 c1 c2 ∧ Cls V (.slice po N3 cp) l) := fun L V h => by
        obtain ⟨h1, h2⟩ := HTL.out L V h
        have q := h1.cell (b := g) (cs := #[.int .i64 k, .slice po N3 cp]) (t := 30) (by simp)
        exact ⟨⟨q 0, q 1⟩, h1.col (t := 25) (by simp), h2⟩
      clear HTL
      obtain ⟨A0, A1, A2, E, hA, hB'⟩ := HLOOK.out c0 c1 c2
      have HA := Lib.hid hA; have HB' := Lib.hid hB'
      clear hA hB'
      obtain ⟨⟨n0, n1⟩, ⟨o0, o1, o2⟩, hc4⟩ := HF.out _ _ hs
      go_upto_region 15 with (go_at_call 6; (with_reducible refine (St.call hs (HA.out _ hc4)).mono ?_); rintro e w5 ⟨rfl, h5⟩)
      have h6 := h5.alloc (ac A0 A1 A2)
      clear hs h5 hc4 n0 n1 o0 o1 o2 HA
      generalize w5.alloc (ac A0 A1 A2) = w6 at h6 ⊢
      generalize w5.heap.size = t1 at h6 ⊢
      obtain ⟨⟨n0, n1⟩, ⟨o0, o1, o2⟩, hc4⟩ := HF.out _ _ h6
      go_upto_region 16 with (first
        | (go_at_call 7; (with_reducible refine (St.call h6 (HB'.out _ hc4)).mono ?_); rintro e w7 ⟨rfl, h7⟩)
        | (refine wl_alloc rfl 37 rfl _ (zero_got _) ?_; (try simp only [Act.put, List.setIfInBounds_toArray, List.set_cons_zero, List.set_cons_succ]))
        | (refine wl_store rfl 37 (.tmp 15) (.tmp 96) rfl (store_got _ _ (heap_alloc_new _ _) A0 A1 A2 E) ?_; (try simp only [Act.put])))
      have h8 := (h7.alloc (gotO 0 0 0 0)).row_set (ds := gotC A0 A1 A2 E) h7.below.size (by have := h7.lt (b := t1) (o := ac A0 A1 A2) (by simp); simp; omega)
      clear h6 h7 hc4 n0 n1 o0 o1 o2 HB'
      generalize (w7.alloc (gotO 0 0 0 0)).setRow w7.heap.size (gotC A0 A1 A2 E) = w8 at h8 ⊢
      generalize w7.heap.size = t2 at h8 ⊢
      obtain ⟨⟨n0, n1⟩, ⟨o0, o1, o2⟩, hc4⟩ := HF.out _ _ h8
      obtain ⟨X0, hX0⟩ : ∃ t, bits .and .i64 c0 65535 = t := ⟨_, rfl⟩
      obtain ⟨X1, hX1⟩ : ∃ t, bits .and .i64 c1 65535 = t := ⟨_, rfl⟩
      obtain ⟨X2, hX2⟩ : ∃ t, bits .and .i64 c2 65535 = t := ⟨_, rfl⟩
      obtain ⟨D0, D1, D2, F, hA, hB'⟩ := HLOOK.out X0 X1 X2
      have HA := Lib.hid hA; have HB' := Lib.hid hB'
      clear hA hB' HLOOK
      go_upto_region 17 with fail
      have h9 := h8.alloc (ac X0 X1 X2)
      clear h8 hc4 n0 n1 o0 o1 o2 hX0 hX1 hX2
      generalize w8.alloc (ac X0 X1 X2) = w9 at h9 ⊢
      generalize w8.heap.size = t3 at h9 ⊢
      obtain ⟨⟨n0, n1⟩, _, hc4⟩ := HF.out _ _ h9
      obtain ⟨o0, o1, o2⟩ := h9.col (b := t3) (x := X0) (y := X1) (z := X2) (t := 25) (by simp)
      go_upto_region 18 with (go_at_call 6; (with_reducible refine (St.call h9 (HA.out _ hc4)).mono ?_); rintro e w10 ⟨rfl, h10⟩)
      have h11 := h10.alloc (ac D0 D1 D2)
      clear h9 h10 hc4 n0 n1 o0 o1 o2 HA
      generalize w10.alloc (ac D0 D1 D2) = w11 at h11 ⊢
      generalize w10.heap.size = t4 at h11 ⊢
      obtain ⟨⟨n0, n1⟩, _, hc4⟩ := HF.out _ _ h11
      obtain ⟨o0, o1, o2⟩ := h11.col (b := t3) (x := X0) (y := X1) (z := X2) (t := 25) (by simp)
      go_upto_region 19 with (first
        | (go_at_call 7; (with_reducible refine (St.call h11 (HB'.out _ hc4)).mono ?_); rintro e w12 ⟨rfl, h12⟩)
        | (refine wl_alloc rfl 37 rfl _ (zero_got _) ?_; (try simp only [Act.put, List.setIfInBounds_toArray, List.set_cons_zero, List.set_cons_succ]))
        | (refine wl_store rfl 37 (.tmp 19) (.tmp 115) rfl (store_got _ _ (heap_alloc_new _ _) D0 D1 D2 F) ?_; (try simp only [Act.put])))
      have h13 := (h12.alloc (gotO 0 0 0 0)).row_set (ds := gotC D0 D1 D2 F) h12.below.size (by
        have z1 := h12.lt (b := t1) (o := ac A0 A1 A2) (by simp)
        have z2 := h12.lt (b := t2) (o := gotO A0 A1 A2 E) (by simp)
        have z3 := h12.lt (b := t3) (o := ac X0 X1 X2) (by simp)
        have z4 := h12.lt (b := t4) (o := ac D0 D1 D2) (by simp)
        simp; omega)
      clear h11 h12 hc4 n0 n1 o0 o1 o2 HB'
      generalize (w12.alloc (gotO 0 0 0 0)).setRow w12.heap.size (gotC D0 D1 D2 F) = w13 at h13 ⊢
      generalize w12.heap.size = t5 at h13 ⊢
      obtain ⟨a0, a1, a2⟩ := h13.col (b := t1) (x := A0) (y := A1) (z := A2) (t := 25) (by simp)
      obtain ⟨d0, d1, d2⟩ := h13.col (b := t4) (x := D0) (y := D1) (z := D2) (t := 25) (by simp)
      have p := h13.cell (b := t2) (cs := gotC A0 A1 A2 E) (t := 37) (by simp)
      have p0 := p 0; have p1 := p 1; have p2 := p 2; have p10 := p 10
      have s := h13.cell (b := t5) (cs := gotC D0 D1 D2 F) (t := 37) (by simp)
      have s0' := s 0; have s1' := s 1; have s2' := s 2; have s10 := s 10
      clear p s
      simp only [List.getElem?_toArray, List.getElem?_cons_succ, List.getElem?_cons_zero] at p0 p1 p2 p10 s0' s1' s2' s10
      have hq1 := HEQ.out A0 A1 A2
      have hq2 := HEQ.out D0 D1 D2
      have HBL := Lib.hid (HWB.out.trans (h13.below.mono HWB.out.size))
      clear h13 HEQ HF HWB
      go_wp2_with fail
      go_ret
      exact ⟨rfl, HBL.out⟩

set_option maxRecDepth 100000 in
theorem lifted (os : Os) (started : os.Started) (H : Type) (enc : TypeId × Value → H) :
    ReturnsInHanded {} Try.checked os 3 .any (Rows.colourLooksSpec.pre6 enc Try.prog Try.f3 Rows.colourLooksRow.domain false) (Rows.colourLooksSpec.post enc Try.prog Try.f3 false true false false) := by
  refine returnsInHanded_of_change_sized (C := Try.checked) own started (by kernel_rfl) Try.func3
    (ChangeSpec.witness6 (enc := enc) (C := Try.checked) false ⟨#[], #[.agg #[.int .i64 0, .int .i64 0], .slice none 0 0, ag 0 0 0], []⟩ 8 (by kernel_rfl) (by kernel_rfl) (by kernel_rfl) (by kernel_rfl)) ?_
  intro W base args ds gs before hval0 hW _ _ _
  have hval : ∀ (j : Nat) t v, Try.f3.params[j]? = some t → args[j]? = some v → Value.okWide Try.prog W .any base t v := hval0
  have hW' := hW
  obtain ⟨p, q, hA0, hV, rfl, hfz, hnd⟩ := hW
  have hA : DataW.TrodAll enc Try.prog W 0 (fun _ => true) true Try.f3.params.toList args.toList ds p := hA0
  rw [Try.params3] at hA hval
  obtain ⟨v0, v1, v2, d0, d1, d2, p0, p1, p2, rfl, rfl, rfl, h0, h1, h2⟩ := trodAll_three hA
  obtain ⟨rfl, rfl⟩ := trodVars_none hV
  obtain ⟨s0, s1, rfl⟩ := agg_p2 (hval 0 22 v0 rfl rfl)
  obtain ⟨q, hq⟩ := open_ca 23 Try.underlying23 (hval 1 23 v1 rfl rfl) h1
  obtain ⟨c0, c1, c2, rfl⟩ := agg_col (hval 2 25 v2 rfl rfl)
  refine (walk s0 s1 q v1 c0 c1 c2 W hq).mono fun e W' ⟨he, hb⟩ => ?_
  subst he
  exact ⟨_, rfl, law_post hW' rfl (by kernel_rfl) rfl (by intro t ht; rw [Try.params3] at ht; simp at ht; rcases ht with rfl | rfl | rfl <;> exact ⟨by kernel_rfl, of_decide_eq_true (by kernel_rfl)⟩) hb⟩

theorem holds : Rows.ColourLooksSaid :=
  OpenClaim.holds_of_wide 3 Try.f3 rfl rfl rfl rfl rfl rfl rfl ⟨rfl, rfl, rfl, rfl, rfl⟩ rfl rfl rfl rfl rfl (by kernel_rfl) Try.func3 (by kernel_rfl)
    (of_decide_eq_true (by kernel_rfl)) (by unfold Func.isWrapper; first | (rw [if_pos (by decide +kernel)]; kernel_rfl) | (rw [if_neg (by decide +kernel)]; exact ⟨rfl, rfl⟩))
    (fun os started H enc _ => lifted os started H enc)
end Go.Proofs.Ytcmplgiilcfncaa.K.KLLooks
