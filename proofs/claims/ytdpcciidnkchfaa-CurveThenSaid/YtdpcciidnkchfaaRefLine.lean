/-
  The reference's Line, Inverse and Then.
-/
import Derived.Test.YtdpcciidnkchfaaOwn
import Derived.Test.YtdpcciidnkchfaaRefSolve
import Derived.Test.YtdpcciidnkchfaaInv
namespace Go.Proofs.Ytdpcciidnkchfaa
open Go.RowKit
variable {w : World}

set_option maxRecDepth 100000 in
set_option maxHeartbeats 2000000 in
theorem refLine_any (n : Int) (w : World) : Calls Try.prog 24 #[.int .i64 n] w (GotC (lineL n) w) := by
  cases hv : vc n
  · have HV := Lib.hid hv
    have HL : Hid (lineL n = []) := by unfold Hid lineL; rw [hv]; rfl
    clear hv
    go_enter Try.func24, Try.ntmps24
    go_wp2_with (go_at_call 38; (with_reducible refine (points_any _ _).mono ?_); rintro e w' ⟨rfl, rfl⟩; rw [HV.out])
    go_ret
    exact ⟨none, 0, 0, rfl, by rw [HL.out]; exact cm_nil _, Below.refl _ _⟩
  · obtain ⟨m, rfl, h2, h3⟩ := vc_nat hv
    have HV := Lib.hid hv
    have HL : Hid (lineL m = (List.range m).map fun i => arg i m) := by unfold Hid lineL; rw [hv]; rfl
    clear hv
    go_enter Try.func24, Try.ntmps24
    go_wp2_with (go_at_call 38; (with_reducible refine (points_any _ _).mono ?_); rintro e w' ⟨rfl, rfl⟩; rw [HV.out])
    go_loopw [4, 5] (fun v i wr => ∃ k : Nat, k ≤ m ∧ i = .int .i64 k ∧ Hid (OwnsI w.heap.size wr v ((List.range k).map fun i => arg i m)) ∧ Hid (Below w.heap.size w wr)) (fun _ i _ => m - (intOf i).toNat)
    case atStart => exact ⟨0, by omega, rfl, ownsI_lit w w.heap.size (Nat.le_refl _) [] 0 rfl (by omega) _ rfl, below1⟩
    case round =>
      obtain ⟨k, hk, rfl, HO, HB⟩ := hrel
      by_cases hlt : k < m
      · have HLen : Hid (((List.range k).map fun i => arg i m).length = k) := by unfold Hid; simp
        have HSn : Hid ((List.range (k + 1)).map (fun i => arg i m) = (List.range k).map (fun i => arg i m) ++ [arg k m]) := by unfold Hid; rw [List.range_succ, List.map_append]; rfl
        generalize hp : (List.range k).map (fun i => arg i m) = p at HO HLen HSn
        have HP := Lib.hid hp; clear hp
        have HA := Lib.hid (arg_any k m wr h2 h3 (by omega))
        generalize arg k m = z at HSn HA
        go_wp2_with (first
          | (go_at_call 31; (with_reducible refine HA.out.mono ?_); rintro e w' ⟨rfl, rfl⟩)
          | (at_builtin; refine wp_appI 23 Try.underlying23 rfl (.tmp 16) (.tmp 20) rfl w.heap.size wr _ p z (by rfl) HO.out (by rfl) (by rw [HLen.out]; omega) HB.out.size ?_; intro v' w' ho' hb'; have HO' := Lib.hid ho'; have HB' := Lib.hid hb'; clear ho' hb'))
        go_roundw
        case rel => exact ⟨k + 1, by omega, by go_num, by rw [HSn.out]; exact HO', HB.out.trans HB'.out⟩
        case measure => simp [intOf]; omega
      · obtain rfl : k = m := by omega
        obtain ⟨po, cap, hv, _⟩ := HO.out.cm
        subst hv
        go_wp2
        go_ret
        exact ⟨_, _, _, rfl, by rw [HL.out]; exact HO.out.cm, HB.out⟩

/-- a curve and an error, as the reference hands them back -/
abbrev go' (v : Value) (k : Int) : Obj := .cells #[v, .int .i64 k] 43
def GotR (c : List Int) (k : Int) (w : World) (e : Ending) (w' : World) : Prop := ∃ po n cap, e = .returned (.agg #[.slice po n cap, .int .i64 k]) ∧ Cm w' (.slice po n cap) c ∧ Below w.heap.size w w'
/-- the cells of the result's block -/
def ResAt (V : World) (b : Nat) : Prop := (V.cell? ⟨b, 0, none⟩ = some (.slice none 0 0) ∧ V.cell? ⟨b, 1, none⟩ = some (.int .i64 0)) ∧ (V.frozen? ⟨b, 0, none⟩ = false ∧ V.frozen? ⟨b, 1, none⟩ = false) ∧ b < V.heap.size
theorem resAt {V W : World} {b : Nat} {L : List (Nat × Obj)} (h : St W L V) (hm : (b, go' (.slice none 0 0) 0) ∈ L) : ResAt V b :=
  ⟨⟨h.cell hm 0, h.cell hm 1⟩, ⟨h.frozen hm 0, h.frozen hm 1⟩, h.lt hm⟩
theorem below_set2 {n b : Nat} {W V : World} (h : Below n W V) (hb : n ≤ b) (x y : Value) : Below n W ((V.setCell ⟨b, 0, none⟩ x).setCell ⟨b, 1, none⟩ y) := (h.setCell (p := ⟨b, 0, none⟩) hb _).setCell (p := ⟨b, 1, none⟩) hb _
theorem cm_set {V : World} {v : Value} {c : List Int} {B b j : Nat} {x : Value} (h : OwnsI B V v c) (hb : b < B) : Cm (V.setCell ⟨b, j, none⟩ x) v c := by
  refine OwnsI.cm (B := B) ?_
  obtain ⟨hl, h | ⟨g, cap, cur, hv, hg, hh, h⟩⟩ := h
  · exact ⟨hl, Or.inl h⟩
  · exact ⟨hl, Or.inr ⟨g, cap, cur, hv, hg, by rw [Below.heap_setCell _ _ _ _ (show g ≠ b by omega)]; exact hh, h⟩⟩
theorem own_set {V : World} {v : Value} {c : List Int} {B b j : Nat} {x : Value} (h : OwnsI B V v c) (hb : b < B) : OwnsI B (V.setCell ⟨b, j, none⟩ x) v c := by
  obtain ⟨hl, h | ⟨g, cap, cur, hv, hg, hh, h⟩⟩ := h
  · exact ⟨hl, Or.inl h⟩
  · exact ⟨hl, Or.inr ⟨g, cap, cur, hv, hg, by rw [Below.heap_setCell _ _ _ _ (show g ≠ b by omega)]; exact hh, h⟩⟩

theorem later_all {B m : Nat} {W wr : World} {L : List (Nat × Obj)} {u : Value} {p : List Int} (h : OwnsI B wr u p) (h2 : St W L wr ∧ m ≤ wr.heap.size) :
    ∀ V, Below wr.heap.size wr V → OwnsI B V u p ∧ St W L V ∧ m ≤ V.heap.size ∧ wr.heap.size ≤ V.heap.size :=
  fun _ hV => ⟨h.later hV, h2.1.later hV, Nat.le_trans h2.2 hV.size, hV.size⟩
set_option maxRecDepth 100000 in
set_option maxHeartbeats 4000000 in
theorem refInverse_any (c : List Int) (v : Value) (r : Bool) (n : Int) (w : World) (hc : Cm w v c) (hr : r = true ↔ Cv c) :
    Calls Try.prog 28 #[v, .int .i64 n] w (GotR (whenOk (errc r n) (invL c n.toNat)) (errc r n) w) := by
  have HV : Hid (∀ V L, St w L V → Calls Try.prog 19 #[v] V fun e w' => e = .returned (.bool r) ∧ St w L w') := fun V L hs => hs.call (refValid_any c v r V (hc.later hs.below) hr)
  have hs := (St.start w).alloc (go' (.slice none 0 0) 0)
  cases r
  · obtain ⟨po, cap, rfl, _⟩ := hc
    have HE : Hid (whenOk (errc false n) (invL c n.toNat) = [] ∧ errc false n = 21) := ⟨rfl, rfl⟩
    clear hr
    rw [HE.out.2]
    generalize c.length = q at HV ⊢
    go_enter Try.func28, Try.ntmps28
    go_wp2_with (go_at_call 19; (with_reducible refine (HV.out _ _ hs).mono ?_); rintro e w' ⟨rfl, h2⟩; obtain ⟨⟨c0, c1⟩, ⟨f0, f1⟩, hl⟩ := resAt h2 (b := w.heap.size) (by simp))
    exact bodyPost_ret (v := .agg #[.slice none 0 0, .int .i64 21]) (by simp [results, Try.results28, go_sem, *]) rfl ⟨none, 0, 0, rfl, cm_nil _, below_set2 h2.below (Nat.le_refl _) _ _⟩
  · have hcv := hr.1 rfl
    cases hv : vc n
    · obtain ⟨po, cap, rfl, _⟩ := hc
      have HE : Hid (whenOk (errc true n) (invL c n.toNat) = [] ∧ errc true n = 1) := by unfold Hid whenOk errc; simp [hv]
      have HC := Lib.hid hv
      clear hr hv hcv
      rw [HE.out.2]
      generalize hq : c.length = q at HV ⊢
      have HQ := Lib.hid hq; clear hq
      go_enter Try.func28, Try.ntmps28
      go_wp2_with (first
        | (go_at_call 19; (with_reducible refine (HV.out _ _ hs).mono ?_); rintro e w' ⟨rfl, h2⟩; obtain ⟨⟨c0, c1⟩, ⟨f0, f1⟩, hl⟩ := resAt h2 (b := w.heap.size) (by simp))
        | (go_at_call 38; (with_reducible refine (points_any _ _).mono ?_); rintro e w' ⟨rfl, rfl⟩; rw [HC.out]))
      exact bodyPost_ret (v := .agg #[.slice none 0 0, .int .i64 1]) (by simp [results, Try.results28, go_sem, *]) rfl ⟨none, 0, 0, rfl, by have := HE.out.1; rw [HE.out.2] at this; rw [this]; exact cm_nil _, below_set2 h2.below (Nat.le_refl _) _ _⟩
    · obtain ⟨m, rfl, g2, g3⟩ := vc_nat hv
      have HE : Hid (whenOk (errc true m) (invL c m) = (List.range m).map (fun i => ((invAt c (arg i m) : Nat) : Int)) ∧ errc true m = 0) := by unfold Hid whenOk errc; simp [hv, invL]
      have HC := Lib.hid hv
      have HS : Hid (∀ V L y, St w L V → Calls Try.prog 26 #[v, .int .i64 y] V fun e w' => e = .returned (.agg #[.int .i64 (if sol c y ≤ 65535 then sol c y else 0 : Nat), .bool (decide (sol c y ≤ 65535))]) ∧ St w L w' ∧ Below V.heap.size V w') := fun V L y hV => by
        have h := hV.call2 (refSolve_any c v true y V (hc.later hV.below) (by simp [hcv]))
        have e1 : slv true c y = (if sol c y ≤ 65535 then sol c y else 0) := by simp [slv]
        have e2 : slk true c y = decide (sol c y ≤ 65535) := by simp [slk]
        rw [e1, e2] at h; exact h
      obtain ⟨po, cap, rfl, _⟩ := hc
      clear hr hv hcv
      rw [HE.out.2]
      generalize hq : c.length = q at HV HS ⊢
      have HQ := Lib.hid hq; clear hq
      have HX : Hid (∀ y, invAt c y = if sol c y ≤ 65535 then sol c y else 65535) := fun _ => rfl
      go_enter Try.func28, Try.ntmps28
      go_wp2_with (first
        | (go_at_call 19; (with_reducible refine (HV.out _ _ hs).mono ?_); rintro e w1 ⟨rfl, h2⟩; have H2 := Lib.hid h2; clear h2)
        | (go_at_call 38; (with_reducible refine (points_any _ _).mono ?_); rintro e w' ⟨rfl, rfl⟩; rw [HC.out]))
      clear hs
      have HB1 : Hid (w.heap.size + 1 ≤ w1.heap.size) := by have := (resAt H2.out (b := w.heap.size) (by simp)).2.2; exact this
      go_loopw [7, 8] (fun u i wr => ∃ k : Nat, k ≤ m ∧ i = .int .i64 k ∧ Hid (OwnsI (w.heap.size + 1) wr u ((List.range k).map fun i => ((invAt c (arg i m) : Nat) : Int))) ∧ Hid (St w [(w.heap.size, go' (.slice none 0 0) 0)] wr ∧ w.heap.size + 1 ≤ wr.heap.size)) (fun _ i _ => m - (intOf i).toNat)
      case atStart => exact ⟨0, by omega, rfl, ownsI_lit w1 (w.heap.size + 1) HB1.out [] 0 rfl (by omega) _ rfl, H2.out.later below1, by have := HB1.out; simp; omega⟩
      case round =>
        obtain ⟨k, hk, rfl, HO, HT⟩ := hrel
        clear H2 HB1
        by_cases hlt : k < m
        · have HLen : Hid (((List.range k).map fun i => ((invAt c (arg i m) : Nat) : Int)).length = k) := by unfold Hid; simp
          have HSn : Hid ((List.range (k + 1)).map (fun i => ((invAt c (arg i m) : Nat) : Int)) = (List.range k).map (fun i => ((invAt c (arg i m) : Nat) : Int)) ++ [((invAt c (arg k m) : Nat) : Int)]) := by unfold Hid; rw [List.range_succ, List.map_append]; rfl
          generalize hp : (List.range k).map (fun i => ((invAt c (arg i m) : Nat) : Int)) = p at HO HLen HSn
          have HP := Lib.hid hp; clear hp
          have HA := Lib.hid (arg_any k m wr g2 g3 (by omega))
          have HS2 := Lib.hid (HS.out wr _ (arg k m) HT.out.1)
          rw [HX.out (arg k m)] at HSn
          generalize arg k m = z at HSn HA HS2
          generalize sol c z = sl at HSn HS2
          have HTz := Lib.hid (later_all HO.out HT.out)
          by_cases hsl : sl ≤ 65535
          · rw [if_pos hsl] at HSn
            rw [if_pos hsl, decide_eq_true hsl] at HS2
            clear hsl
            go_wp2_with (first
              | (go_at_call 31; (with_reducible refine HA.out.mono ?_); rintro e w' ⟨rfl, rfl⟩)
              | (go_at_call 26; (with_reducible refine HS2.out.mono ?_); rintro e w2 ⟨rfl, h2, hb2⟩; have HB2 : Hid (Below wr.heap.size wr (w2.alloc (so (sl : Nat) true))) := hb2.alloc hb2.size _; clear h2 hb2)
              | (at_builtin; refine wp_appK 23 Try.underlying23 rfl (.tmp 35) (.tmp 38) rfl (w.heap.size + 1) (w2.alloc (so (sl : Nat) true)) _ p _ (w2.heap.size + 1) (World.size_alloc _ _) (by rfl) (HTz.out _ HB2.out).1 (by rfl) (by rw [HLen.out]; omega) (HTz.out _ HB2.out).2.2.1 ?_; intro v' w4 ho' hb'; have HO' := Lib.hid ho'; have HB' := Lib.hid hb'; clear ho' hb'))
            go_roundw
            case rel => exact ⟨k + 1, by omega, by go_num, by rw [HSn.out]; exact HO', ⟨(HTz.out _ HB2.out).2.1.below.trans (HB'.out.mono (by omega)), fun x hx => by
              have h1 := (HTz.out _ HB2.out).2.1.rows x hx
              simp at hx; subst hx
              rw [HB'.out.block w.heap.size (by omega)]; exact h1⟩, Nat.le_trans (HTz.out _ HB2.out).2.2.1 HB'.out.size⟩
            case measure => simp [intOf]; omega
          · rw [if_neg hsl, show (((65535 : Nat)) : Int) = 65535 from rfl] at HSn
            rw [if_neg hsl, decide_eq_false hsl, show (((0 : Nat)) : Int) = 0 from rfl] at HS2
            clear hsl
            go_wp2_with (first
              | (go_at_call 31; (with_reducible refine HA.out.mono ?_); rintro e w' ⟨rfl, rfl⟩)
              | (go_at_call 26; (with_reducible refine HS2.out.mono ?_); rintro e w2 ⟨rfl, h2, hb2⟩; have HB2 : Hid (Below wr.heap.size wr (w2.alloc (so 65535 false))) := hb2.alloc hb2.size _; clear h2 hb2)
              | (at_builtin; refine wp_appK 23 Try.underlying23 rfl (.tmp 35) (.tmp 38) rfl (w.heap.size + 1) (w2.alloc (so 65535 false)) _ p _ (w2.heap.size + 1) (World.size_alloc _ _) (by rfl) (HTz.out _ HB2.out).1 (by rfl) (by rw [HLen.out]; omega) (HTz.out _ HB2.out).2.2.1 ?_; intro v' w4 ho' hb'; have HO' := Lib.hid ho'; have HB' := Lib.hid hb'; clear ho' hb'))
            go_roundw
            case rel => exact ⟨k + 1, by omega, by go_num, by rw [HSn.out]; exact HO', ⟨(HTz.out _ HB2.out).2.1.below.trans (HB'.out.mono (by omega)), fun x hx => by
              have h1 := (HTz.out _ HB2.out).2.1.rows x hx
              simp at hx; subst hx
              rw [HB'.out.block w.heap.size (by omega)]; exact h1⟩, Nat.le_trans (HTz.out _ HB2.out).2.2.1 HB'.out.size⟩
            case measure => simp [intOf]; omega
        · obtain rfl : k = m := by omega
          obtain ⟨po', cap', hv', _⟩ := HO.out.cm
          subst hv'
          obtain ⟨⟨c0, c1⟩, ⟨f0, f1⟩, hl⟩ := resAt HT.out.1 (b := w.heap.size) (by simp)
          generalize hq2 : ((List.range k).map fun i => ((invAt c (arg i k) : Nat) : Int)) = p at HO
          have HQ2 := Lib.hid hq2; clear hq2
          generalize hq3 : p.length = pl at HO
          have HQ3 := Lib.hid hq3; clear hq3
          go_wp2
          exact bodyPost_ret (v := .agg #[.slice po' pl cap', .int .i64 0]) (by simp [results, Try.results28, go_sem, *]) rfl ⟨po', pl, cap', rfl, by have := HE.out.1; rw [HE.out.2] at this; rw [Int.toNat_natCast, this, HQ2.out]; exact cm_set (own_set HO.out (Nat.lt_succ_self _)) (Nat.lt_succ_self _), below_set2 HT.out.1.below (Nat.le_refl _) _ _⟩

set_option maxRecDepth 100000 in
set_option maxHeartbeats 4000000 in
theorem refThen_any (a b : List Int) (u v : Value) (r s : Bool) (n : Int) (w : World) (ha : Cm w u a) (hb : Cm w v b) (hr : r = true ↔ Cv a) (hs' : s = true ↔ Cv b) :
    Calls Try.prog 30 #[u, v, .int .i64 n] w (GotR (whenOk (errc (r && s) n) (thnL a b n.toNat)) (errc (r && s) n) w) := by
  have HU : Hid (∀ V L, St w L V → Calls Try.prog 19 #[u] V fun e w' => e = .returned (.bool r) ∧ St w L w') := fun V L hs => hs.call (refValid_any a u r V (ha.later hs.below) hr)
  have HV : Hid (∀ V L, St w L V → Calls Try.prog 19 #[v] V fun e w' => e = .returned (.bool s) ∧ St w L w') := fun V L hs => hs.call (refValid_any b v s V (hb.later hs.below) hs')
  have hs := (St.start w).alloc (go' (.slice none 0 0) 0)
  by_cases hok : (r && s) = true
  · obtain ⟨rfl, rfl⟩ := Bool.and_eq_true_iff.1 hok
    have hca := hr.1 rfl
    have hcb := hs'.1 rfl
    cases hv : vc n
    · obtain ⟨pa, la, rfl, _⟩ := ha
      obtain ⟨pb, lb, rfl, _⟩ := hb
      have HE : Hid (whenOk (errc (true && true) n) (thnL a b n.toNat) = [] ∧ errc (true && true) n = 1) := by unfold Hid whenOk errc; simp [hv]
      have HC := Lib.hid hv
      clear hr hs' hv hca hcb hok
      rw [HE.out.2]
      generalize hq : a.length = q at HU ⊢
      generalize hq2 : b.length = q2 at HV ⊢
      have HQ := Lib.hid hq; clear hq
      have HQ2 := Lib.hid hq2; clear hq2
      go_enter Try.func30, Try.ntmps30
      go_upto_region 2 with (go_at_call 19; (with_reducible refine (HU.out _ _ hs).mono ?_); rintro e w1 ⟨rfl, h1⟩)
      go_wp2_with (first
        | (go_at_call 19; (with_reducible refine (HV.out _ _ h1).mono ?_); rintro e w' ⟨rfl, h2⟩; obtain ⟨⟨c0, c1⟩, ⟨f0, f1⟩, hl⟩ := resAt h2 (b := w.heap.size) (by simp))
        | (go_at_call 38; (with_reducible refine (points_any _ _).mono ?_); rintro e w' ⟨rfl, rfl⟩; rw [HC.out]))
      exact bodyPost_ret (v := .agg #[.slice none 0 0, .int .i64 1]) (by simp [results, Try.results30, go_sem, *]) rfl ⟨none, 0, 0, rfl, by have := HE.out.1; rw [HE.out.2] at this; rw [this]; exact cm_nil _, below_set2 h2.below (Nat.le_refl _) _ _⟩
    · obtain ⟨m, rfl, g2, g3⟩ := vc_nat hv
      have HE : Hid (whenOk (errc (true && true) m) (thnL a b m) = (List.range m).map (fun i => val b (val a (argN i m)).toNat) ∧ errc (true && true) m = 0) := by unfold Hid whenOk errc; simp [hv, thnL]
      have HC := Lib.hid hv
      have HA : Hid (∀ V L i, St w L V → i < m → Calls Try.prog 40 #[u, .int .i64 (arg i m)] V fun e w' => e = .returned (.int .i64 (val a (argN i m))) ∧ St w L w' ∧ Below V.heap.size V w') := fun V L i hV hi => by
        have h := hV.call2 (quiet_below (value_any a u (argN i m) V hca (ha.later hV.below) (argN_eq g2 hi).2))
        rw [(argN_eq g2 hi).1] at h; exact h
      have HB : Hid (∀ V L i, St w L V → i < m → Calls Try.prog 40 #[v, .int .i64 (val a (argN i m))] V fun e w' => e = .returned (.int .i64 (val b (val a (argN i m)).toNat)) ∧ St w L w' ∧ Below V.heap.size V w') := fun V L i hV hi => by
        have hx := val_rng hca (argN_eq g2 hi).2
        have h := hV.call2 (quiet_below (value_any b v (val a (argN i m)).toNat V hcb (hb.later hV.below) (by omega)))
        rw [show (((val a (argN i m)).toNat : Nat) : Int) = val a (argN i m) by omega] at h; exact h
      obtain ⟨pa, la, rfl, _⟩ := ha
      obtain ⟨pb, lb, rfl, _⟩ := hb
      clear hr hs' hv hca hcb hok
      rw [HE.out.2]
      generalize hq : a.length = q at HU HA ⊢
      generalize hq2 : b.length = q2 at HV HB ⊢
      have HQ := Lib.hid hq; clear hq
      have HQ2 := Lib.hid hq2; clear hq2
      go_enter Try.func30, Try.ntmps30
      go_upto_region 2 with (go_at_call 19; (with_reducible refine (HU.out _ _ hs).mono ?_); rintro e w1 ⟨rfl, h1⟩)
      go_wp2_with (first
        | (go_at_call 19; (with_reducible refine (HV.out _ _ h1).mono ?_); rintro e w2 ⟨rfl, h2⟩; have H2 := Lib.hid h2; clear h2)
        | (go_at_call 38; (with_reducible refine (points_any _ _).mono ?_); rintro e w' ⟨rfl, rfl⟩; rw [HC.out]))
      clear hs h1
      have HB1 : Hid (w.heap.size + 1 ≤ w2.heap.size) := by have := (resAt H2.out (b := w.heap.size) (by simp)).2.2; exact this
      go_loopw [10, 11] (fun t i wr => ∃ k : Nat, k ≤ m ∧ i = .int .i64 k ∧ Hid (OwnsI (w.heap.size + 1) wr t ((List.range k).map fun i => val b (val a (argN i m)).toNat)) ∧ Hid (St w [(w.heap.size, go' (.slice none 0 0) 0)] wr ∧ w.heap.size + 1 ≤ wr.heap.size)) (fun _ i _ => m - (intOf i).toNat)
      case atStart => exact ⟨0, by omega, rfl, ownsI_lit w2 (w.heap.size + 1) HB1.out [] 0 rfl (by omega) _ rfl, H2.out.later below1, by have := HB1.out; simp; omega⟩
      case round =>
        obtain ⟨k, hk, rfl, HO, HT⟩ := hrel
        clear H2 HB1
        by_cases hlt : k < m
        · have HLen : Hid (((List.range k).map fun i => val b (val a (argN i m)).toNat).length = k) := by unfold Hid; simp
          have HSn : Hid ((List.range (k + 1)).map (fun i => val b (val a (argN i m)).toNat) = (List.range k).map (fun i => val b (val a (argN i m)).toNat) ++ [val b (val a (argN k m)).toNat]) := by unfold Hid; rw [List.range_succ, List.map_append]; rfl
          generalize hp : (List.range k).map (fun i => val b (val a (argN i m)).toNat) = p at HO HLen HSn
          have HP := Lib.hid hp; clear hp
          have HG := Lib.hid (arg_any k m wr g2 g3 (by omega))
          have HA2 := Lib.hid (HA.out wr _ k HT.out.1 hlt)
          have HB2 := Lib.hid (fun V hV => HB.out V [(w.heap.size, go' (.slice none 0 0) 0)] k hV hlt)
          have HTz := Lib.hid (later_all HO.out HT.out)
          generalize val b (val a (argN k m)).toNat = z at HSn HB2
          generalize val a (argN k m) = y at HA2 HB2
          generalize arg k m = x at HG HA2
          go_wp2_with (first
            | (go_at_call 31; (with_reducible refine HG.out.mono ?_); rintro e w' ⟨rfl, rfl⟩)
            | (go_at_call 40; (with_reducible refine HA2.out.mono ?_); rintro e w2 ⟨rfl, h2, hb2⟩; have H3 := Lib.hid h2; have HB3 := Lib.hid hb2; clear h2 hb2)
            | (go_at_call 40; (with_reducible refine (HB2.out _ H3.out).mono ?_); rintro e w4 ⟨rfl, h4, hb4⟩; have HB4 : Hid (Below wr.heap.size wr w4) := HB3.out.trans (hb4.mono HB3.out.size); clear h4 hb4)
            | (at_builtin; refine wp_appI 23 Try.underlying23 rfl (.tmp 34) (.tmp 42) rfl (w.heap.size + 1) w4 _ p z (by rfl) (HTz.out _ HB4.out).1 (by rfl) (by rw [HLen.out]; omega) (HTz.out _ HB4.out).2.2.1 ?_; intro v' w5 ho' hb'; have HO' := Lib.hid ho'; have HB' := Lib.hid hb'; clear ho' hb'))
          go_roundw
          case rel => exact ⟨k + 1, by omega, by go_num, by rw [HSn.out]; exact HO', ⟨(HTz.out _ HB4.out).2.1.below.trans (HB'.out.mono (by omega)), fun x hx => by
            have h1 := (HTz.out _ HB4.out).2.1.rows x hx
            simp at hx; subst hx
            rw [HB'.out.block w.heap.size (by omega)]; exact h1⟩, Nat.le_trans (HTz.out _ HB4.out).2.2.1 HB'.out.size⟩
          case measure => simp [intOf]; omega
        · obtain rfl : k = m := by omega
          obtain ⟨po', cap', hv', _⟩ := HO.out.cm
          subst hv'
          obtain ⟨⟨c0, c1⟩, ⟨f0, f1⟩, hl⟩ := resAt HT.out.1 (b := w.heap.size) (by simp)
          generalize hq2 : ((List.range k).map fun i => val b (val a (argN i k)).toNat) = p at HO
          have HQ2 := Lib.hid hq2; clear hq2
          generalize hq3 : p.length = pl at HO
          have HQ3 := Lib.hid hq3; clear hq3
          go_wp2
          exact bodyPost_ret (v := .agg #[.slice po' pl cap', .int .i64 0]) (by simp [results, Try.results30, go_sem, *]) rfl ⟨po', pl, cap', rfl, by have := HE.out.1; rw [HE.out.2] at this; rw [Int.toNat_natCast, this, HQ2.out]; exact cm_set (own_set HO.out (Nat.lt_succ_self _)) (Nat.lt_succ_self _), below_set2 HT.out.1.below (Nat.le_refl _) _ _⟩
  · have hok' : (r && s) = false := by simpa using hok
    have HE : Hid (whenOk (errc (r && s) n) (thnL a b n.toNat) = [] ∧ errc (r && s) n = 21) := by rw [hok']; exact ⟨rfl, rfl⟩
    obtain ⟨pa, la, rfl, _⟩ := ha
    obtain ⟨pb, lb, rfl, _⟩ := hb
    clear hr hs' hok
    rw [HE.out.2]
    generalize hq : a.length = q at HU ⊢
    generalize hq2 : b.length = q2 at HV ⊢
    have HQ := Lib.hid hq; clear hq
    have HQ2 := Lib.hid hq2; clear hq2
    cases r
    · cases s
      all_goals
        clear hok'
        go_enter Try.func30, Try.ntmps30
        go_upto_region 2 with (go_at_call 19; (with_reducible refine (HU.out _ _ hs).mono ?_); rintro e w1 ⟨rfl, h1⟩)
        go_wp2_with (go_at_call 19; (with_reducible refine (HV.out _ _ h1).mono ?_); rintro e w' ⟨rfl, h2⟩; obtain ⟨⟨c0, c1⟩, ⟨f0, f1⟩, hl⟩ := resAt h2 (b := w.heap.size) (by simp))
        exact bodyPost_ret (v := .agg #[.slice none 0 0, .int .i64 21]) (by simp [results, Try.results30, go_sem, *]) rfl ⟨none, 0, 0, rfl, by have := HE.out.1; rw [HE.out.2] at this; rw [this]; exact cm_nil _, below_set2 h2.below (Nat.le_refl _) _ _⟩
    · have : s = false := by simpa using hok'
      subst this
      clear hok'
      go_enter Try.func30, Try.ntmps30
      go_upto_region 2 with (go_at_call 19; (with_reducible refine (HU.out _ _ hs).mono ?_); rintro e w1 ⟨rfl, h1⟩)
      go_wp2_with (go_at_call 19; (with_reducible refine (HV.out _ _ h1).mono ?_); rintro e w' ⟨rfl, h2⟩; obtain ⟨⟨c0, c1⟩, ⟨f0, f1⟩, hl⟩ := resAt h2 (b := w.heap.size) (by simp))
      exact bodyPost_ret (v := .agg #[.slice none 0 0, .int .i64 21]) (by simp [results, Try.results30, go_sem, *]) rfl ⟨none, 0, 0, rfl, by have := HE.out.1; rw [HE.out.2] at this; rw [this]; exact cm_nil _, below_set2 h2.below (Nat.le_refl _) _ _⟩
end Go.Proofs.Ytdpcciidnkchfaa
