/-
  Inverse and Then.
-/
import Derived.Test.YtdpcciidnkchfaaLine
namespace Go.Proofs.Ytdpcciidnkchfaa
open Go.RowKit Go.Shelf
variable {w : World}

/-- the argument as a natural number -/
def argN (i n : Nat) : Nat := (arg i n).toNat
theorem argN_eq {i n : Nat} (h2 : 2 ≤ n) (hi : i < n) : (argN i n : Int) = arg i n ∧ argN i n ≤ 65535 := by
  have := arg_rng h2 hi; unfold argN; omega
/-- the x at which the curve reaches y, or the end -/
def invAt (c : List Int) (y : Int) : Nat := if sol c y ≤ 65535 then sol c y else 65535
def invL (c : List Int) (n : Nat) : List Int := (List.range n).map fun i => ((invAt c (arg i n) : Nat) : Int)
def thnL (a b : List Int) (n : Nat) : List Int := (List.range n).map fun i => val b (val a (argN i n)).toNat
/-- a curve and an error -/
def GotE (c : List Int) (k : Int) (w : World) (e : Ending) (w' : World) : Prop := ∃ po n cap, e = .returned (.tuple #[.slice po n cap, .int .i64 k]) ∧ Cm w' (.slice po n cap) c ∧ Below w.heap.size w w'
/-- what Inverse, Then return beside the error -/
def whenOk (k : Int) (c : List Int) : List Int := if k = 0 then c else []

set_option maxHeartbeats 1000000 in
theorem inv1_any (c : List Int) (v : Value) (bc : Nat) (x y : Int) (w : World) (hcv : Cv c) (hc : Cm w v c) (hb : w.cell? ⟨bc, 0, none⟩ = some v) :
    Calls Try.prog 46 #[.int .i64 x, .int .i64 y, ptr bc] w fun e w' => e = .returned (.int .i64 (invAt c y)) ∧ Below w.heap.size w w' := by
  have HS := Lib.hid (solve_any c v true y w hc (by simp [hcv]))
  obtain ⟨po, cap, rfl, _⟩ := hc
  have HE : Hid (slv true c y = (if sol c y ≤ 65535 then sol c y else 0) ∧ slk true c y = decide (sol c y ≤ 65535)) := by
    constructor <;> simp [slv, slk]
  rw [HE.out.1, HE.out.2] at HS
  have HI : Hid (invAt c y = if sol c y ≤ 65535 then sol c y else 65535) := rfl
  rw [HI.out]
  clear hcv HE HI
  generalize sol c y = z at HS ⊢
  by_cases hz : z ≤ 65535
  · rw [if_pos hz, decide_eq_true hz] at HS
    rw [if_pos hz]
    clear hz
    go_enter Try.func46, Try.ntmps46
    go_wp2_with (go_at_call 25; (with_reducible refine HS.out.mono ?_); rintro e w2 ⟨rfl, hb2⟩; have HB2 := Lib.hid hb2; clear hb2)
    go_ret
    exact ⟨rfl, HB2.out⟩
  · rw [if_neg hz, decide_eq_false hz] at HS
    rw [if_neg hz]
    clear hz
    go_enter Try.func46, Try.ntmps46
    go_wp2_with (go_at_call 25; (with_reducible refine HS.out.mono ?_); rintro e w2 ⟨rfl, hb2⟩; have HB2 := Lib.hid hb2; clear hb2)
    go_ret
    exact ⟨rfl, HB2.out⟩

set_option maxRecDepth 100000 in
set_option maxHeartbeats 2000000 in
theorem inverse_any (c : List Int) (v : Value) (r : Bool) (n : Int) (w : World) (hc : Cm w v c) (hr : r = true ↔ Cv c) :
    Calls Try.prog 27 #[v, .int .i64 n] w (GotE (whenOk (errc r n) (invL c n.toNat)) (errc r n) w) := by
  have hcm := hc
  obtain ⟨po, cap, rfl, _⟩ := hc
  generalize hq : c.length = q at hcm ⊢
  have hs := ((St.start w).alloc (vo (.slice po q cap) 23)).alloc (vo (.slice po q cap) 23)
  rw [World.size_alloc] at hs
  have HK : Hid (∀ V, St w [(w.heap.size + 1, vo (.slice po q cap) 23), (w.heap.size, vo (.slice po q cap) 23)] V → Calls Try.prog 45 #[.int .i64 n, .slice (some ⟨w.heap.size + 1, 0, none⟩) 1 1] V fun e w' =>
      e = .returned (.int .i64 (errc r n)) ∧ St w [(w.heap.size + 1, vo (.slice po q cap) 23), (w.heap.size, vo (.slice po q cap) 23)] w') := fun V hV =>
    hV.call (check_any 1 (w.heap.size + 1) (fun _ => .slice po q cap) (fun _ => c) (fun _ => r) r n V (by omega) (hV.lt (b := w.heap.size + 1) (o := vo (.slice po q cap) 23) (by simp)) (fun j hj => by
      obtain rfl : j = 0 := by omega
      exact hV.var (b := w.heap.size + 1) (t := 23) (by simp)) (fun _ _ => hcm.later hV.below) (fun _ _ => hr) ⟨fun h _ _ => h, fun h => h 0 (by omega)⟩)
  by_cases he : errc r n = 0
  · have hr2 : r = true ∧ vc n = true := by
      unfold errc at he
      cases r <;> cases hv : vc n <;> simp [hv] at he ⊢
    obtain ⟨rfl, hv⟩ := hr2
    obtain ⟨m, rfl, h2, h3⟩ := vc_nat hv
    have hcv := hr.1 rfl
    have HB : Hid (∀ V, St w [(w.heap.size + 1, vo (.slice po q cap) 23), (w.heap.size, vo (.slice po q cap) 23)] V → Calls Try.prog 41 #[.int .i64 (m : Nat), .func (.func 46) #[] #[ptr w.heap.size]] V fun e w' => ∃ b, e = .returned (.slice (some ⟨b, 0, none⟩) m m) ∧ Cm w' (.slice (some ⟨b, 0, none⟩) m m) (invL c m) ∧ Below w.heap.size w w') := fun V hV =>
      (build_any 46 _ m (fun i => ((invAt c (arg i m) : Nat) : Int)) V h2 h3 (enters_of Try.func46 (by kernel_rfl) rfl) (fun V2 hb i _ => by
        have h4 := hV.later hb
        exact inv1_any c _ _ _ _ V2 hcv (hcm.later h4.below) (h4.var (b := w.heap.size) (t := 23) (by simp)))).mono fun e w' ⟨b, h5, h6, h7⟩ => ⟨b, h5, h6, hV.below.trans (h7.mono hV.below.size)⟩
    have HE := Lib.hid he
    have HQ := Lib.hid hq
    clear hq hcm hr hv hcv
    rw [he] at HK ⊢
    clear he
    go_enter Try.func27, Try.ntmps27
    go_wp2_with (first
      | (go_at_call 45; (with_reducible refine (HK.out _ hs).mono ?_); rintro e w2 ⟨rfl, h2⟩)
      | (go_at_call 41; refine (HB.out _ h2).mono ?_; rintro e w3 ⟨b, rfl, hc2, hb2⟩; have HC2 := Lib.hid hc2; have HB2 := Lib.hid hb2; clear hc2 hb2))
    go_ret2
    exact ⟨_, _, _, rfl, by unfold whenOk; rw [if_pos rfl]; exact HC2.out, HB2.out⟩
  · have HE : Hid (whenOk (errc r n) (invL c n.toNat) = []) := if_neg he
    have hne : (errc r n != 0) = true := by simpa using he
    have HQ := Lib.hid hq
    clear hq hcm hr
    generalize errc r n = k at HK hne HE he ⊢
    have HKn := Lib.hid he
    clear he
    go_enter Try.func27, Try.ntmps27
    go_wp2_with (go_at_call 45; (with_reducible refine (HK.out _ hs).mono ?_); rintro e w2 ⟨rfl, h2⟩; have H2 := Lib.hid h2; clear h2)
    go_ret2
    exact ⟨none, 0, 0, rfl, by rw [HE.out]; exact cm_nil _, H2.out.below⟩

set_option maxRecDepth 100000 in
set_option maxHeartbeats 2000000 in
theorem then1_any (a b : List Int) (u v : Value) (ba bb i n : Nat) (x : Int) (w : World) (h2 : 2 ≤ n) (hi : i < n) (ha : Cv a) (hb : Cv b) (hu : Cm w u a) (hv : Cm w v b) (ca : w.cell? ⟨ba, 0, none⟩ = some u) (cb : w.cell? ⟨bb, 0, none⟩ = some v) :
    Calls Try.prog 47 #[.int .i64 x, .int .i64 (arg i n), ptr bb, ptr ba] w fun e w' => e = .returned (.int .i64 (val b (val a (argN i n)).toNat)) ∧ Below w.heap.size w w' := by
  have hx := argN_eq h2 hi
  have hr := val_rng ha hx.2
  have hcast : (((val a (argN i n)).toNat : Nat) : Int) = val a (argN i n) := by omega
  have HA : Hid (∀ q, Calls Try.prog 39 #[u, .int .i64 (arg i n)] (w.drewN q) fun e w' => e = .returned (.int .i64 (val a (argN i n))) ∧ ∃ m, w' = (w.drewN q).drewN m) := fun q => by
    have := inter_any a u (argN i n) (w.drewN q) ha (hu.drewN q) hx.2
    rw [hx.1] at this; exact this
  have HB : Hid (∀ q, Calls Try.prog 39 #[v, .int .i64 (val a (argN i n))] (w.drewN q) fun e w' => e = .returned (.int .i64 (val b (val a (argN i n)).toNat)) ∧ ∃ m, w' = (w.drewN q).drewN m) := fun q => by
    have := inter_any b v (val a (argN i n)).toNat (w.drewN q) hb (hv.drewN q) (by omega)
    rw [hcast] at this; exact this
  obtain ⟨pa, la, rfl, _⟩ := hu
  obtain ⟨pb, lb, rfl, _⟩ := hv
  clear ha hb hx hcast hr
  generalize val a (argN i n) = y at HA HB ⊢
  generalize val b y.toNat = z at HB ⊢
  generalize arg i n = t at HA ⊢
  generalize a.length = la' at *
  generalize b.length = lb' at *
  have key : Calls Try.prog 47 #[.int .i64 x, .int .i64 t, ptr bb, ptr ba] w fun e w' => e = .returned (.int .i64 z) ∧ ∃ m, w' = w.drewN m := by
    go_enter Try.func47, Try.ntmps47
    go_upto_region 1 with fail
    go_quiet (first
      | (go_at_call 39; with_reducible exact Calls.quiet_of (HA.out _))
      | (go_at_call 39; with_reducible exact Calls.quiet_of (HB.out _)))
    go_wp2_with fail
    go_ret
    exact ⟨rfl, _, rfl⟩
  exact quiet_below key

set_option maxRecDepth 100000 in
set_option maxHeartbeats 2000000 in
theorem then_any (a b : List Int) (u v : Value) (r s : Bool) (n : Int) (w : World) (ha : Cm w u a) (hb : Cm w v b) (hr : r = true ↔ Cv a) (hs : s = true ↔ Cv b) :
    Calls Try.prog 29 #[u, v, .int .i64 n] w (GotE (whenOk (errc (r && s) n) (thnL a b n.toNat)) (errc (r && s) n) w) := by
  have hau := ha
  have hbv := hb
  obtain ⟨pa, la, rfl, _⟩ := ha
  obtain ⟨pb, lb, rfl, _⟩ := hb
  generalize hqa : a.length = qa at hau ⊢
  generalize hqb : b.length = qb at hbv ⊢
  obtain ⟨L, hL⟩ : ∃ L, L = [(w.heap.size + 1 + 1, .cells #[.slice pa qa la, .slice pb qb lb] 23), (w.heap.size + 1, vo (.slice pb qb lb) 23), (w.heap.size, vo (.slice pa qa la) 23)] := ⟨_, rfl⟩
  have hst := (((St.start w).alloc (vo (.slice pa qa la) 23)).alloc (vo (.slice pb qb lb) 23)).alloc (.cells #[.slice pa qa la, .slice pb qb lb] 23)
  rw [World.size_alloc, World.size_alloc, ← hL] at hst
  have HK : Hid (∀ V, St w L V → Calls Try.prog 45 #[.int .i64 n, .slice (some ⟨w.heap.size + 1 + 1, 0, none⟩) 2 2] V fun e w' => e = .returned (.int .i64 (errc (r && s) n)) ∧ St w L w') := fun V hV =>
    hV.call (check_any 2 (w.heap.size + 1 + 1) (fun j => if j = 0 then .slice pa qa la else .slice pb qb lb) (fun j => if j = 0 then a else b) (fun j => if j = 0 then r else s) (r && s) n V (by omega)
      (hV.lt (b := w.heap.size + 1 + 1) (o := .cells #[.slice pa qa la, .slice pb qb lb] 23) (by simp [hL]))
      (fun j hj => by
        have h := hV.cell (b := w.heap.size + 1 + 1) (cs := #[.slice pa qa la, .slice pb qb lb]) (t := 23) (by simp [hL]) j
        rw [h]
        obtain rfl | rfl : j = 0 ∨ j = 1 := by omega
        · rfl
        · rfl)
      (fun j hj => by
        obtain rfl | rfl : j = 0 ∨ j = 1 := by omega
        · exact hau.later hV.below
        · exact hbv.later hV.below)
      (fun j hj => by
        obtain rfl | rfl : j = 0 ∨ j = 1 := by omega
        · exact hr
        · exact hs)
      ⟨fun h j hj => by
        obtain rfl | rfl : j = 0 ∨ j = 1 := by omega
        · simpa using (Bool.and_eq_true_iff.1 h).1
        · simpa using (Bool.and_eq_true_iff.1 h).2, fun h => by
        have h0 := h 0 (by omega)
        have h1 := h 1 (by omega)
        simp at h0 h1
        rw [h0, h1]; rfl⟩)
  by_cases he : errc (r && s) n = 0
  · have hr2 : (r = true ∧ s = true) ∧ vc n = true := by
      unfold errc at he
      cases r <;> cases s <;> cases hv : vc n <;> simp [hv] at he ⊢
    obtain ⟨⟨rfl, rfl⟩, hv⟩ := hr2
    obtain ⟨m, rfl, h2, h3⟩ := vc_nat hv
    have hca := hr.1 rfl
    have hcb := hs.1 rfl
    have HB : Hid (∀ V, St w L V → Calls Try.prog 41 #[.int .i64 (m : Nat), .func (.func 47) #[] #[ptr (w.heap.size + 1), ptr w.heap.size]] V fun e w' => ∃ b', e = .returned (.slice (some ⟨b', 0, none⟩) m m) ∧ Cm w' (.slice (some ⟨b', 0, none⟩) m m) (thnL a b m) ∧ Below w.heap.size w w') := fun V hV =>
      (build_any 47 _ m (fun i => val b (val a (argN i m)).toNat) V h2 h3 (enters_of Try.func47 (by kernel_rfl) rfl) (fun V2 hb i hi => by
        have h4 := hV.later hb
        exact then1_any a b _ _ _ _ i m _ V2 h2 hi hca hcb (hau.later h4.below) (hbv.later h4.below) (h4.var (b := w.heap.size) (t := 23) (by simp [hL])) (h4.var (b := w.heap.size + 1) (t := 23) (by simp [hL])))).mono fun e w' ⟨b', h5, h6, h7⟩ => ⟨b', h5, h6, hV.below.trans (h7.mono hV.below.size)⟩
    have HE := Lib.hid he
    rw [he] at HK ⊢
    have HL := Lib.hid hL
    have HC : Hid (∀ V, St w L V → V.cell? ⟨w.heap.size, 0, none⟩ = some (.slice pa qa la) ∧ V.cell? ⟨w.heap.size + 1, 0, none⟩ = some (.slice pb qb lb)) := fun V hV => ⟨hV.var (t := 23) (by simp [hL]), hV.var (t := 23) (by simp [hL])⟩
    have HA := Lib.hid hqa
    have HA2 := Lib.hid hqb
    clear hqa hqb hau hbv hr hs hv hca hcb he hL
    go_enter Try.func29, Try.ntmps29
    go_wp2_with (first
      | (go_at_call 45; (with_reducible refine (HK.out _ hst).mono ?_); rintro e w2 ⟨rfl, h2⟩; obtain ⟨c1, c2⟩ := HC.out _ h2)
      | (go_at_call 41; refine (HB.out _ h2).mono ?_; rintro e w3 ⟨b', rfl, hc2, hb2⟩; have HC2 := Lib.hid hc2; have HB2 := Lib.hid hb2; clear hc2 hb2))
    go_ret2
    exact ⟨_, _, _, rfl, by unfold whenOk; rw [if_pos rfl]; exact HC2.out, HB2.out⟩
  · have HE : Hid (whenOk (errc (r && s) n) (thnL a b n.toNat) = []) := if_neg he
    have hne : (errc (r && s) n != 0) = true := by simpa using he
    have HL := Lib.hid hL
    have HA := Lib.hid hqa
    have HA2 := Lib.hid hqb
    clear hqa hqb hau hbv hr hs hL
    generalize errc (r && s) n = k at HK hne HE he ⊢
    have HKn := Lib.hid he
    clear he
    go_enter Try.func29, Try.ntmps29
    go_wp2_with (go_at_call 45; (with_reducible refine (HK.out _ hst).mono ?_); rintro e w2 ⟨rfl, h2⟩; have H2 := Lib.hid h2; clear h2)
    go_ret2
    exact ⟨none, 0, 0, rfl, by rw [HE.out]; exact cm_nil _, H2.out.below⟩
end Go.Proofs.Ytdpcciidnkchfaa
