/-
  Inverse and Then.
-/
import Derived.Test.YtgdcjpnmalnmbaaLine
namespace Go.Proofs.Ytgdcjpnmalnmbaa
open Go.RowKit Go.Shelf
variable {w : World}

/-- the argument as a natural number -/
def argN (i n : Nat) : Nat := (arg i n).toNat
theorem argN_eq {i n : Nat} (h2 : 2 ≤ n) (hi : i < n) : (argN i n : Int) = arg i n ∧ argN i n ≤ 65535 := by
  have := arg_rng h2 hi; unfold argN; omega
/-- the x at which the curve reaches y, or the end -/
def invAt (c : List Int) (y : Int) : Nat := if sol c y ≤ 65535 then sol c y else 65535
def invL (c : List Int) (n : Nat) : List Int := (List.range n).map fun i => ((invAt c (arg i n) : Nat) : Int)
def thnL (a b : List Int) (n : Nat) : List Int := (List.range n).map fun i => val b (val a (argN i n)).toNat
/-- a curve and an error -/
def GotE (c : List Int) (k : Int) (w : World) (e : Ending) (w' : World) : Prop := ∃ po n cap, e = .returned (.tuple #[.slice po n cap, .int .i64 k]) ∧ Cm w' (.slice po n cap) c ∧ Below w.heap.size w w'
/-- what Inverse, Then return beside the error -/
def whenOk (k : Int) (c : List Int) : List Int := if k = 0 then c else []

set_option maxHeartbeats 1000000 in
theorem inv1_any (c : List Int) (v : Value) (bc : Nat) (x y : Int) (w : World) (hcv : Cv c) (hc : Cm w v c) (hb : w.cell? ⟨bc, 0, none⟩ = some v) :
    Calls Try.prog 33 #[.int .i64 x, .int .i64 y, ptr bc] w fun e w' => e = .returned (.int .i64 (invAt c y)) ∧ Below w.heap.size w w' := by
  have HS := Lib.hid (solve_any c v true y w hc (by simp [hcv]))
  obtain ⟨po, cap, rfl, _⟩ := hc
  have HE : Hid (slv true c y = (if sol c y ≤ 65535 then sol c y else 0) ∧ slk true c y = decide (sol c y ≤ 65535)) := by
    constructor <;> simp [slv, slk]
  rw [HE.out.1, HE.out.2] at HS
  have HI : Hid (invAt c y = if sol c y ≤ 65535 then sol c y else 65535) := rfl
  rw [HI.out]
  clear hcv HE HI
  generalize sol c y = z at HS ⊢
  by_cases hz : z ≤ 65535
  · rw [if_pos hz, decide_eq_true hz] at HS
    rw [if_pos hz]
    clear hz
    go_enter Try.func33, Try.ntmps33
    go_wp2_with (go_at_call 27; (with_reducible refine HS.out.mono ?_); rintro e w2 ⟨rfl, hb2⟩; have HB2 := Lib.hid hb2; clear hb2)
    go_ret
    exact ⟨rfl, HB2.out⟩
  · rw [if_neg hz, decide_eq_false hz] at HS
    rw [if_neg hz]
    clear hz
    go_enter Try.func33, Try.ntmps33
    go_wp2_with (go_at_call 27; (with_reducible refine HS.out.mono ?_); rintro e w2 ⟨rfl, hb2⟩; have HB2 := Lib.hid hb2; clear hb2)
    go_ret
    exact ⟨rfl, HB2.out⟩

set_option maxRecDepth 100000 in
set_option maxHeartbeats 2000000 in
theorem inverse_any (c : List Int) (v : Value) (r : Bool) (n : Int) (w : World) (hc : Cm w v c) (hr : r = true ↔ Cv c) :
    Calls Try.prog 11 #[v, .int .i64 n] w (GotE (whenOk (errc r n) (invL c n.toNat)) (errc r n) w) := by
  have hcm := hc
  obtain ⟨po, cap, rfl, _⟩ := hc
  generalize hq : c.length = q at hcm ⊢
  have hs := ((St.start w).alloc (vo (.slice po q cap) 24)).alloc (vo (.slice po q cap) 24)
  rw [World.size_alloc] at hs
  have HK : Hid (∀ V, St w [(w.heap.size + 1, vo (.slice po q cap) 24), (w.heap.size, vo (.slice po q cap) 24)] V → Calls Try.prog 31 #[.int .i64 n, .slice (some ⟨w.heap.size + 1, 0, none⟩) 1 1] V fun e w' =>
      e = .returned (.int .i64 (errc r n)) ∧ St w [(w.heap.size + 1, vo (.slice po q cap) 24), (w.heap.size, vo (.slice po q cap) 24)] w') := fun V hV =>
    hV.call (check_any 1 (w.heap.size + 1) (fun _ => .slice po q cap) (fun _ => c) (fun _ => r) r n V (by omega) (hV.lt (b := w.heap.size + 1) (o := vo (.slice po q cap) 24) (by simp)) (fun j hj => by
      obtain rfl : j = 0 := by omega
      exact hV.var (b := w.heap.size + 1) (t := 24) (by simp)) (fun _ _ => hcm.later hV.below) (fun _ _ => hr) ⟨fun h _ _ => h, fun h => h 0 (by omega)⟩)
  by_cases he : errc r n = 0
  · have hr2 : r = true ∧ vc n = true := by
      unfold errc at he
      cases r <;> cases hv : vc n <;> simp [hv] at he ⊢
    obtain ⟨rfl, hv⟩ := hr2
    obtain ⟨m, rfl, h2, h3⟩ := vc_nat hv
    have hcv := hr.1 rfl
    have HB : Hid (∀ V, St w [(w.heap.size + 1, vo (.slice po q cap) 24), (w.heap.size, vo (.slice po q cap) 24)] V → Calls Try.prog 32 #[.int .i64 (m : Nat), .func (.func 33) #[] #[ptr w.heap.size]] V fun e w' => ∃ b, e = .returned (.slice (some ⟨b, 0, none⟩) m m) ∧ Cm w' (.slice (some ⟨b, 0, none⟩) m m) (invL c m) ∧ Below w.heap.size w w') := fun V hV =>
      (build_any 33 _ m (fun i => ((invAt c (arg i m) : Nat) : Int)) V h2 h3 (enters_of Try.func33 (by kernel_rfl) rfl) (fun V2 hb i _ => by
        have h4 := hV.later hb
        exact inv1_any c _ _ _ _ V2 hcv (hcm.later h4.below) (h4.var (b := w.heap.size) (t := 24) (by simp)))).mono fun e w' ⟨b, h5, h6, h7⟩ => ⟨b, h5, h6, hV.below.trans (h7.mono hV.below.size)⟩
    have HE := Lib.hid he
    have HQ := Lib.hid hq
    clear hq hcm hr hv hcv
    rw [he] at HK ⊢
    clear he
    go_enter Try.func11, Try.ntmps11
    go_wp2_with (first
      | (go_at_call 31; (with_reducible refine (HK.out _ hs).mono ?_); rintro e w2 ⟨rfl, h2⟩)
      | (go_at_call 32; refine (HB.out _ h2).mono ?_; rintro e w3 ⟨b, rfl, hc2, hb2⟩; have HC2 := Lib.hid hc2; have HB2 := Lib.hid hb2; clear hc2 hb2))
    go_ret2
    exact ⟨_, _, _, rfl, by unfold whenOk; rw [if_pos rfl]; exact HC2.out, HB2.out⟩
  · have HE : Hid (whenOk (errc r n) (invL c n.toNat) = []) := if_neg he
    have hne : (errc r n != 0) = true := by simpa using he
    have HQ := Lib.hid hq
    clear hq hcm hr
    generalize errc r n = k at HK hne HE he ⊢
    have HKn := Lib.hid he
    clear he
    go_enter Try.func11, Try.ntmps11
    go_wp2_with (go_at_call 31; (with_reducible refine (HK.out _ hs).mono ?_); rintro e w2 ⟨rfl, h2⟩; have H2 := Lib.hid h2; clear h2)
    go_ret2
    exact ⟨none, 0, 0, rfl, by rw [HE.out]; exact cm_nil _, H2.out.below⟩

end Go.Proofs.Ytgdcjpnmalnmbaa
