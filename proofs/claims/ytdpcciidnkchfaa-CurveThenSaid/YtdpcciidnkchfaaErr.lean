/-
  Error, of curve and of the reference.
-/
import Derived.Test.YtdpcciidnkchfaaSearch
import Derived.Laws.Cover1
namespace Go.Proofs.Ytdpcciidnkchfaa
open Go.RowKit
variable {w : World}

/-- the value, or 0 if the curve is invalid -/
def ev (r : Bool) (c : List Int) (x : Nat) : Int := if r then val c x else 0
def mx3 (x y z : Int) : Int := if z > (if y > x then y else x) then z else (if y > x then y else x)
def errTo (f g : Nat → Int) : Nat → Int
  | 0 => 0
  | k + 1 => mx3 (errTo f g k) (f k - g k) (g k - f k)
/-- what Error returns -/
def err (f g : Nat → Int) : Int := errTo f g 65536
theorem mx3_ge (x y z : Int) : x ≤ mx3 x y z ∧ y ≤ mx3 x y z ∧ z ≤ mx3 x y z := by unfold mx3; (repeat' split) <;> omega
theorem mx3_cases (x y z : Int) : mx3 x y z = x ∨ mx3 x y z = y ∨ mx3 x y z = z := by unfold mx3; (repeat' split) <;> omega
theorem mx3_swap (x y z : Int) : mx3 x y z = mx3 x z y := by unfold mx3; (repeat' split) <;> omega
theorem errTo_rng {f g : Nat → Int} (hf : ∀ x, x ≤ 65535 → 0 ≤ f x ∧ f x ≤ 65535) (hg : ∀ x, x ≤ 65535 → 0 ≤ g x ∧ g x ≤ 65535) : ∀ k, k ≤ 65536 → 0 ≤ errTo f g k ∧ errTo f g k ≤ 65535
  | 0, _ => by simp [errTo]
  | k + 1, hk => by
    have ih := errTo_rng hf hg k (by omega)
    have h1 := hf k (by omega)
    have h2 := hg k (by omega)
    have h3 := mx3_ge (errTo f g k) (f k - g k) (g k - f k)
    have h4 := mx3_cases (errTo f g k) (f k - g k) (g k - f k)
    unfold errTo; omega
theorem errTo_swap (f g : Nat → Int) : ∀ k, errTo f g k = errTo g f k
  | 0 => rfl
  | k + 1 => by unfold errTo; rw [errTo_swap f g k, mx3_swap]
theorem errTo_self (f : Nat → Int) : ∀ k, errTo f f k = 0
  | 0 => rfl
  | k + 1 => by unfold errTo; rw [errTo_self f k]; simp [mx3]
theorem errTo_bound (f g : Nat → Int) : ∀ k x, x < k → f x - g x ≤ errTo f g k ∧ g x - f x ≤ errTo f g k
  | 0, _, h => absurd h (Nat.not_lt_zero _)
  | k + 1, x, h => by
    have h3 := mx3_ge (errTo f g k) (f k - g k) (g k - f k)
    unfold errTo
    by_cases he : x = k
    · subst he; exact ⟨h3.2.1, h3.2.2⟩
    · have := errTo_bound f g k x (by omega)
      omega
theorem ev_rng {r : Bool} {c : List Int} (hr : r = true ↔ Cv c) : ∀ x, x ≤ 65535 → 0 ≤ ev r c x ∧ ev r c x ≤ 65535 := fun x hx => by
  unfold ev
  cases r with
  | false => simp
  | true => rw [if_pos rfl]; exact val_rng (hr.1 rfl) hx

theorem zero_any (x : Int) (w : World) : Calls Try.prog 59 #[.int .i64 x] w fun e w' => e = .returned (.int .i64 0) ∧ w = w' := by
  go_enter Try.func59, Try.ntmps59
  go_wp2
  go_ret
  exact ⟨rfl, rfl⟩
theorem at1_any (c : List Int) (v : Value) (bc x : Nat) (w : World) (hcv : Cv c) (hc : Cm w v c) (hx : x ≤ 65535) (hb : w.cell? ⟨bc, 0, none⟩ = some v) :
    Calls Try.prog 60 #[.int .i64 x, .pointer (some ⟨bc, 0, none⟩)] w fun e w' => e = .returned (.int .i64 (val c x)) ∧ Below w.heap.size w w' := by
  have HI := Lib.hid (quiet_below (inter_any c v x w hcv hc hx))
  obtain ⟨po, cap, rfl, _⟩ := hc
  clear hcv
  generalize val c x = z at HI ⊢
  go_enter Try.func60, Try.ntmps60
  go_wp2_with (go_at_call 39; (with_reducible refine HI.out.mono ?_); rintro e w2 ⟨rfl, hb2⟩; have HB2 := Lib.hid hb2; clear hb2)
  go_ret
  exact ⟨rfl, HB2.out⟩
/-- what an evaluator of c is worth from the world w on -/
def Evals (g : Nat) (cb : Array Value) (f : Nat → Int) (w : World) : Prop :=
  (∀ args w, (callFunc g args).run Try.prog w = .ok (.enter g args) w) ∧ ∀ V, Below w.heap.size w V → ∀ x, x ≤ 65535 → Calls Try.prog g (#[.int .i64 (x : Nat)] ++ cb) V fun e w' => e = .returned (.int .i64 (f x)) ∧ Below V.heap.size V w'
theorem Evals.later {g : Nat} {cb : Array Value} {f : Nat → Int} {w w' : World} (h : Evals g cb f w) (hb : Below w.heap.size w w') : Evals g cb f w' := ⟨h.1, fun V hV => h.2 V (hb.trans (hV.mono hb.size))⟩
theorem eval_any (c : List Int) (v : Value) (r : Bool) (w : World) (hc : Cm w v c) (hr : r = true ↔ Cv c) :
    Calls Try.prog 48 #[v] w fun e w' => ∃ g cb, e = .returned (.func (.func g) #[] cb) ∧ Evals g cb (ev r c) w' ∧ Below w.heap.size w w' := by
  have hcm := hc
  obtain ⟨po, cap, rfl, _⟩ := hc
  generalize hq : c.length = q at hcm ⊢
  have hs := (St.start w).alloc (vo (.slice po q cap) 23)
  have HV : Hid (∀ V, St w [(w.heap.size, vo (.slice po q cap) 23)] V → Calls Try.prog 18 #[.slice po q cap] V fun e w' => e = .returned (.bool r) ∧ St w [(w.heap.size, vo (.slice po q cap) 23)] w') := fun V hV => hV.call (valid_any c _ r V (hcm.later hV.below) hr)
  have HQ := Lib.hid hq; clear hq
  cases r
  · clear hr hcm
    go_enter Try.func48, Try.ntmps48
    go_wp2_with (go_at_call 18; (with_reducible refine (HV.out _ hs).mono ?_); rintro e w2 ⟨rfl, h2⟩; have H2 := Lib.hid h2; clear h2)
    go_ret
    exact ⟨_, _, rfl, ⟨enters_of Try.func59 (by kernel_rfl) rfl, fun V _ x _ => (zero_any _ V).mono fun e w' ⟨h, h'⟩ => ⟨h, by rw [← h']; exact Below.refl _ _⟩⟩, H2.out.below⟩
  · have hcv := hr.1 rfl
    have HE : Hid (∀ V, St w [(w.heap.size, vo (.slice po q cap) 23)] V → Evals 60 #[.pointer (some ⟨w.heap.size, 0, none⟩)] (ev true c) V) := fun V hV =>
      ⟨enters_of Try.func60 (by kernel_rfl) rfl, fun V2 hb x hx => by
        have h2 := hV.later hb
        exact at1_any c _ _ x V2 hcv (hcm.later h2.below) hx (h2.var (t := 23) (by simp))⟩
    clear hr hcm hcv
    go_enter Try.func48, Try.ntmps48
    go_wp2_with (go_at_call 18; (with_reducible refine (HV.out _ hs).mono ?_); rintro e w2 ⟨rfl, h2⟩; have H2 := Lib.hid h2; clear h2)
    go_ret
    exact ⟨_, _, rfl, HE.out _ H2.out, H2.out.below⟩

set_option maxRecDepth 100000 in
set_option maxHeartbeats 2000000 in
theorem error_any (a b : List Int) (u v : Value) (r s : Bool) (w : World) (ha : Cm w u a) (hb : Cm w v b) (hr : r = true ↔ Cv a) (hs : s = true ↔ Cv b) :
    Calls Try.prog 32 #[u, v] w fun e w' => e = .returned (.int .i64 (err (ev r a) (ev s b))) ∧ Below w.heap.size w w' := by
  have HA := Lib.hid (eval_any a u r w ha hr)
  have HB : Hid (∀ V, Below w.heap.size w V → Calls Try.prog 48 #[v] V fun e w' => ∃ g cb, e = .returned (.func (.func g) #[] cb) ∧ Evals g cb (ev s b) w' ∧ Below V.heap.size V w') := fun V hV => eval_any b v s V (hb.later hV) hs
  have HR1 := Lib.hid (ev_rng hr)
  have HR2 := Lib.hid (ev_rng hs)
  have HT := Lib.hid (errTo_rng (ev_rng hr) (ev_rng hs))
  obtain ⟨pa, la, rfl, _⟩ := ha
  obtain ⟨pb, lb, rfl, _⟩ := hb
  clear hr hs
  generalize ev r a = f at HA HR1 HT ⊢
  generalize ev s b = g at HB HR2 HT ⊢
  generalize hq : a.length = q at HA ⊢
  generalize hq2 : b.length = q2 at HB ⊢
  have HQ := Lib.hid hq; clear hq
  have HQ2 := Lib.hid hq2; clear hq2
  go_enter Try.func32, Try.ntmps32
  go_upto_region 2 with (first
    | (go_at_call 48; (refine HA.out.mono ?_); rintro e w1 ⟨g1, cb1, rfl, he1, hb1⟩; have E1 := Lib.hid he1; have B1 := Lib.hid hb1; clear he1 hb1 HA)
    | (go_at_call 48; (refine (HB.out _ B1.out).mono ?_); rintro e w2 ⟨g2, cb2, rfl, he2, hb2⟩; have E2 := Lib.hid he2; have B2 : Hid (Below w.heap.size w w2) := B1.out.trans (hb2.mono B1.out.size); have E3 := Lib.hid (E1.out.later hb2); clear he2 hb2))
  clear HB E1
  obtain ⟨N, hN⟩ : ∃ N : Nat, N = 65536 := ⟨_, rfl⟩
  have HN := Lib.hid hN; clear hN
  go_wp2_with fail
  go_loopw [7, 14] (fun m i wr => ∃ k : Nat, k ≤ N ∧ i = .int .i64 k ∧ m = .int .i64 (errTo f g k) ∧ Hid (Below w2.heap.size w2 wr)) (fun _ i _ => N - (intOf i).toNat)
  case atStart => exact ⟨0, by omega, rfl, rfl, Below.refl _ _⟩
  case round =>
    obtain ⟨k, hk, rfl, rfl, HW⟩ := hrel
    have ht := HT.out k (by rw [← HN.out]; exact hk)
    have hmx : ∀ (ts : Array TypeId) (t : TypeId) (w : World), (Builtin.max_ ts t #[.int .i64 (errTo f g k), .int .i64 (f k - g k), .int .i64 (g k - f k)]).run Try.prog w = .ok (.int .i64 (errTo f g (k + 1))) w := fun ts t w => by
      rw [run_max_int3]; rfl
    by_cases hlt : k < N
    · have hN1 : k < 65536 := by rw [← HN.out]; exact hlt
      have hlt2 : (k : Int) < 65536 := by omega
      have h1 := HR1.out k (by omega)
      have h2 := HR2.out k (by omega)
      have C1 := Lib.hid (E3.out.2 wr HW.out k (by omega))
      have C2 := Lib.hid (fun V hV => E2.out.2 V (HW.out.trans (hV : Below w2.heap.size wr V)) k (by omega))
      have N1 := E3.out.1
      have N2 := E2.out.1
      clear hN1
      generalize hT2 : errTo f g (k + 1) = t2 at hmx
      have HT2 := Lib.hid hT2; clear hT2
      generalize hT : errTo f g k = t at ht hmx ⊢
      have HT1 := Lib.hid hT; clear hT
      generalize f k = y at h1 C1 hmx
      generalize g k = z at h2 C2 hmx
      obtain ⟨hy0, hy1⟩ := h1
      obtain ⟨hz0, hz1⟩ := h2
      obtain ⟨ht0, ht1⟩ := ht
      have hneg : -(y - z) = z - y := by omega
      go_wp2_with fail
      refine C1.out.mono ?_
      rintro e w3 ⟨rfl, hb3⟩
      have B3 : Hid (Below w2.heap.size wr w3) := hb3.mono HW.out.size
      clear hb3 C1
      go_wp2_with fail
      refine (C2.out _ B3.out).mono ?_
      rintro e w4 ⟨rfl, hb4⟩
      have B4 : Hid (Below w2.heap.size w2 w4) := HW.out.trans (B3.out.trans (hb4.mono (Nat.le_trans HW.out.size B3.out.size)))
      clear hb4 C2 N1 N2
      go_wp2_with fail
      go_roundw
      case rel => exact ⟨k + 1, by omega, by go_num, by rw [HT2.out], B4⟩
      case measure => simp [intOf]; omega
    · have hN1 : k = 65536 := by have := HN.out; omega
      have HX : Hid (errTo f g k = err f g) := by rw [hN1]; rfl
      have hge : ¬ (k : Int) < 65536 := by omega
      clear hN1
      generalize hT : errTo f g k = t at HX ht hmx ⊢
      have HT1 := Lib.hid hT; clear hT hmx
      go_wp2
      go_ret
      exact ⟨ret_int HX.out, B2.out.trans (HW.out.mono B2.out.size)⟩
end Go.Proofs.Ytdpcciidnkchfaa
