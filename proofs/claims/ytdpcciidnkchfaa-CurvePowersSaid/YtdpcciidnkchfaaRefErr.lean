/-
  The reference's Error.
-/
import Derived.Test.YtdpcciidnkchfaaErr
namespace Go.Proofs.Ytdpcciidnkchfaa
open Go.RowKit
variable {w : World}

set_option maxRecDepth 100000 in
set_option maxHeartbeats 8000000 in
theorem refError_any (a b : List Int) (u v : Value) (r s : Bool) (w : World) (ha : Cm w u a) (hb : Cm w v b) (hr : r = true ↔ Cv a) (hs : s = true ↔ Cv b) :
    Calls Try.prog 33 #[u, v] w fun e w' => e = .returned (.int .i64 (err (ev r a) (ev s b))) ∧ Below w.heap.size w w' := by
  have HU := Lib.hid (refValid_any a u r w ha hr)
  have HV : Hid (∀ V, Below w.heap.size w V → Calls Try.prog 19 #[v] V fun e w' => e = .returned (.bool s) ∧ Below w.heap.size w w') := fun V hV => Below.call hV (refValid_any b v s V (hb.later hV) hs)
  have HA : Hid (∀ V x, Below w.heap.size w V → x ≤ 65535 → r = true → Calls Try.prog 40 #[u, .int .i64 (x : Nat)] V fun e w' => e = .returned (.int .i64 (ev r a x)) ∧ Below w.heap.size w w') := fun V x hV hx h => by
    have := Below.call hV (quiet_below (value_any a u x V (hr.1 h) (ha.later hV) hx))
    rw [h]; exact this
  have HB : Hid (∀ V x, Below w.heap.size w V → x ≤ 65535 → s = true → Calls Try.prog 40 #[v, .int .i64 (x : Nat)] V fun e w' => e = .returned (.int .i64 (ev s b x)) ∧ Below w.heap.size w w') := fun V x hV hx h => by
    have := Below.call hV (quiet_below (value_any b v x V (hs.1 h) (hb.later hV) hx))
    rw [h]; exact this
  have HR1 := Lib.hid (ev_rng hr)
  have HR2 := Lib.hid (ev_rng hs)
  have HT := Lib.hid (errTo_rng (ev_rng hr) (ev_rng hs))
  have Z1 : Hid (∀ x, r = false → ev r a x = 0) := fun x h => by rw [h]; rfl
  have Z2 : Hid (∀ x, s = false → ev s b x = 0) := fun x h => by rw [h]; rfl
  obtain ⟨pa, la, rfl, _⟩ := ha
  obtain ⟨pb, lb, rfl, _⟩ := hb
  clear hr hs
  generalize ev r a = f at HA HR1 HT Z1 ⊢
  generalize ev s b = g at HB HR2 HT Z2 ⊢
  generalize hq : a.length = q at HA HU ⊢
  generalize hq2 : b.length = q2 at HB HV ⊢
  have HQ := Lib.hid hq; clear hq
  have HQ2 := Lib.hid hq2; clear hq2
  obtain ⟨N, hN⟩ : ∃ N : Nat, N = 65536 := ⟨_, rfl⟩
  have HN := Lib.hid hN; clear hN
  go_enter Try.func33, Try.ntmps33
  go_upto_region 2 with (go_at_call 19; (with_reducible refine HU.out.mono ?_); rintro e w1 ⟨rfl, h1⟩; have B1 := Lib.hid h1; clear h1)
  go_wp2_with (go_at_call 19; (with_reducible refine (HV.out _ B1.out).mono ?_); rintro e w2 ⟨rfl, h2⟩; have B2 := Lib.hid h2; clear h2)
  clear B1 HU HV
  go_loopw [7, 8] (fun m i wr => ∃ k : Nat, k ≤ N ∧ i = .int .i64 k ∧ m = .int .i64 (errTo f g k) ∧ Hid (Below w.heap.size w wr)) (fun _ i _ => N - (intOf i).toNat)
  case atStart => exact ⟨0, by omega, rfl, rfl, B2⟩
  case round =>
    obtain ⟨k, hk, rfl, rfl, HW⟩ := hrel
    have ht := HT.out k (by rw [← HN.out]; exact hk)
    have hmx : ∀ (ts : Array TypeId) (t : TypeId) (w : World), (Builtin.max_ ts t #[.int .i64 (errTo f g k), .int .i64 (f k - g k), .int .i64 (g k - f k)]).run Try.prog w = .ok (.int .i64 (errTo f g (k + 1))) w := fun ts t w => by
      rw [run_max_int3]; rfl
    by_cases hlt : k < N
    · have hN1 : k < 65536 := by rw [← HN.out]; exact hlt
      have hlt2 : (k : Int) ≤ 65535 := by omega
      have h1 := HR1.out k (by omega)
      have h2 := HR2.out k (by omega)
      have C1 := Lib.hid (fun V hV => HA.out V k hV (by omega))
      have C2 := Lib.hid (fun V hV => HB.out V k hV (by omega))
      have z1 := Z1.out k
      have z2 := Z2.out k
      clear hN1
      generalize hT2 : errTo f g (k + 1) = t2 at hmx
      have HT2 := Lib.hid hT2; clear hT2
      generalize hT : errTo f g k = t at ht hmx ⊢
      have HT1 := Lib.hid hT; clear hT
      generalize f k = y at h1 C1 hmx z1
      generalize g k = z at h2 C2 hmx z2
      obtain ⟨hy0, hy1⟩ := h1
      obtain ⟨hz0, hz1⟩ := h2
      obtain ⟨ht0, ht1⟩ := ht
      cases r
      · obtain rfl := z1 rfl
        clear C1 z1
        cases s
        · obtain rfl := z2 rfl
          clear C2 z2
          simp only [Int.sub_self] at hmx
          go_wp2_with fail
          go_roundw
          case rel => exact ⟨k + 1, by omega, by go_num, by rw [HT2.out], HW⟩
          case measure => simp [intOf]; omega
        · clear z2
          have D2 := Lib.hid (C2.out wr HW.out rfl)
          clear C2
          simp only [Int.zero_sub, Int.sub_zero] at hmx
          go_wp2_with (go_at_call 40; (with_reducible refine D2.out.mono ?_); rintro e w3 ⟨rfl, h3⟩; have B3 := Lib.hid h3; clear h3)
          go_roundw
          case rel => exact ⟨k + 1, by omega, by go_num, by rw [HT2.out], B3⟩
          case measure => simp [intOf]; omega
      · clear z1
        have D1 := Lib.hid (C1.out wr HW.out rfl)
        clear C1
        cases s
        · obtain rfl := z2 rfl
          clear C2 z2
          simp only [Int.zero_sub, Int.sub_zero] at hmx
          go_wp2_with (go_at_call 40; (with_reducible refine D1.out.mono ?_); rintro e w3 ⟨rfl, h3⟩; have B3 := Lib.hid h3; clear h3)
          go_roundw
          case rel => exact ⟨k + 1, by omega, by go_num, by rw [HT2.out], B3⟩
          case measure => simp [intOf]; omega
        · clear z2
          have D2 := Lib.hid (fun V hV => C2.out V hV rfl)
          clear C2
          go_upto_region 11 with (go_at_call 40; (with_reducible refine D1.out.mono ?_); rintro e w3 ⟨rfl, h3⟩; have B3 := Lib.hid h3; clear h3)
          go_wp2_with (go_at_call 40; (with_reducible refine (D2.out _ B3.out).mono ?_); rintro e w4 ⟨rfl, h4⟩; have B4 := Lib.hid h4; clear h4)
          go_roundw
          case rel => exact ⟨k + 1, by omega, by go_num, by rw [HT2.out], B4⟩
          case measure => simp [intOf]; omega
    · have hN1 : k = 65536 := by have := HN.out; omega
      have HX : Hid (errTo f g k = err f g) := by rw [hN1]; rfl
      have hge : ¬ (k : Int) ≤ 65535 := by omega
      clear hN1
      generalize hT : errTo f g k = t at HX ht hmx ⊢
      have HT1 := Lib.hid hT; clear hT hmx
      go_wp2
      go_ret
      exact ⟨ret_int HX.out, HW.out⟩
end Go.Proofs.Ytdpcciidnkchfaa
