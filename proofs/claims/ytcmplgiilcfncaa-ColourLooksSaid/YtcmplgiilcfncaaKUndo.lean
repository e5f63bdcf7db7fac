/-
  Whether two matrices nearly undo each other.
-/
import Derived.Test.YtcmplgiilcfncaaKSpace
namespace Go.Proofs.Ytcmplgiilcfncaa.K
open Go.RowKit
variable {W w w' : World} {L : List (Nat × Obj)}

def M9.at (m : M9) : Nat → Int
  | 0 => m.m0
  | 1 => m.m1
  | 2 => m.m2
  | 3 => m.m3
  | 4 => m.m4
  | 5 => m.m5
  | 6 => m.m6
  | 7 => m.m7
  | _ => m.m8
theorem M9.en {m : M9} (h : EnM m) (j : Nat) : En (m.at j) := by
  obtain ⟨h0, h1, h2, h3, h4, h5, h6, h7, h8⟩ := h
  unfold M9.at
  split <;> assumption
theorem has_at {b : Nat} {m : M9} (h : Has w b 0 m.l) {j : Nat} (hj : j < 9) : w.cell? ⟨b, j, none⟩ = some (.int .i64 (m.at j)) := by
  have h2 := fun v hv => h j v hv
  rw [Nat.zero_add] at h2
  rcases (by omega : j = 0 ∨ j = 1 ∨ j = 2 ∨ j = 3 ∨ j = 4 ∨ j = 5 ∨ j = 6 ∨ j = 7 ∨ j = 8) with rfl | rfl | rfl | rfl | rfl | rfl | rfl | rfl | rfl <;> exact h2 _ rfl
def dot (f t : M9) (i k : Nat) : Int := f.at (3 * i) * t.at k + f.at (3 * i + 1) * t.at (k + 3) + f.at (3 * i + 2) * t.at (k + 6)
def ent (f t : M9) (i k : Nat) : Int := dot f t i k - (if i = k then 16777216 else 0)
def OkE (f t : M9) (i k : Nat) : Prop := -32768 ≤ ent f t i k ∧ ent f t i k ≤ 32768
def Und (f t : M9) : Prop := ∀ i, i < 3 → ∀ k, k < 3 → OkE f t i k
theorem prod_en {a x : Int} (ha : En a) (hx : En x) : ∃ p, a * x = p ∧ IntKind.i64.wrap (a * x) = p ∧ wrap64 (a * x) = p ∧ -4294967296 ≤ p ∧ p ≤ 4294967296 := by
  have m := mul_abs (a := a) (b := x) (A := 65536) (B := 65536) ha.1 ha.2 hx.1 hx.2
  refine ⟨_, rfl, wr_in (by omega), wrap_in (by omega), by omega, by omega⟩
theorem dot_facts {f t : M9} (hf : EnM f) (ht : EnM t) (i k : Nat) : ∃ p q r, f.at (3 * i) * t.at k = p ∧ f.at (3 * i + 1) * t.at (k + 3) = q ∧ f.at (3 * i + 2) * t.at (k + 6) = r ∧
    (IntKind.i64.wrap (f.at (3 * i) * t.at k) = p ∧ IntKind.i64.wrap (f.at (3 * i + 1) * t.at (k + 3)) = q ∧ IntKind.i64.wrap (f.at (3 * i + 2) * t.at (k + 6)) = r) ∧
    (wrap64 (f.at (3 * i) * t.at k) = p ∧ wrap64 (f.at (3 * i + 1) * t.at (k + 3)) = q ∧ wrap64 (f.at (3 * i + 2) * t.at (k + 6)) = r) ∧
    dot f t i k = p + q + r ∧ -12884901888 ≤ p + q + r ∧ p + q + r ≤ 12884901888 ∧ -8589934592 ≤ p + q ∧ p + q ≤ 8589934592 := by
  obtain ⟨p, hp, p1, p2, p3, p4⟩ := prod_en (M9.en hf (3 * i)) (M9.en ht k)
  obtain ⟨q, hq, q1, q2, q3, q4⟩ := prod_en (M9.en hf (3 * i + 1)) (M9.en ht (k + 3))
  obtain ⟨r, hr, r1, r2, r3, r4⟩ := prod_en (M9.en hf (3 * i + 2)) (M9.en ht (k + 6))
  exact ⟨p, q, r, hp, hq, hr, ⟨p1, q1, r1⟩, ⟨p2, q2, r2⟩, by unfold dot; rw [hp, hq, hr], by omega, by omega, by omega, by omega⟩
set_option maxRecDepth 100000 in
set_option maxHeartbeats 16000000 in
theorem undo_any (f t : M9) (un : Bool) (w : World) (hf : EnM f) (ht : EnM t) (hu : un = true ↔ Und f t) : Calls Try.prog 56 #[f.v, t.v] w fun e w' => e = .returned (.bool un) ∧ Below w.heap.size w w' := by
  have HU := Lib.hid hu
  have HD := Lib.hid (fun i k => dot_facts hf ht i k)
  clear hu hf ht
  go_enter Try.func56, Try.ntmps56
  go_upto_region 1 with fail
  have hs := ((St.start w).alloc (.cells f.l.toArray 44)).alloc (.cells t.l.toArray 44)
  simp only [World.size_alloc] at hs
  generalize (w.alloc (.cells f.l.toArray 44)).alloc (.cells t.l.toArray 44) = w1 at hs ⊢
  generalize hb : w.heap.size = b at hs ⊢
  have HS := Lib.hid hs; clear hs
  have HH : Hid (∀ V, St w [(b + 1, .cells t.l.toArray 44), (b, .cells f.l.toArray 44)] V → Has V b 0 f.l ∧ Has V (b + 1) 0 t.l) := fun V h => ⟨St.has h (t := 44) (by simp), St.has h (t := 44) (by simp)⟩
  go_upto_region 2 with fail
  go_loopw [8] (fun v8 wr => ∃ i : Nat, i ≤ 3 ∧ v8 = .int .i64 i ∧ Hid (∀ r, r < i → ∀ c, c < 3 → OkE f t r c) ∧ Hid (St w [(b + 1, .cells t.l.toArray 44), (b, .cells f.l.toArray 44)] wr)) (fun i _ => 3 - (intOf i).toNat)
  case atStart => exact ⟨0, by omega, rfl, fun r hr => absurd hr (Nat.not_lt_zero _), HS.out⟩
  case round =>
    obtain ⟨i, hi, rfl, HA, HT⟩ := hrel
    by_cases hlt : i < 3
    · go_upto_region 5 with fail
      go_loopw [11] (fun v11 wr => ∃ k : Nat, k ≤ 3 ∧ v11 = .int .i64 k ∧ Hid (∀ c, c < k → OkE f t i c) ∧ Hid (St w [(b + 1, .cells t.l.toArray 44), (b, .cells f.l.toArray 44)] wr)) (fun i _ => 3 - (intOf i).toNat)
      case atStart => exact ⟨0, by omega, rfl, fun r hr => absurd hr (Nat.not_lt_zero _), HT⟩
      case round =>
        obtain ⟨k, hk, rfl, HB, HV⟩ := hrel
        by_cases hkt : k < 3
        · obtain ⟨p, q, r, hp, hq, hr, ⟨p1, q1, r1⟩, ⟨p2, q2, r2⟩, hdot, s1, s2, s3, s4⟩ := HD.out i k
          have hc := HH.out _ HV.out
          have c0 := has_at hc.1 (j := 3 * i) (by omega)
          have c1 := has_at hc.1 (j := 3 * i + 1) (by omega)
          have c2 := has_at hc.1 (j := 3 * i + 2) (by omega)
          have d0 := has_at hc.2 (j := k) (by omega)
          have d1 := has_at hc.2 (j := k + 3) (by omega)
          have d2 := has_at hc.2 (j := k + 6) (by omega)
          have he : Hid (OkE f t i k ↔ (-32768 ≤ p + q + r - (if i = k then 16777216 else 0) ∧ p + q + r - (if i = k then 16777216 else 0) ≤ 32768)) := by unfold Hid OkE ent; rw [hdot]
          generalize f.at (3 * i) = x0 at *
          generalize f.at (3 * i + 1) = x1 at *
          generalize f.at (3 * i + 2) = x2 at *
          generalize t.at k = y0 at *
          generalize t.at (k + 3) = y1 at *
          generalize t.at (k + 6) = y2 at *
          have g1 : IntKind.i64.wrap (p + q) = p + q := wr_in (by omega)
          have g2 : IntKind.i64.wrap (p + q + r) = p + q + r := wr_in (by omega)
          have w0 : IntKind.i64.wrap (3 * (i : Int)) = 3 * i := wr_in (by omega)
          have w1 : IntKind.i64.wrap (3 * (i : Int) + 1) = 3 * i + 1 := wr_in (by omega)
          have w2 : IntKind.i64.wrap (3 * (i : Int) + 2) = 3 * i + 2 := wr_in (by omega)
          have w3 : IntKind.i64.wrap ((k : Int) + 3) = k + 3 := wr_in (by omega)
          have w6 : IntKind.i64.wrap ((k : Int) + 6) = k + 6 := wr_in (by omega)
          have b0 : (0 : Int) ≤ 3 * i := by omega
          have b1 : (3 : Int) * i < 9 := by omega
          have b2 : (0 : Int) ≤ 3 * i + 1 := by omega
          have b3 : (3 : Int) * i + 1 < 9 := by omega
          have b4 : (0 : Int) ≤ 3 * i + 2 := by omega
          have b5 : (3 : Int) * i + 2 < 9 := by omega
          have b6 : (0 : Int) ≤ k := by omega
          have b7 : (k : Int) < 9 := by omega
          have b8 : (0 : Int) ≤ (k : Int) + 3 := by omega
          have b9 : (k : Int) + 3 < 9 := by omega
          have b10 : (0 : Int) ≤ (k : Int) + 6 := by omega
          have b11 : (k : Int) + 6 < 9 := by omega
          clear hc hp hq hr hdot
          go_upto_region 7 with fail
          go_quiet (fail)
          have HV2 : Hid (St w [(b + 1, .cells t.l.toArray 44), (b, .cells f.l.toArray 44)] (wr.drewN nq)) := HV.out.drewN nq
          generalize wr.drewN nq = wz at HV2 ⊢
          generalize p + q + r = z at he s1 s2 g2 ⊢
          clear p1 q1 r1 p2 q2 r2 g1 g2 w0 w1 w2 w3 w6 b0 b1 b2 b3 b4 b5 b6 b7 b8 b9 b10 b11 c0 c1 c2 d0 d1 d2 HV HD HT HH
          by_cases hik : i = k
          · have y1 : ((i : Int) == k) = true := by simp; omega
            have y2 : IntKind.i64.wrap (z - 16777216) = z - 16777216 := wr_in (by omega)
            by_cases hok : OkE f t i k
            · obtain ⟨o1, o2⟩ := he.out.1 hok
              have HB2 : Hid (∀ c, c < k + 1 → OkE f t i c) := fun c hc => by
                by_cases hck : c = k
                · rw [hck]; exact hok
                · exact HB.out c (by omega)
              rw [if_pos hik] at o1 o2
              have x1 : decide (z - 16777216 < -32768) = false := by simp; omega
              have x2 : decide (32768 < z - 16777216) = false := by simp; omega
              clear o1 o2 he HB hok s1 s2 s3 s4
              go_wp2_with fail
              go_roundw
              case rel => exact ⟨k + 1, by omega, by go_num, HB2, HV2⟩
              case measure => simp [intOf]; omega
            · obtain rfl : un = false := by
                cases un with
                | false => rfl
                | true => exact absurd (HU.out.1 rfl i hlt k hkt) hok
              have o := mt he.out.2 hok
              rw [if_pos hik] at o
              by_cases x1 : z - 16777216 < -32768
              · have x3 : decide (z - 16777216 < -32768) = true := by simp; omega
                clear o he HB hok s1 s2 s3 s4 x1
                go_wp2_with fail
                go_ret
                exact ⟨ret_bool rfl, HV2.out.below⟩
              · have x2 : decide (32768 < z - 16777216) = true := by simp; omega
                have x3 : decide (z - 16777216 < -32768) = false := by simp; omega
                clear o he HB hok s1 s2 s3 s4 x1
                go_wp2_with fail
                go_ret
                exact ⟨ret_bool rfl, HV2.out.below⟩
          · have y1 : ((i : Int) == k) = false := by simp; omega
            by_cases hok : OkE f t i k
            · obtain ⟨o1, o2⟩ := he.out.1 hok
              have HB2 : Hid (∀ c, c < k + 1 → OkE f t i c) := fun c hc => by
                by_cases hck : c = k
                · rw [hck]; exact hok
                · exact HB.out c (by omega)
              rw [if_neg hik] at o1 o2
              have x1 : decide (z < -32768) = false := by simp; omega
              have x2 : decide (32768 < z) = false := by simp; omega
              clear o1 o2 he HB hok s1 s2 s3 s4
              go_wp2_with fail
              go_roundw
              case rel => exact ⟨k + 1, by omega, by go_num, HB2, HV2⟩
              case measure => simp [intOf]; omega
            · obtain rfl : un = false := by
                cases un with
                | false => rfl
                | true => exact absurd (HU.out.1 rfl i hlt k hkt) hok
              have o := mt he.out.2 hok
              rw [if_neg hik] at o
              by_cases x1 : z < -32768
              · have x3 : decide (z < -32768) = true := by simp; omega
                clear o he HB hok s1 s2 s3 s4 x1
                go_wp2_with fail
                go_ret
                exact ⟨ret_bool rfl, HV2.out.below⟩
              · have x2 : decide (32768 < z) = true := by simp; omega
                have x3 : decide (z < -32768) = false := by simp; omega
                clear o he HB hok s1 s2 s3 s4 x1
                go_wp2_with fail
                go_ret
                exact ⟨ret_bool rfl, HV2.out.below⟩
        · obtain rfl : k = 3 := by omega
          have HA2 : Hid (∀ r, r < i + 1 → ∀ c, c < 3 → OkE f t r c) := fun r hr c hc => by
            by_cases hri : r = i
            · rw [hri]; exact HB.out c hc
            · exact HA.out r (by omega) c hc
          go_wp2_with fail
          go_roundw
          case rel => exact ⟨i + 1, by omega, by go_num, HA2, HV⟩
          case measure => simp [intOf]; omega
    · obtain rfl : i = 3 := by omega
      obtain rfl : un = true := HU.out.2 HA.out
      go_wp2_with fail
      go_ret
      exact ⟨ret_bool rfl, by have h := HT.out.below; rw [hb] at h; exact h⟩
end Go.Proofs.Ytcmplgiilcfncaa.K
