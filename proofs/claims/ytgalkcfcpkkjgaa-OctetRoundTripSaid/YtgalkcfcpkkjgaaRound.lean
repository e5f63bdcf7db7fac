/-
  OctetRoundTrip: what is encoded one after the other is decoded unchanged. No conditions.
-/
import Derived.Test.YtgalkcfcpkkjgaaState
import Derived.Test.YtgalkcfcpkkjgaaOrder
import Derived.Deep.DeepCutAuto
import Derived.Deep.RegionHeld3
import Derived.ChangeSlices
import Derived.SliceStrings
namespace Go.Proofs.Ytgalkcfcpkkjgaa.Round
open Go.ChangeShapes Go.WideShapes Go.ChangeAt Go.RowKit
open Go.ChangeMaps (open_string shut_string)

def encI (zs : List Int) : Nat → List UInt8
  | 0 => []
  | j + 1 => encI zs j ++ (Leb.putN (u64of (zs.getD j 0)) (j % 9) ++ Leb.varN (u64of (zs.getD j 0)))
def few (s : ByteArray) : List UInt8 := s.data.toList.take 300
def encT (ts : List ByteArray) : Nat → List UInt8
  | 0 => []
  | j + 1 => encT ts j ++ (Leb.varN (few (ts.getD j ByteArray.empty)).length ++ few (ts.getD j ByteArray.empty))
theorem encI_le (zs : List Int) {i k : Nat} (h : i ≤ k) : ∃ r, encI zs k = encI zs i ++ r := by
  induction k with
  | zero => exact ⟨[], by rw [Nat.le_zero.1 h]; simp⟩
  | succ k ih =>
    by_cases he : i = k + 1
    · exact ⟨[], by rw [he]; simp⟩
    · obtain ⟨r, hr⟩ := ih (by omega)
      exact ⟨_, by rw [encI, hr, List.append_assoc]⟩
theorem encT_le (ts : List ByteArray) {i k : Nat} (h : i ≤ k) : ∃ r, encT ts k = encT ts i ++ r := by
  induction k with
  | zero => exact ⟨[], by rw [Nat.le_zero.1 h]; simp⟩
  | succ k ih =>
    by_cases he : i = k + 1
    · exact ⟨[], by rw [he]; simp⟩
    · obtain ⟨r, hr⟩ := ih (by omega)
      exact ⟨_, by rw [encT, hr, List.append_assoc]⟩
theorem encI_len (zs : List Int) (j : Nat) : (encI zs j).length ≤ 18 * j := by
  induction j with
  | zero => simp [encI]
  | succ j ih =>
    have h1 := Leb.varN_len64 (u64of_lt (zs.getD j 0))
    have h2 := Leb.putN_len (u64of (zs.getD j 0)) (j % 9)
    rw [encI, List.length_append, List.length_append, h2]; omega
theorem few_len (s : ByteArray) : (few s).length ≤ 300 := by unfold few; rw [List.length_take]; omega
theorem encT_len (ts : List ByteArray) (j : Nat) : (encT ts j).length ≤ 310 * j := by
  induction j with
  | zero => simp [encT]
  | succ j ih =>
    have h0 := few_len (ts.getD j ByteArray.empty)
    have h1 := Leb.varN_len64 (u := (few (ts.getD j ByteArray.empty)).length) (by omega)
    rw [encT, List.length_append, List.length_append]; omega

/-- Num at an encoding of q bytes -/
theorem nm_at {A R : List UInt8} {u q : Nat} (hq : q ≤ 8) : nm (A ++ (Leb.putN u q ++ R)) A.length false (q : Int) = (i64of (u % 256 ^ q), A.length + q, false) := by
  have hc : clampI (q : Int) = q := by unfold clampI; omega
  unfold nm
  rw [hc, tk_ok q (by simp [Leb.putN_len]), List.drop_left, List.take_left' (Leb.putN_len u q), Leb.be_put]
/-- Var at a form -/
theorem vr_at {A R : List UInt8} {u : Nat} (hu : u < 2 ^ 64) {p : Nat} (hp : p = A.length) : vr (A ++ (Leb.varN u ++ R)) p false = (i64of u, A.length + (Leb.varN u).length, false) := by
  subst hp
  unfold vr
  rw [if_neg (by simp), List.drop_left, Leb.dec_var hu]; rfl
theorem tx_at {A R t : List UInt8} (ht : t.length ≤ 300) : tx (A ++ ((Leb.varN t.length ++ t) ++ R)) A.length false = (t, A.length + (Leb.varN t.length ++ t).length, false) := by
  have h1 : vr (A ++ ((Leb.varN t.length ++ t) ++ R)) A.length false = ((t.length : Int), A.length + (Leb.varN t.length).length, false) := by
    rw [List.append_assoc, vr_at (by omega) rfl]; unfold i64of; rw [if_pos (by omega)]
  have h2 : tk (A ++ ((Leb.varN t.length ++ t) ++ R)) (A.length + (Leb.varN t.length).length) false (t.length : Int) = (t, A.length + (Leb.varN t.length).length + t.length, false) := by
    rw [tk_ok t.length (by simp; omega)]
    rw [show A ++ ((Leb.varN t.length ++ t) ++ R) = (A ++ Leb.varN t.length) ++ (t ++ R) from by simp, show A.length + (Leb.varN t.length).length = (A ++ Leb.varN t.length).length from by simp, List.drop_left, List.take_left]
  unfold tx
  rw [h1]
  simp only
  rw [h2, if_neg (by simp), List.length_append, Nat.add_assoc]

theorem full (z : Int) (h1 : -9223372036854775808 ≤ z) (h2 : z ≤ 9223372036854775807) : i64of (u64of z) = z := by unfold i64of u64of; split <;> omega
/-- the low q bytes of z, as Num gives them -/
def low (z : Int) (q : Nat) : Int := i64of (u64of z % 256 ^ q)
theorem low8 (z : Int) (h1 : -9223372036854775808 ≤ z) (h2 : z ≤ 9223372036854775807) : low z 8 = z := by
  unfold low
  rw [Nat.mod_eq_of_lt (Nat.lt_of_lt_of_le (u64of_lt z) (by decide)), full z h1 h2]
theorem low_mask (z : Int) (q : Nat) (h : q < 8) : bits .and .i64 z (wrap64 (wrap64 (2 ^ (8 * q)) - 1)) = low z q := by
  have hq : q = 0 ∨ q = 1 ∨ q = 2 ∨ q = 3 ∨ q = 4 ∨ q = 5 ∨ q = 6 ∨ q = 7 := by omega
  have key : wrap64 (wrap64 (2 ^ (8 * q)) - 1) = ((2 ^ (8 * q) - 1 : Nat) : Int) := by
    rcases hq with rfl | rfl | rfl | rfl | rfl | rfl | rfl | rfl <;> decide +kernel
  rw [key, Order.i64_mask (8 * q) (by omega)]
  unfold low i64of u64of
  rcases hq with rfl | rfl | rfl | rfl | rfl | rfl | rfl | rfl <;> simp <;> omega

theorem put_small (n : Int) (q : Nat) (hq : q ≤ 8) (w : World) : Calls Try.prog 14 #[.int .i64 n, .int .i64 q] w fun e w' => e = .returned (.string (str (Leb.putN (u64of n) q))) ∧ Below w.heap.size w w' := by
  have h := put_any n q w
  have hc : clampI (q : Int) = q := by unfold clampI; omega
  rw [hc] at h; exact h
theorem keepC {P : Program} {f : FuncId} {args : Array Value} {r v : Value} {W w1 : World} {p : Addr} (h : Below W.heap.size W w1 ∧ w1.cell? p = some v) (hp : p.block < W.heap.size)
    (hc : Calls P f args w1 fun e w' => e = .returned r ∧ Below w1.heap.size w1 w') : Calls P f args w1 fun e w' => e = .returned r ∧ (Below W.heap.size W w' ∧ w'.cell? p = some v) :=
  hc.mono fun _ _ ⟨h1, h2⟩ => ⟨h1, h.1.trans (h2.mono h.1.size), by rw [h2.cell (Nat.lt_of_lt_of_le hp h.1.size)]; exact h.2⟩
theorem keepD {W w1 : World} {p : Addr} {v : Value} (h : Below W.heap.size W w1 ∧ w1.cell? p = some v) : Below W.heap.size W w1.drew ∧ w1.drew.cell? p = some v := ⟨h.1.drew, h.2⟩

theorem text_few {t x : ByteArray} (h : x = str (few t)) (w : World) : Calls Try.prog 18 #[.string x] w fun e w' => e = .returned (.string (str (Leb.varN (few t).length ++ few t))) ∧ Below w.heap.size w w' := by
  subst h
  have hl := few_len t
  have h := text_any (str (few t)) w (by rw [str_size]; omega)
  rw [str_size, str_toList] at h; exact h
theorem few_short {t : ByteArray} (h : t.size ≤ 300) : t = str (few t) := by
  apply ByteArray.ext; apply Array.ext'
  unfold few str
  rw [List.take_of_length_le (by rw [Array.length_toList]; exact h)]
theorem few_all {t : ByteArray} (h : t.size ≤ 300) : t.extract 0 t.size = str (few t) := by
  rw [← few_short h]; apply ByteArray.ext; simp
theorem few_cut (t : ByteArray) : t.extract 0 300 = str (few t) := by
  have := extract_str t 0 300
  rw [Nat.zero_add, List.drop_zero] at this; exact this

set_option maxHeartbeats 20000000 in
set_option maxRecDepth 100000 in
theorem walk (zs : List Int) (ts : List ByteArray) (po pt : Option Addr) (n m c1 c2 k l : Nat) (w : World) (hk : k = min n 30) (hl : l = min m 10) (hn : n ≤ 9223372036854775807) (hm : m ≤ 9223372036854775807)
    (HI : Hid (∀ i, i < n → ∃ b off, po = some ⟨b, off, none⟩ ∧ b < w.heap.size ∧ w.cell? ⟨b, off + i, none⟩ = some (.int .i64 (zs.getD i 0)) ∧ -9223372036854775808 ≤ zs.getD i 0 ∧ zs.getD i 0 ≤ 9223372036854775807))
    (HT : Hid (∀ i, i < m → ∃ b off, pt = some ⟨b, off, none⟩ ∧ b < w.heap.size ∧ w.cell? ⟨b, off + i, none⟩ = some (.string (ts.getD i ByteArray.empty)) ∧ (ts.getD i ByteArray.empty).size ≤ 9223372036854775807)) :
    Calls Try.prog 5 #[.slice po n c1, .slice pt m c2] w fun e w' => e = .returned (.bool true) ∧ Below w.heap.size w w' := by
  have HK := Lib.hid hk; clear hk
  have HL := Lib.hid hl; clear hl
  go_enter Try.func5, Try.ntmps5
  go_wp2_with (go_at_call 13; (with_reducible refine (sane_any _).mono ?_); rintro e w1 ⟨rfl, hb⟩)
  have HB0 := Lib.hid hb; clear hb
  go_loopw [7, 6] (fun i s wr => ∃ j : Nat, Hid (j ≤ k) ∧ i = .int .i64 j ∧ s = .string (str (encI zs j)) ∧ Hid (Below w.heap.size w wr)) (fun i _ _ => 30 - (intOf i).toNat)
  case atStart => exact ⟨0, Nat.zero_le _, rfl, rfl, HB0⟩
  case round =>
    clear HB0
    obtain ⟨j, HJ, rfl, rfl, HB⟩ := hrel
    have hj2 := HJ.out
    have hnn : (n : Int) ≤ 9223372036854775807 := by omega
    have j0 : (0 : Int) ≤ j := by omega
    have j30 : (j : Int) ≤ 30 := by have := HK.out; omega
    go_upto_region 4 with fail
    go_cut [21] (fun v wx => v = .bool (decide (j < k)) ∧ wx = wr)
    case first =>
      by_cases h1 : (j : Int) < n
      · by_cases h2 : (j : Int) < 30
        · go_wp2_with fail
          go_meet
          exact ⟨by rw [decide_eq_true (by have := HK.out; omega)], rfl⟩
        · go_wp2_with fail
          go_meet
          exact ⟨by rw [decide_eq_false (by have := HK.out; omega)], rfl⟩
      · go_wp2_with fail
        go_meet
        exact ⟨by rw [decide_eq_false (by have := HK.out; omega)], rfl⟩
    case rest =>
    obtain ⟨rfl, rfl⟩ := hcut
    by_cases hjk : j < k
    · obtain ⟨b, off, rfl, hbs, hc, hz1, hz2⟩ := HI.out j (by have := HK.out; omega)
      rw [decide_eq_true hjk]
      have hS : Below w.heap.size w wc ∧ wc.cell? ⟨b, off + j, none⟩ = some (.int .i64 (zs.getD j 0)) := ⟨HB.out, by rw [HB.out.cell (p := ⟨b, off + j, none⟩) hbs]; exact hc⟩
      have hcw := hS.2
      obtain ⟨q, hq, hq8⟩ : ∃ q : Nat, q = j % 9 ∧ q ≤ 8 := ⟨j % 9, rfl, by omega⟩
      have hmod : (j : Int).tmod 9 = q := by rw [Int.tmod_eq_emod_of_nonneg (by omega)]; omega
      have HE : Hid (encI zs (j + 1) = encI zs j ++ (Leb.putN (u64of (zs.getD j 0)) q ++ Leb.varN (u64of (zs.getD j 0)))) := by unfold Hid; rw [encI, hq]
      have hA : (str (encI zs j)).size ≤ 1000 := by have := encI_len zs j; have := HK.out; rw [str_size]; omega
      have hP : (str (Leb.putN (u64of (zs.getD j 0)) q)).size ≤ 8 := by rw [str_size, Leb.putN_len]; omega
      have hV : (str (Leb.varN (u64of (zs.getD j 0)))).size ≤ 10 := var_size _
      have HQ := Lib.hid hq; clear hq hc hn hm
      have jn : (j : Int) < n := by have := HK.out; omega
      have hs1 : ¬ 9223372036854775807 < (str (encI zs j)).size + (str (Leb.putN (u64of (zs.getD j 0)) q)).size := by omega
      have hs2 : ¬ 9223372036854775807 < (str (encI zs j)).size + (str (Leb.putN (u64of (zs.getD j 0)) q)).size + (str (Leb.varN (u64of (zs.getD j 0)))).size := by omega
      clear hA hP hV
      generalize zs.getD j 0 = z at hS hcw hz1 hz2 HE hs1 hs2
      go_wp2_with fail
      go_region_held3 (fun w' => Below w.heap.size w w' ∧ w'.cell? ⟨b, off + j, none⟩ = some (.int .i64 z)) (repeat (first | assumption | apply keepD)) (first
        | (go_at_call 14; (with_reducible refine (keepC (W := w) (p := ⟨b, off + j, none⟩) (v := .int .i64 z) ?_ hbs (put_small _ q hq8 _)).mono ?_); (focus (repeat (first | assumption | apply keepD))); rintro e w' ⟨rfl, hm'⟩)
        | (go_at_call 16; (with_reducible refine (keepC (W := w) (p := ⟨b, off + j, none⟩) (v := .int .i64 z) ?_ hbs (var_any _ _)).mono ?_); (focus (repeat (first | assumption | apply keepD))); rintro e w' ⟨rfl, hm'⟩))
      go_wp2
      go_roundw
      case rel => exact ⟨j + 1, by have := HK.out; unfold Hid; omega, by go_num, by rw [HE.out, ← str_append, ← str_append]; simp [ByteArray.append_assoc], hm'.1⟩
      case measure => have := HK.out; simp [intOf]; omega
    · obtain rfl : j = k := by omega
      rw [decide_eq_false hjk]
      have HB1 := HB
      clear HB hjk hj2 HJ j30 j0
      go_wp2_with fail
      go_loopw [8, 6] (fun i s wr => ∃ x : Nat, Hid (x ≤ l) ∧ i = .int .i64 x ∧ s = .string (str (encI zs j ++ encT ts x)) ∧ Hid (Below w.heap.size w wr)) (fun i _ _ => 10 - (intOf i).toNat)
      case atStart => exact ⟨0, Nat.zero_le _, rfl, by simp [encT], HB1⟩
      case round =>
        clear HB1
        obtain ⟨x, HJ, rfl, rfl, HB⟩ := hrel
        have hj2 := HJ.out
        have hnn : (m : Int) ≤ 9223372036854775807 := by omega
        have x0 : (0 : Int) ≤ x := by omega
        have x30 : (x : Int) ≤ 10 := by have := HL.out; omega
        go_upto_region 8 with fail
        go_cut [46] (fun v wx => v = .bool (decide (x < l)) ∧ wx = wr)
        case first =>
          by_cases h1 : (x : Int) < m
          · by_cases h2 : (x : Int) < 10
            · go_wp2_with fail
              go_meet
              exact ⟨by rw [decide_eq_true (by have := HL.out; omega)], rfl⟩
            · go_wp2_with fail
              go_meet
              exact ⟨by rw [decide_eq_false (by have := HL.out; omega)], rfl⟩
          · go_wp2_with fail
            go_meet
            exact ⟨by rw [decide_eq_false (by have := HL.out; omega)], rfl⟩
        case rest =>
        obtain ⟨rfl, rfl⟩ := hcut
        by_cases hjk : x < l
        · obtain ⟨b, off, rfl, hbs, hc, hz⟩ := HT.out x (by have := HL.out; omega)
          rw [decide_eq_true hjk]
          have hS : Below w.heap.size w wc ∧ wc.cell? ⟨b, off + x, none⟩ = some (.string (ts.getD x ByteArray.empty)) := ⟨HB.out, by rw [HB.out.cell (p := ⟨b, off + x, none⟩) hbs]; exact hc⟩
          have hcw := hS.2
          have HE : Hid (encT ts (x + 1) = encT ts x ++ (Leb.varN (few (ts.getD x ByteArray.empty)).length ++ few (ts.getD x ByteArray.empty))) := rfl
          have xn : (x : Int) < m := by have := HL.out; omega
          have hf := few_len (ts.getD x ByteArray.empty)
          have hv := Leb.varN_len64 (u := (few (ts.getD x ByteArray.empty)).length) (by omega)
          have hs1 : ¬ 9223372036854775807 < (str (encI zs j ++ encT ts x)).size + (str (Leb.varN (few (ts.getD x ByteArray.empty)).length ++ few (ts.getD x ByteArray.empty))).size := by
            have h1 := encI_len zs j
            have h2 := encT_len ts x
            have h3 := HK.out
            have h4 := HL.out
            rw [str_size, str_size, List.length_append, List.length_append]; omega
          clear hc hv hf
          generalize ts.getD x ByteArray.empty = y at hS hcw hz HE hs1
          by_cases hy : y.size ≤ 300
          · have hx1 := Lib.hid (few_short hy)
            have hx2 := Lib.hid (few_all hy)
            have HY := Lib.hid hy; clear hy
            go_wp2_with fail
            have y3 : ((300 : Int) < y.size) = False := by have := HY.out; simp; omega
            go_region_held3 (fun w' => Below w.heap.size w w' ∧ w'.cell? ⟨b, off + x, none⟩ = some (.string y)) (repeat (first | assumption | apply keepD)) (first
              | (go_at_call 18; (with_reducible refine (keepC (W := w) (p := ⟨b, off + x, none⟩) (v := .string y) ?_ hbs (text_few (t := y) (by first | exact hx1.out | exact hx2.out) _)).mono ?_); (focus (repeat (first | assumption | apply keepD))); rintro e w' ⟨rfl, hm'⟩)
              | fail)
            go_wp2
            go_roundw
            case rel => exact ⟨x + 1, by have := HL.out; unfold Hid; omega, by go_num, by rw [HE.out, ← List.append_assoc, str_append], hm'.1⟩
            case measure => have := HL.out; simp [intOf]; omega
          · have hx3 := Lib.hid (few_cut y)
            have HY := Lib.hid hy; clear hy
            go_wp2_with fail
            have y3 : ((300 : Int) < y.size) = True := by have := HY.out; simp; omega
            have y5 : (300 : Int) ≤ y.size := by have := HY.out; omega
            go_region_held3 (fun w' => Below w.heap.size w w' ∧ w'.cell? ⟨b, off + x, none⟩ = some (.string y)) (repeat (first | assumption | apply keepD)) (first
              | (go_at_call 18; (with_reducible refine (keepC (W := w) (p := ⟨b, off + x, none⟩) (v := .string y) ?_ hbs (text_few (t := y) hx3.out _)).mono ?_); (focus (repeat (first | assumption | apply keepD))); rintro e w' ⟨rfl, hm'⟩)
              | fail)
            go_wp2
            go_roundw
            case rel => exact ⟨x + 1, by have := HL.out; unfold Hid; omega, by go_num, by rw [HE.out, ← List.append_assoc, str_append], hm'.1⟩
            case measure => have := HL.out; simp [intOf]; omega
        · obtain rfl : x = l := by omega
          rw [decide_eq_false hjk]
          have HB1 := HB
          have HSZ : Hid ((str (encI zs j ++ encT ts x)).size ≤ 9223372036854775807) := by
            have h1 := encI_len zs j
            have h2 := encT_len ts x
            have h3 := HK.out
            have h4 := HL.out
            unfold Hid; rw [str_size, List.length_append]; omega
          clear HB hjk hj2 HJ x30 x0
          go_wp2_with (go_at_call 22; (with_reducible refine (RSt.read (W := w) HB1.out _ HSZ.out).mono ?_); rintro e w2 ⟨rfl, hr, hbr⟩)
          have HR := Lib.hid hr; clear hr hbr HB1
          generalize wc.heap.size = g at HR ⊢
          go_loopw [10] (fun i wr => ∃ y : Nat, Hid (y ≤ j) ∧ i = .int .i64 y ∧ Hid (RSt w g (str (encI zs j ++ encT ts x)) (encI zs y).length false wr)) (fun i _ => 30 - (intOf i).toNat)
          case atStart => exact ⟨0, Nat.zero_le _, rfl, HR⟩
          case round =>
            clear HR
            obtain ⟨y, HJ, rfl, HB⟩ := hrel
            have hj2 := HJ.out
            have y0 : (0 : Int) ≤ y := by omega
            have y30 : (y : Int) ≤ 30 := by have := HK.out; omega
            go_upto_region 13 with fail
            go_cut [72] (fun v wx => v = .bool (decide (y < j)) ∧ wx = wr)
            case first =>
              by_cases h1 : (y : Int) < n
              · by_cases h2 : (y : Int) < 30
                · go_wp2_with fail
                  go_meet
                  exact ⟨by rw [decide_eq_true (by have := HK.out; omega)], rfl⟩
                · go_wp2_with fail
                  go_meet
                  exact ⟨by rw [decide_eq_false (by have := HK.out; omega)], rfl⟩
              · go_wp2_with fail
                go_meet
                exact ⟨by rw [decide_eq_false (by have := HK.out; omega)], rfl⟩
            case rest =>
            obtain ⟨rfl, rfl⟩ := hcut
            by_cases hjk : y < j
            · obtain ⟨b, off, rfl, hbs, hc, hz1, hz2⟩ := HI.out y (by have := HK.out; omega)
              rw [decide_eq_true hjk]
              have hcw : wc.cell? ⟨b, off + y, none⟩ = some (.int .i64 (zs.getD y 0)) := by rw [HB.out.below.cell (p := ⟨b, off + y, none⟩) hbs]; exact hc
              obtain ⟨q, hq, hq8⟩ : ∃ q : Nat, q = y % 9 ∧ q ≤ 8 := ⟨y % 9, rfl, by omega⟩
              have hmod : (y : Int).tmod 9 = q := by rw [Int.tmod_eq_emod_of_nonneg (by omega)]; omega
              have yn : (y : Int) < n := by have := HK.out; omega
              have HE : encI zs (y + 1) = encI zs y ++ (Leb.putN (u64of (zs.getD y 0)) q ++ Leb.varN (u64of (zs.getD y 0))) := by rw [encI, hq]
              have HLN : Hid ((encI zs y).length + q + (Leb.varN (u64of (zs.getD y 0))).length = (encI zs (y + 1)).length) := by
                unfold Hid; rw [HE, List.length_append, List.length_append, Leb.putN_len]; omega
              obtain ⟨r, hr⟩ := encI_le zs (show y + 1 ≤ j by omega)
              rw [HE] at hr
              have T1 : Hid (nm (str (encI zs j ++ encT ts x)).data.toList (encI zs y).length false (q : Int) = (low (zs.getD y 0) q, (encI zs y).length + q, false)) := by
                unfold Hid; rw [str_toList, hr, List.append_assoc, List.append_assoc, List.append_assoc]
                exact nm_at hq8
              have T2 : Hid (vr (str (encI zs j ++ encT ts x)).data.toList ((encI zs y).length + q) false = (zs.getD y 0, (encI zs (y + 1)).length, false)) := by
                have h1 := vr_at (A := encI zs y ++ Leb.putN (u64of (zs.getD y 0)) q) (R := r ++ encT ts x) (u64of_lt (zs.getD y 0)) (p := (encI zs y).length + q) (by rw [List.length_append, Leb.putN_len])
                rw [full _ hz1 hz2, List.length_append, Leb.putN_len, HLN.out] at h1
                unfold Hid; rw [str_toList, hr, ← h1]; simp only [List.append_assoc]
              have hm1 := low_mask (zs.getD y 0) q
              have hm2 := low8 (zs.getD y 0) hz1 hz2
              have HQ := Lib.hid hq
              clear hq hr HE HLN
              generalize zs.getD y 0 = z at hc hz1 hz2 hcw T1 T2 hm1 hm2
              generalize hlow : low z q = V at T1 hm1
              go_upto_if 81 with fail
              go_cut [11] (fun v wx => v = .int .i64 V ∧ RSt w g (str (encI zs j ++ encT ts x)) (encI zs y).length false wx)
              case first =>
                by_cases h8 : q = 8
                · subst h8
                  have hV : z = V := by rw [← hlow, hm2]
                  go_wp2_with fail
                  go_meet
                  exact ⟨by rw [hV], HB.out⟩
                · have q8 : (q : Int) < 8 := by omega
                  have q0 : (0 : Int) ≤ q := by omega
                  have hm1 := hm1 (by omega)
                  clear hm2
                  go_wp2_with fail
                  go_region
                  go_wp2_with fail
                  go_meet
                  exact ⟨rfl, HB.out.drew⟩
              case rest =>
              obtain ⟨rfl, hrs⟩ := hcut
              clear hm1 hm2 HB hcw
              have hcw := (hrs.below.cell (p := ⟨b, off + y, none⟩) hbs).trans hc
              go_wp2_with fail
              first
              | (go_region_with (first
                | (go_at_call 23; (with_reducible refine (RSt.num (W := w) ?_ T1.out).mono ?_); (focus (repeat (first | assumption | apply RSt.drew))); rintro e w' ⟨rfl, hr2, hg2⟩; have hc2 := (hr2.below.cell (p := ⟨b, off + y, none⟩) hbs).trans hc)
                | (go_at_call 25; (with_reducible refine (RSt.var (W := w) ?_ T2.out).mono ?_); (focus (repeat (first | assumption | apply RSt.drew))); rintro e w' ⟨rfl, hr3, hg3⟩; have hc3 := (hr3.below.cell (p := ⟨b, off + y, none⟩) hbs).trans hc)))
              | fail
              all_goals
                go_wp2
                go_roundw
                case rel => exact ⟨y + 1, by unfold Hid; omega, by go_num, hr3⟩
                case measure => have := HK.out; simp [intOf]; omega
            · obtain rfl : y = j := by omega
              rw [decide_eq_false hjk]
              have HB1 : Hid (RSt w g (str (encI zs y ++ encT ts x)) (encI zs y ++ encT ts 0).length false wc) := by
                have := HB.out
                unfold Hid; rw [show encI zs y ++ encT ts 0 = encI zs y from by simp [encT]]; exact this
              clear HB hjk hj2 HJ y30 y0
              go_wp2_with fail
              go_loopw [12] (fun i wr => ∃ v : Nat, Hid (v ≤ x) ∧ i = .int .i64 v ∧ Hid (RSt w g (str (encI zs y ++ encT ts x)) (encI zs y ++ encT ts v).length false wr)) (fun i _ => 10 - (intOf i).toNat)
              case atStart => exact ⟨0, Nat.zero_le _, rfl, HB1⟩
              case round =>
                clear HB1
                obtain ⟨v, HJ, rfl, HB⟩ := hrel
                have hj2 := HJ.out
                have v0 : (0 : Int) ≤ v := by omega
                have v30 : (v : Int) ≤ 10 := by have := HL.out; omega
                go_upto_region 21 with fail
                go_cut [114] (fun r wx => r = .bool (decide (v < x)) ∧ wx = wr)
                case first =>
                  by_cases h1 : (v : Int) < m
                  · by_cases h2 : (v : Int) < 10
                    · go_wp2_with fail
                      go_meet
                      exact ⟨by rw [decide_eq_true (by have := HL.out; omega)], rfl⟩
                    · go_wp2_with fail
                      go_meet
                      exact ⟨by rw [decide_eq_false (by have := HL.out; omega)], rfl⟩
                  · go_wp2_with fail
                    go_meet
                    exact ⟨by rw [decide_eq_false (by have := HL.out; omega)], rfl⟩
                case rest =>
                obtain ⟨rfl, rfl⟩ := hcut
                by_cases hjk : v < x
                · obtain ⟨b, off, rfl, hbs, hc, hz⟩ := HT.out v (by have := HL.out; omega)
                  rw [decide_eq_true hjk]
                  have hcw : wc.cell? ⟨b, off + v, none⟩ = some (.string (ts.getD v ByteArray.empty)) := by rw [HB.out.below.cell (p := ⟨b, off + v, none⟩) hbs]; exact hc
                  have vn : (v : Int) < m := by have := HL.out; omega
                  obtain ⟨r, hr⟩ := encT_le ts (show v + 1 ≤ x by omega)
                  rw [encT] at hr
                  have T1 : Hid (tx (str (encI zs y ++ encT ts x)).data.toList (encI zs y ++ encT ts v).length false = (few (ts.getD v ByteArray.empty), (encI zs y ++ encT ts (v + 1)).length, false)) := by
                    have h1 := tx_at (A := encI zs y ++ encT ts v) (R := r) (few_len (ts.getD v ByteArray.empty))
                    have e1 : encI zs y ++ encT ts x = encI zs y ++ encT ts v ++ ((Leb.varN (few (ts.getD v ByteArray.empty)).length ++ few (ts.getD v ByteArray.empty)) ++ r) := by rw [hr]; simp only [List.append_assoc]
                    have e2 : (encI zs y ++ encT ts (v + 1)).length = (encI zs y ++ encT ts v).length + (Leb.varN (few (ts.getD v ByteArray.empty)).length ++ few (ts.getD v ByteArray.empty)).length := by rw [encT, ← List.append_assoc, List.length_append]
                    unfold Hid; rw [str_toList, e1, e2]; exact h1
                  clear hr
                  have hrs : RSt w g (str (encI zs y ++ encT ts x)) (encI zs y ++ encT ts v).length false wc := HB.out
                  clear HB
                  generalize ts.getD v ByteArray.empty = z at hc hz hcw T1
                  by_cases hy : z.size ≤ 300
                  · have hx1 : ((str (few z)).toList == z.toList) = true := by rw [← few_short hy]; simp
                    have hx2 : ((str (few z)).toList == (z.extract 0 z.size).toList) = true := by rw [few_all hy]; simp
                    have HY := Lib.hid hy; clear hy
                    go_wp2_with fail
                    have y3 : ((300 : Int) < z.size) = False := by have := HY.out; simp; omega
                    first
                    | (go_region_with (first
                      | (go_at_call 27; (with_reducible refine (RSt.text (W := w) ?_ T1.out).mono ?_); (focus (repeat (first | assumption | apply RSt.drew))); rintro e w' ⟨rfl, hr3, hg3⟩; have hc3 := (hr3.below.cell (p := ⟨b, off + v, none⟩) hbs).trans hc)
                      | fail))
                    | fail
                    all_goals
                      go_wp2
                      go_roundw
                      case rel => exact ⟨v + 1, by unfold Hid; omega, by go_num, hr3⟩
                      case measure => have := HL.out; simp [intOf]; omega
                  · have hx3 : ((str (few z)).toList == (z.extract 0 300).toList) = true := by rw [few_cut z]; simp
                    have HY := Lib.hid hy; clear hy
                    go_wp2_with fail
                    have y3 : ((300 : Int) < z.size) = True := by have := HY.out; simp; omega
                    have y5 : (300 : Int) ≤ z.size := by have := HY.out; omega
                    first
                    | (go_region_with (first
                      | (go_at_call 27; (with_reducible refine (RSt.text (W := w) ?_ T1.out).mono ?_); (focus (repeat (first | assumption | apply RSt.drew))); rintro e w' ⟨rfl, hr3, hg3⟩; have hc3 := (hr3.below.cell (p := ⟨b, off + v, none⟩) hbs).trans hc)
                      | fail))
                    | fail
                    all_goals
                      go_wp2
                      go_roundw
                      case rel => exact ⟨v + 1, by unfold Hid; omega, by go_num, hr3⟩
                      case measure => have := HL.out; simp [intOf]; omega
                · obtain rfl : v = x := by omega
                  rw [decide_eq_false hjk]
                  have hrs : RSt w g (str (encI zs y ++ encT ts v)) (encI zs y ++ encT ts v).length false wc := HB.out
                  have hsz : (str (encI zs y ++ encT ts v)).size = (encI zs y ++ encT ts v).length := str_size _
                  clear HB hjk hj2 HJ
                  generalize (encI zs y ++ encT ts v).length = P at hrs hsz
                  go_wp2_with (first
                    | (go_at_call 33; (with_reducible refine (RSt.failed (W := w) (by assumption)).mono ?_); rintro e w' ⟨rfl, rfl⟩)
                    | (go_at_call 31; (with_reducible refine (RSt.pos (W := w) (by assumption)).mono ?_); rintro e w' ⟨rfl, rfl⟩)
                    | (go_at_call 32; (with_reducible refine (RSt.left (W := w) (by assumption)).mono ?_); rintro e w' ⟨rfl, nd, rfl⟩; have hr9 := hrs.drewN nd))
                  go_ret
                  exact ⟨rfl, hr9.below⟩

theorem opened_ints {H : Type} {enc : TypeId × Value → H} {W : World} {b0 : Nat} {r : Reach} {v : Value} {d : DataW H} {p : List MemPlace} (hv : Value.okWide Try.prog W r b0 43 v) (h : DataW.Trod enc Try.prog W 0 (fun _ => true) true 43 v d p) :
    ∃ (po : Option Addr) (n c : Nat) (zs : List Int), v = .slice po n c ∧ n ≤ 9223372036854775807 ∧
      Hid (∀ i, i < n → ∃ b off, po = some ⟨b, off, none⟩ ∧ b < W.heap.size ∧ W.cell? ⟨b, off + i, none⟩ = some (.int .i64 (zs.getD i 0)) ∧ -9223372036854775808 ≤ zs.getD i 0 ∧ zs.getD i 0 ≤ 9223372036854775807) := by
  obtain ⟨a0, len, cap, rfl⟩ := okWide_slice Try.underlying43 hv
  obtain ⟨fuel, hf⟩ := h
  rcases open_ints Try.underlying43 Try.underlying3 (by kernel_rfl) hf with ⟨hcs, _⟩ | ⟨a, len', cap', zs, hcs, _, hl, hm, hz, _, hcell, hwz⟩
  · simp [Value.cells] at hcs
    obtain ⟨rfl, rfl, rfl⟩ := hcs
    exact ⟨none, 0, 0, [], rfl, by omega, fun i hi => by omega⟩
  · simp [Value.cells] at hcs
    obtain ⟨rfl, rfl, rfl⟩ := hcs
    simp only [if_true] at hz
    refine ⟨some a, len, cap, zs, rfl, by unfold maxLen at hm; omega, fun i hi => ?_⟩
    obtain ⟨b, off, spot⟩ := a
    have hc := hcell i (by omega)
    have hspot : spot = none := by simpa [Addr.add] using World.cell?_spot (hcell 0 (by omega))
    subst hspot
    have hadd : (⟨b, off, none⟩ : Addr).add i = ⟨b, off + i, none⟩ := by unfold Addr.add; split <;> simp_all
    rw [hadd] at hc
    have hw : (Lit.int .i64 (zs.getD i 0)).wf = true := hwz _ (by rw [List.getD_eq_getElem?_getD, List.getElem?_eq_getElem (by omega)]; exact List.getElem_mem _)
    have hb : -9223372036854775808 ≤ zs.getD i 0 ∧ zs.getD i 0 ≤ 9223372036854775807 := by simpa [Lit.wf, IntKind.min, IntKind.max, IntKind.signed, IntKind.bits] using hw
    exact ⟨b, off, rfl, block_lt_of_cell hc, hc, hb.1, hb.2⟩
theorem opened_strings {H : Type} {enc : TypeId × Value → H} {W : World} {b0 : Nat} {r : Reach} {v : Value} {d : DataW H} {p : List MemPlace} (hv : Value.okWide Try.prog W r b0 44 v) (h : DataW.Trod enc Try.prog W 0 (fun _ => true) true 44 v d p) :
    ∃ (po : Option Addr) (n c : Nat) (ts : List ByteArray), v = .slice po n c ∧ n ≤ 9223372036854775807 ∧
      Hid (∀ i, i < n → ∃ b off, po = some ⟨b, off, none⟩ ∧ b < W.heap.size ∧ W.cell? ⟨b, off + i, none⟩ = some (.string (ts.getD i ByteArray.empty)) ∧ (ts.getD i ByteArray.empty).size ≤ 9223372036854775807) := by
  obtain ⟨a0, len, cap, rfl⟩ := okWide_slice Try.underlying44 hv
  obtain ⟨fuel, hf⟩ := h
  rcases open_strings Try.underlying44 Try.underlying9 (by kernel_rfl) hf with ⟨hcs, _⟩ | ⟨a, len', cap', zs, hcs, _, hl, hm, hz, _, hcell, hwz⟩
  · simp [Value.cells] at hcs
    obtain ⟨rfl, rfl, rfl⟩ := hcs
    exact ⟨none, 0, 0, [], rfl, by omega, fun i hi => by omega⟩
  · simp [Value.cells] at hcs
    obtain ⟨rfl, rfl, rfl⟩ := hcs
    simp only [if_true] at hz
    refine ⟨some a, len, cap, zs, rfl, by unfold maxLen at hm; omega, fun i hi => ?_⟩
    obtain ⟨b, off, spot⟩ := a
    have hc := hcell i (by omega)
    have hspot : spot = none := by simpa [Addr.add] using World.cell?_spot (hcell 0 (by omega))
    subst hspot
    have hadd : (⟨b, off, none⟩ : Addr).add i = ⟨b, off + i, none⟩ := by unfold Addr.add; split <;> simp_all
    rw [hadd] at hc
    have hw : (zs.getD i ByteArray.empty).size ≤ maxLen := hwz _ (by rw [List.getD_eq_getElem?_getD, List.getElem?_eq_getElem (by omega)]; exact List.getElem_mem _)
    exact ⟨b, off, rfl, block_lt_of_cell hc, hc, by unfold maxLen at hw; omega⟩

set_option maxRecDepth 100000 in
theorem lifted (os : Os) (started : os.Started) (H : Type) (enc : TypeId × Value → H) :
    ReturnsInHanded {} Try.checked os 5 .any (Rows.octetRoundTripSpec.pre6 enc Try.prog Try.f5 Rows.octetRoundTripRow.domain false) (Rows.octetRoundTripSpec.post enc Try.prog Try.f5 false true false false) := by
  refine returnsInHanded_of_change_sized (C := Try.checked) own started (by kernel_rfl) Try.func5
    (ChangeSpec.witness6 (enc := enc) (C := Try.checked) false ⟨#[], #[.slice none 0 0, .slice none 0 0], []⟩ 8 (by kernel_rfl) (by kernel_rfl) (by kernel_rfl) (by kernel_rfl)) ?_
  intro W base args ds gs before hval0 hW _ _ _
  have hval : ∀ (j : Nat) t v, Try.f5.params[j]? = some t → args[j]? = some v → Value.okWide Try.prog W .any base t v := hval0
  have hW' := hW
  obtain ⟨p, q, hA0, hV, rfl, hfz, hnd⟩ := hW
  have hA : DataW.TrodAll enc Try.prog W 0 (fun _ => true) true Try.f5.params.toList args.toList ds p := hA0
  rw [Try.params5] at hA hval
  obtain ⟨v0, v1, d0, d1, p0, p1, rfl, rfl, rfl, h0, h1⟩ := trodAll_two hA
  obtain ⟨rfl, rfl⟩ := trodVars_none hV
  obtain ⟨po, n, c1, zs, rfl, hn, HI⟩ := opened_ints (hval 0 43 v0 rfl rfl) h0
  obtain ⟨pt, m, c2, ts, rfl, hm, HT⟩ := opened_strings (hval 1 44 v1 rfl rfl) h1
  refine (walk zs ts po pt n m c1 c2 _ _ W rfl rfl hn hm HI HT).mono fun e W' ⟨he, hb⟩ => ?_
  subst he
  exact ⟨_, rfl, law_post hW' rfl (by kernel_rfl) rfl (by intro t ht; rw [Try.params5] at ht; simp at ht; rcases ht with rfl | rfl <;> exact ⟨by kernel_rfl, of_decide_eq_true (by kernel_rfl)⟩) hb⟩

theorem holds : Rows.OctetRoundTripSaid :=
  OpenClaim.holds_of_wide 5 Try.f5 rfl rfl rfl rfl rfl rfl rfl ⟨rfl, rfl, rfl, rfl, rfl⟩ rfl rfl rfl rfl rfl (by kernel_rfl) Try.func5 (by kernel_rfl)
    (of_decide_eq_true (by kernel_rfl)) (by unfold Func.isWrapper; first | (rw [if_pos (by decide +kernel)]; kernel_rfl) | (rw [if_neg (by decide +kernel)]; exact ⟨rfl, rfl⟩))
    (fun os started H enc _ => lifted os started H enc)
end Go.Proofs.Ytgalkcfcpkkjgaa.Round
