/-
  root and Gamma.
-/
import Derived.Test.YtgdcjpnmalnmbaaGamma
namespace Go.Proofs.Ytgdcjpnmalnmbaa
open Go.RowKit
variable {w : World}

theorem fits_of {a b : Nat} (ha : a ≤ 65535) (hb : b ≤ 256) : Fits a b := fun k j hk hj => fit_of_lt (by
  have h1 : a ^ k ≤ 65535 ^ 8 := Nat.le_trans (Nat.pow_le_pow_left ha k) (Nat.pow_le_pow_right (by omega) hk)
  have h2 : b ^ j ≤ 256 ^ 8 := Nat.le_trans (Nat.pow_le_pow_left hb j) (Nat.pow_le_pow_right (by omega) hj)
  exact Nat.lt_of_le_of_lt (Nat.mul_le_mul h1 h2) (by decide))
theorem fits_of' {a b : Nat} (ha : a ≤ 256) (hb : b ≤ 65535) : Fits a b := fun k j hk hj => by rw [Nat.mul_comm]; exact fits_of hb ha j k hj hk
theorem lst_congr {p q : Nat → Prop} [DecidablePred p] [DecidablePred q] (h : ∀ x, p x ↔ q x) (n : Nat) : lst p n = lst q n :=
  lst_eq p n _ (lst_le q n) (fun z hz hp => lst_min q n z hz ((h z).1 hp)) (fun hx => (h _).2 (lst_lt q n hx))

set_option maxRecDepth 100000 in
set_option maxHeartbeats 4000000 in
theorem root1_any (y den last num v bd bl bn bb : Nat) (w : World) (hy : y ≤ 65535) (hl : last ≤ 256) (hd : den ≤ 8) (hn : num ≤ 8)
    (c1 : w.cell? ⟨bd, 0, none⟩ = some (.int .i64 den)) (c2 : w.cell? ⟨bl, 0, none⟩ = some (.int .i64 last)) (c3 : w.cell? ⟨bn, 0, none⟩ = some (.int .i64 num))
    (c4 : w.cell? ⟨bb, 0, none⟩ = some (.int .u64 (u0 v : Nat)) ∧ w.cell? ⟨bb, 1, none⟩ = some (.int .u64 (u1 v : Nat)) ∧ w.cell? ⟨bb, 2, none⟩ = some (.int .u64 (u2 v : Nat)))
    (l1 : bd < w.heap.size ∧ bl < w.heap.size ∧ bn < w.heap.size ∧ bb < w.heap.size) :
    Calls Try.prog 92 #[.int .i64 y, .pointer (some ⟨bd, 0, none⟩), .pointer (some ⟨bl, 0, none⟩), .pointer (some ⟨bn, 0, none⟩), .pointer (some ⟨bb, 0, none⟩)] w fun e w' => e = .returned (.bool (decide (v < y ^ den * last ^ num))) ∧ Below w.heap.size w w' := by
  have HP : Hid (∀ V, St w [] V → St w [] V ∧ (V.cell? ⟨bd, 0, none⟩ = some (.int .i64 den) ∧ V.cell? ⟨bl, 0, none⟩ = some (.int .i64 last) ∧ V.cell? ⟨bn, 0, none⟩ = some (.int .i64 num)) ∧
      (V.cell? ⟨bb, 0, none⟩ = some (.int .u64 (u0 v : Nat)) ∧ V.cell? ⟨bb, 1, none⟩ = some (.int .u64 (u1 v : Nat)) ∧ V.cell? ⟨bb, 2, none⟩ = some (.int .u64 (u2 v : Nat)))) := fun V h =>
    ⟨h, ⟨(h.below.cell (p := ⟨bd, 0, none⟩) l1.1).trans c1, (h.below.cell (p := ⟨bl, 0, none⟩) l1.2.1).trans c2, (h.below.cell (p := ⟨bn, 0, none⟩) l1.2.2.1).trans c3⟩,
      (h.below.cell (p := ⟨bb, 0, none⟩) l1.2.2.2).trans c4.1, (h.below.cell (p := ⟨bb, 1, none⟩) l1.2.2.2).trans c4.2.1, (h.below.cell (p := ⟨bb, 2, none⟩) l1.2.2.2).trans c4.2.2⟩
  have HC1 : Hid (∀ V, St w [] V → Calls Try.prog 91 #[.int .i64 y, .int .i64 den, .int .i64 last, .int .i64 num] V fun e w' => e = .returned (wV (y ^ den * last ^ num)) ∧ St w [] w') := fun V h => h.call (product_any y den last num V (by omega) (by omega) hd hn (fits_of hy hl))
  have HC2 : Hid (∀ V, St w [] V → Calls Try.prog 93 #[wV (y ^ den * last ^ num), wV v] V fun e w' => e = .returned (.bool (decide (v < y ^ den * last ^ num))) ∧ St w [] w') := fun V h => h.call (exceeds_any _ v V)
  have hs := (St.start w).drew
  clear c1 c2 c3 c4 l1 hy hl hd hn
  generalize y ^ den * last ^ num = x at HC1 HC2 ⊢
  generalize decide (v < x) = d at HC2 ⊢
  go_enter Try.func92, Try.ntmps92
  go_upto_region 1 with fail
  go_region_held3 (fun V => St w [] V ∧ (V.cell? ⟨bd, 0, none⟩ = some (.int .i64 den) ∧ V.cell? ⟨bl, 0, none⟩ = some (.int .i64 last) ∧ V.cell? ⟨bn, 0, none⟩ = some (.int .i64 num)) ∧
      (V.cell? ⟨bb, 0, none⟩ = some (.int .u64 (u0 v : Nat)) ∧ V.cell? ⟨bb, 1, none⟩ = some (.int .u64 (u1 v : Nat)) ∧ V.cell? ⟨bb, 2, none⟩ = some (.int .u64 (u2 v : Nat)))) ((refine HP.out _ ?_; assumption)) (first
    | (go_at_call 91; (with_reducible refine (HC1.out _ ?_).mono ?_); (focus assumption); rintro e w4 ⟨rfl, h4⟩)
    | (go_at_call 93; (with_reducible refine (HC2.out _ ?_).mono ?_); (focus assumption); rintro e w5 ⟨rfl, h5⟩))
  go_wp2_with fail
  go_ret
  exact ⟨rfl, h5.below⟩

set_option maxRecDepth 100000 in
set_option maxHeartbeats 4000000 in
theorem root_any (i last num den : Nat) (w : World) (hi : i ≤ 256) (hl : last ≤ 256) (hn : num ≤ 8) (hd : den ≤ 8) (hd1 : 1 ≤ den) :
    Calls Try.prog 63 #[.int .i64 i, .int .i64 last, .int .i64 num, .int .i64 den] w fun e w' => e = .returned (.int .i64 (gam num den (last + 1) i : Nat)) ∧ Below w.heap.size w w' := by
  have hs := (((St.start w).alloc (vo (.int .i64 last) 3)).alloc (vo (.int .i64 num) 3)).alloc (vo (.int .i64 den) 3)
  simp only [World.size_alloc] at hs
  obtain ⟨L, hL⟩ : ∃ L, L = [(w.heap.size + 1 + 1, vo (.int .i64 den) 3), (w.heap.size + 1, vo (.int .i64 num) 3), (w.heap.size, vo (.int .i64 last) 3)] := ⟨_, rfl⟩
  rw [← hL] at hs
  have HC1 : Hid (∀ V, St w L V → Calls Try.prog 91 #[.int .i64 i, .int .i64 num, .int .i64 65535, .int .i64 den] V fun e w' => e = .returned (wV (i ^ num * 65535 ^ den)) ∧ St w L w') := fun V h => h.call (product_any i num 65535 den V (by omega) (by omega) hn hd (fits_of' hi (Nat.le_refl _)))
  have hcells : ∀ V, St w L V → (V.cell? ⟨w.heap.size + 1 + 1, 0, none⟩ = some (.int .i64 den) ∧ V.cell? ⟨w.heap.size + 1, 0, none⟩ = some (.int .i64 num) ∧ V.cell? ⟨w.heap.size, 0, none⟩ = some (.int .i64 last)) ∧ w.heap.size + 1 + 1 < V.heap.size := fun V h =>
    ⟨⟨h.var (t := 3) (by simp [hL]), h.var (t := 3) (by simp [hL]), h.var (t := 3) (by simp [hL])⟩, h.lt (b := w.heap.size + 1 + 1) (o := vo (.int .i64 den) 3) (by simp [hL])⟩
  have HL1 : Hid ((lst (fun y => i ^ num * 65535 ^ den < y ^ den * last ^ num) 65536 : Int) - 1 = (gam num den (last + 1) i : Nat)) := by
    have e : lst (fun y => i ^ num * 65535 ^ den < y ^ den * last ^ num) 65536 = lst (fun y => 65535 ^ den * i ^ num < y ^ den * (last + 1 - 1) ^ num) 65536 :=
      lst_congr (fun x => by rw [Nat.mul_comm, Nat.add_sub_cancel]) _
    have hp : 0 < lst (fun y => 65535 ^ den * i ^ num < y ^ den * (last + 1 - 1) ^ num) 65536 := by
      rcases Nat.eq_zero_or_pos (lst (fun y => 65535 ^ den * i ^ num < y ^ den * (last + 1 - 1) ^ num) 65536) with h | h
      · have h1 := lst_lt (fun y => 65535 ^ den * i ^ num < y ^ den * (last + 1 - 1) ^ num) 65536 (by omega)
        rw [h] at h1
        simp [Nat.zero_pow hd1] at h1
      · exact h
    unfold Hid gam
    rw [e]; omega
  have HS : Hid (∀ V bb, St w L V → V.heap[bb]? = some (wo (u0 (i ^ num * 65535 ^ den)) (u1 (i ^ num * 65535 ^ den)) (u2 (i ^ num * 65535 ^ den))) →
      Calls Try.prog 59 #[.int .i64 65536, .func (.func 92) #[] #[.pointer (some ⟨w.heap.size + 1 + 1, 0, none⟩), .pointer (some ⟨w.heap.size, 0, none⟩), .pointer (some ⟨w.heap.size + 1, 0, none⟩), .pointer (some ⟨bb, 0, none⟩)]] V fun e w' => e = .returned (.int .i64 (lst (fun y => i ^ num * 65535 ^ den < y ^ den * last ^ num) 65536 : Nat)) ∧ Below w.heap.size w w') := fun V bb hV hb =>
    Below.call hV.below (search_any 92 _ 65536 (fun y => i ^ num * 65535 ^ den < y ^ den * last ^ num) V (enters_of Try.func92 (by kernel_rfl) rfl) (by omega)
      (fun x x' hx _ h => Nat.lt_of_lt_of_le h (Nat.mul_le_mul_right _ (Nat.pow_le_pow_left hx den)))
      (fun V2 hb2 y hy => by
        have h2 := hV.later hb2
        have hbb := (hb2.block bb (Array.getElem?_eq_some_iff.1 hb).1).trans hb
        obtain ⟨⟨q1, q2, q3⟩, q4⟩ := hcells V2 h2
        exact root1_any y den last num (i ^ num * 65535 ^ den) _ _ _ _ V2 (by omega) hl hd hn q1 q3 q2 ⟨cell_of_row _ _ 0 _ _ _ hbb, cell_of_row _ _ 1 _ _ _ hbb, cell_of_row _ _ 2 _ _ _ hbb⟩ ⟨by omega, by omega, by omega, (Array.getElem?_eq_some_iff.1 hbb).1⟩))
  have HCs := Lib.hid hcells
  generalize lst (fun y => i ^ num * 65535 ^ den < y ^ den * last ^ num) 65536 = r at HS HL1
  have hr : Hid (r ≤ 65536) := by
    have := HL1.out; have h2 := gam_le num den (last + 1) i; unfold Hid; omega
  have hr1 : (r : Int) ≤ 65536 := by have := hr.out; omega
  generalize gam num den (last + 1) i = g at HL1 ⊢
  generalize i ^ num * 65535 ^ den = v at HC1 HS
  have HLL := Lib.hid hL
  clear hcells hL hi hl hn hd hd1
  go_enter Try.func63, Try.ntmps63
  go_wp2_with (first
    | (go_at_call 91; (with_reducible refine (HC1.out _ hs).mono ?_); rintro e w2 ⟨rfl, h2⟩; have h3 := (h2.alloc (wo (u0 v) (u1 v) (u2 v))); have H3 : Hid (St w L (w2.alloc (wo (u0 v) (u1 v) (u2 v)))) := h3.sub (fun x hx => List.mem_cons_of_mem _ hx); have HR3 : Hid ((w2.alloc (wo (u0 v) (u1 v) (u2 v))).heap[w2.heap.size]? = some (wo (u0 v) (u1 v) (u2 v))) := h3.row (by simp); clear h2 h3)
    | (go_at_call 59; (with_reducible refine (HS.out _ _ H3.out HR3.out).mono ?_); rintro e w4 ⟨rfl, h4⟩; have H4 := Lib.hid h4; clear h4))
  go_ret
  exact ⟨ret_int HL1.out, H4.out⟩

def gamL (num den n : Nat) : List Int := (List.range n).map fun i => ((gam num den n i : Nat) : Int)
def gok (num den n : Int) : Bool := vp num && vp den && vc n
theorem gamma1_any (num den n i : Nat) (x : Int) (bn bm bd : Nat) (w : World) (h2 : 2 ≤ n) (h3 : n ≤ 257) (hi : i < n) (hn : num ≤ 8) (hd : den ≤ 8) (hd1 : 1 ≤ den)
    (c1 : w.cell? ⟨bn, 0, none⟩ = some (.int .i64 n)) (c2 : w.cell? ⟨bm, 0, none⟩ = some (.int .i64 num)) (c3 : w.cell? ⟨bd, 0, none⟩ = some (.int .i64 den)) :
    Calls Try.prog 62 #[.int .i64 i, .int .i64 x, .pointer (some ⟨bn, 0, none⟩), .pointer (some ⟨bm, 0, none⟩), .pointer (some ⟨bd, 0, none⟩)] w fun e w' => e = .returned (.int .i64 (gam num den n i : Nat)) ∧ Below w.heap.size w w' := by
  obtain ⟨m, rfl⟩ : ∃ m, n = m + 1 := ⟨n - 1, by omega⟩
  have HR := Lib.hid (root_any i m num den w (by omega) (by omega) hn hd hd1)
  have hc : (((m + 1 : Nat) : Int) - 1) = m := by omega
  generalize gam num den (m + 1) i = g at HR ⊢
  generalize ((m + 1 : Nat) : Int) = z at c1 hc
  have hz : 1 ≤ z ∧ z ≤ 1000 := by omega
  obtain ⟨hz1, hz2⟩ := hz
  clear h2 h3 hi hn hd hd1
  go_enter Try.func62, Try.ntmps62
  go_wp2_with (go_at_call 63; (with_reducible refine HR.out.mono ?_); rintro e w2 ⟨rfl, h2⟩; have H2 := Lib.hid h2; clear h2)
  go_ret
  exact ⟨rfl, H2.out⟩

theorem vp_nat {n : Int} (h : vp n = true) : ∃ m : Nat, n = m ∧ 1 ≤ m ∧ m ≤ 8 := by
  have := (vp_iff n).1 h
  exact ⟨n.toNat, by omega, by omega, by omega⟩
set_option maxRecDepth 100000 in
set_option maxHeartbeats 4000000 in
theorem gamma_any (num den n : Int) (w : World) :
    Calls Try.prog 28 #[.int .i64 num, .int .i64 den, .int .i64 n] w (GotE (if gok num den n then gamL num.toNat den.toNat n.toNat else []) (if gok num den n then 0 else 1) w) := by
  have hs := (((St.start w).alloc (vo (.int .i64 num) 3)).alloc (vo (.int .i64 den) 3)).alloc (vo (.int .i64 n) 3)
  simp only [World.size_alloc] at hs
  obtain ⟨L, hL⟩ : ∃ L, L = [(w.heap.size + 1 + 1, vo (.int .i64 n) 3), (w.heap.size + 1, vo (.int .i64 den) 3), (w.heap.size, vo (.int .i64 num) 3)] := ⟨_, rfl⟩
  rw [← hL] at hs
  by_cases hg : gok num den n = true
  · obtain ⟨⟨h1, h2⟩, h3⟩ : (vp num = true ∧ vp den = true) ∧ vc n = true := by simpa [gok] using hg
    rw [if_pos hg, if_pos hg]
    obtain ⟨a, rfl, a1, a2⟩ := vp_nat h1
    obtain ⟨b, rfl, b1, b2⟩ := vp_nat h2
    obtain ⟨m, rfl, m1, m2⟩ := vc_nat h3
    have HB : Hid (∀ V, St w L V → Calls Try.prog 32 #[.int .i64 (m : Nat), .func (.func 62) #[] #[.pointer (some ⟨w.heap.size + 1 + 1, 0, none⟩), .pointer (some ⟨w.heap.size, 0, none⟩), .pointer (some ⟨w.heap.size + 1, 0, none⟩)]] V fun e w' => ∃ b', e = .returned (.slice (some ⟨b', 0, none⟩) m m) ∧ Cm w' (.slice (some ⟨b', 0, none⟩) m m) (gamL a b m) ∧ Below w.heap.size w w') := fun V hV =>
      (build_any 62 _ m (fun i => ((gam a b m i : Nat) : Int)) V m1 m2 (enters_of Try.func62 (by kernel_rfl) rfl) (fun V2 hb i hi => by
        have h4 := hV.later hb
        exact gamma1_any a b m i _ _ _ _ V2 m1 m2 hi a2 b2 b1 (h4.var (t := 3) (by simp [hL])) (h4.var (t := 3) (by simp [hL])) (h4.var (t := 3) (by simp [hL])))).mono fun e w' ⟨b', h5, h6, h7⟩ => ⟨b', h5, h6, hV.below.trans (h7.mono hV.below.size)⟩
    have V1 := Lib.hid h1
    have V2 := Lib.hid h2
    have V3 := Lib.hid h3
    have HE : Hid (gamL (a : Int).toNat (b : Int).toNat (m : Int).toNat = gamL a b m) := rfl
    rw [HE.out]
    clear hg h1 h2 h3 hL
    go_enter Try.func28, Try.ntmps28
    go_wp2_with (first
      | (go_at_call 61; (with_reducible refine (power_any _ _).mono ?_); rintro e w' ⟨rfl, rfl⟩; first | rw [V1.out] | rw [V2.out])
      | (go_at_call 34; (with_reducible refine (count_any _ _).mono ?_); rintro e w' ⟨rfl, rfl⟩; rw [V3.out])
      | (go_at_call 32; refine (HB.out _ hs).mono ?_; rintro e w3 ⟨b', rfl, hc2, hb2⟩; have HC2 := Lib.hid hc2; have HB2 := Lib.hid hb2; clear hc2 hb2))
    go_ret2
    exact ⟨_, _, _, rfl, HC2.out, HB2.out⟩
  · rw [if_neg hg, if_neg hg]
    have hg' : (vp num && vp den && vc n) = false := by simpa [gok] using hg
    have HB := Lib.hid hs.below
    clear hs hL hg
    cases h1 : vp num
    · have V1 := Lib.hid h1
      clear h1 hg'
      go_enter Try.func28, Try.ntmps28
      go_wp2_with (go_at_call 61; (with_reducible refine (power_any _ _).mono ?_); rintro e w' ⟨rfl, rfl⟩; rw [V1.out])
      go_ret2
      exact ⟨none, 0, 0, rfl, cm_nil _, HB.out⟩
    · cases h2 : vp den
      · have V1 := Lib.hid h1
        have V2 := Lib.hid h2
        clear h1 h2 hg'
        go_enter Try.func28, Try.ntmps28
        go_wp2_with (go_at_call 61; (with_reducible refine (power_any _ _).mono ?_); rintro e w' ⟨rfl, rfl⟩; first | rw [V1.out] | rw [V2.out])
        go_ret2
        exact ⟨none, 0, 0, rfl, cm_nil _, HB.out⟩
      · have h3 : vc n = false := by rw [h1, h2] at hg'; simpa using hg'
        have V1 := Lib.hid h1
        have V2 := Lib.hid h2
        have V3 := Lib.hid h3
        clear h1 h2 h3 hg'
        go_enter Try.func28, Try.ntmps28
        go_wp2_with (first
          | (go_at_call 61; (with_reducible refine (power_any _ _).mono ?_); rintro e w' ⟨rfl, rfl⟩; first | rw [V1.out] | rw [V2.out])
          | (go_at_call 34; (with_reducible refine (count_any _ _).mono ?_); rintro e w' ⟨rfl, rfl⟩; rw [V3.out]))
        go_ret2
        exact ⟨none, 0, 0, rfl, cm_nil _, HB.out⟩
end Go.Proofs.Ytgdcjpnmalnmbaa
