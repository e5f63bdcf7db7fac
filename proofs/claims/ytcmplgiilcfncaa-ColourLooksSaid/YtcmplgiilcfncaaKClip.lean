/-
  Clip, and whether a colour is in gamut.
-/
import Derived.Test.YtcmplgiilcfncaaKEq
import Derived.Test.YtcmplgiilcfncaaLine
namespace Go.Proofs.Ytcmplgiilcfncaa.K
open Go.RowKit
variable {W w w' : World} {L : List (Nat × Obj)}

theorem St.out3 {b : Nat} {t : TypeId} (h : St W L w) (hm : (b, .cells #[.int .i64 0, .int .i64 0, .int .i64 0] t) ∈ L) : CB w b 0 0 0 ∧ w.frozen? ⟨b, 0, none⟩ = false ∧ w.frozen? ⟨b, 1, none⟩ = false ∧ w.frozen? ⟨b, 2, none⟩ = false := ⟨h.col hm, h.fro hm⟩
theorem clampG_any (c0 c1 c2 : Int) (w : World) : Calls Try.prog 26 #[ag c0 c1 c2] w fun e w' => e = .returned (ag (clp 0 65535 c0) (clp 0 65535 c1) (clp 0 65535 c2)) ∧ Below w.heap.size w w' := by
  go_enter Try.func26, Try.ntmps26
  go_upto_region 1 with fail
  have hs := ((St.start w).alloc (ac c0 c1 c2)).alloc (ac 0 0 0)
  rw [World.size_alloc] at hs
  generalize (w.alloc (ac c0 c1 c2)).alloc (ac 0 0 0) = w1 at hs ⊢
  obtain ⟨l0, l1, l2⟩ := hs.col (b := w.heap.size) (x := c0) (y := c1) (z := c2) (t := 25) (by simp)
  go_wp2_with (go_at_call 20; (refine (clampC_any _ _ _ _ _ w1).mono ?_); rintro e w2 ⟨rfl, h2⟩; have h3 := hs.later h2; obtain ⟨⟨m0, m1, m2⟩, f0, f1, f2⟩ := St.out3 (b := w.heap.size + 1) (t := 25) h3 (by simp))
  exact bodyPost_ret (v := ag (clp 0 65535 c0) (clp 0 65535 c1) (clp 0 65535 c2)) (by simp [results, Try.results26, go_sem, *]) rfl ⟨rfl, below_set3 h3.below (by omega) _ _ _⟩
theorem inG_any (c0 c1 c2 : Int) (w : World) : Calls Try.prog 21 #[ag c0 c1 c2] w fun e w' => e = .returned (.bool (ing ⟨c0, c1, c2⟩)) ∧ Below w.heap.size w w' := by
  have HE : Hid (ing ⟨c0, c1, c2⟩ = (clp 0 65535 c0 == c0 && (clp 0 65535 c1 == c1 && clp 0 65535 c2 == c2))) := by unfold Hid ing gm; simp [Bool.and_assoc]
  have HG : Hid (∀ V, Calls Try.prog 26 #[ag c0 c1 c2] V fun e w' => e = .returned (ag (clp 0 65535 c0) (clp 0 65535 c1) (clp 0 65535 c2)) ∧ Below V.heap.size V w') := fun V => clampG_any c0 c1 c2 V
  generalize clp 0 65535 c0 = d0 at HE HG
  generalize clp 0 65535 c1 = d1 at HE HG
  generalize clp 0 65535 c2 = d2 at HE HG
  go_enter Try.func21, Try.ntmps21
  go_upto_region 1 with fail
  have hs := (St.start w).alloc (ac c0 c1 c2)
  generalize w.alloc (ac c0 c1 c2) = w1 at hs ⊢
  obtain ⟨l0, l1, l2⟩ := hs.col (b := w.heap.size) (x := c0) (y := c1) (z := c2) (t := 25) (by simp)
  have he := eql_col d0 d1 d2 c0 c1 c2
  have hd := hs.drew
  have HJ : Hid (∀ V, St w [(w.heap.size, ac c0 c1 c2)] V → St w [(w.heap.size, ac c0 c1 c2)] V ∧ CB V w.heap.size c0 c1 c2) := fun V h => ⟨h, h.col (t := 25) (by simp)⟩
  go_region_held3 (fun V => St w [(w.heap.size, ac c0 c1 c2)] V ∧ CB V w.heap.size c0 c1 c2) ((refine HJ.out _ ?_; assumption)) (first
    | (go_at_call 26; (refine (St.call (W := w) (L := [(w.heap.size, ac c0 c1 c2)]) ?_ (HG.out _)).mono ?_); (focus assumption); rintro e w4 ⟨rfl, h4⟩))
  go_wp2_with fail
  go_ret
  exact ⟨ret_bool HE.out.symm, h4.below⟩
/-- the part of the distance that a channel allows -/
def alw (v l : Int) : Int × Int := if v < 0 then (l, l - v) else if 65535 < v then (65535 - l, v - l) else (1, 1)
abbrev rp (p : Int × Int) : Value := .agg #[.int .i64 p.1, .int .i64 p.2]
theorem allowed_any (v l : Int) (w : World) (h1 : -16777216 ≤ v) (h2 : v ≤ 16777216) (h3 : 0 ≤ l) (h4 : l ≤ 65535) :
    Calls Try.prog 45 #[.int .i64 v, .int .i64 l] w fun e w' => e = .returned (rp (alw v l)) ∧ Below w.heap.size w w' := by
  unfold alw
  go_enter Try.func45, Try.ntmps45
  go_wp2
  all_goals exact bodyPost_ret (by simp [results, Try.results45, go_sem]) rfl ⟨rfl, below1⟩

/-- a channel of a colour -/
def C3.at (c : C3) : Nat → Int
  | 0 => c.r
  | 1 => c.g
  | _ => c.b
theorem ix_at (c : C3) (k : Nat) (h : k < 3) (V : World) : (Instr.index 25 c.v (.int .i64 k)).run Try.prog V = .ok (.int .i64 (c.at k)) V := by
  rcases (by omega : k = 0 ∨ k = 1 ∨ k = 2) with rfl | rfl | rfl
  · exact ix0 _ _ _ V
  · exact ix1 _ _ _ V
  · exact ix2 _ _ _ V
def lst2 (p q : Int × Int) : Int × Int := if q.1 * p.2 < p.1 * q.2 then q else p
/-- the least part that the first k channels allow -/
def kp (c : C3) (l : Int) : Nat → Int × Int
  | 0 => (1, 1)
  | k + 1 => lst2 (kp c l k) (alw (c.at k) l)
/-- bounds of a colour's channels -/
def Bd (c : C3) : Prop := ∀ k, -16777216 ≤ c.at k ∧ c.at k ≤ 16777216
def PB (p : Int × Int) : Prop := 0 ≤ p.1 ∧ p.1 ≤ 65535 ∧ 1 ≤ p.2 ∧ p.2 ≤ 33554432
theorem alw_pb {v l : Int} (h1 : -16777216 ≤ v) (h2 : v ≤ 16777216) (h3 : 0 ≤ l) (h4 : l ≤ 65535) : PB (alw v l) := by
  unfold PB alw; (repeat' split) <;> (simp only []; omega)
theorem kp_pb {c : C3} {l : Int} (hc : Bd c) (h3 : 0 ≤ l) (h4 : l ≤ 65535) : ∀ k, PB (kp c l k)
  | 0 => by unfold PB kp; decide
  | k + 1 => by
    unfold kp lst2
    split
    · exact alw_pb (hc k).1 (hc k).2 h3 h4
    · exact kp_pb hc h3 h4 k
theorem mul_bd {a b A B : Int} (h1 : 0 ≤ a) (h2 : a ≤ A) (h3 : 0 ≤ b) (h4 : b ≤ B) : 0 ≤ a * b ∧ a * b ≤ A * B :=
  ⟨Int.mul_nonneg h1 h3, Int.mul_le_mul h2 h4 h3 (by omega)⟩
theorem mul_abs {a b A B : Int} (h1 : -A ≤ a) (h2 : a ≤ A) (h3 : -B ≤ b) (h4 : b ≤ B) : -(A * B) ≤ a * b ∧ a * b ≤ A * B := by
  have h : (a * b).natAbs ≤ A.natAbs * B.natAbs := by rw [Int.natAbs_mul]; exact Nat.mul_le_mul (by omega) (by omega)
  have e : ((A.natAbs * B.natAbs : Nat) : Int) = A * B := by rw [Int.natCast_mul]; rw [Int.natAbs_of_nonneg (by omega), Int.natAbs_of_nonneg (by omega)]
  omega
theorem wr_in {x : Int} (h : -9223372036854775808 ≤ x ∧ x ≤ 9223372036854775807) : IntKind.i64.wrap x = x := IntWalk.i64_in _ h
set_option maxRecDepth 100000 in
set_option maxHeartbeats 4000000 in
theorem kept_any (c0 c1 c2 l : Int) (w : World) (hc : Bd ⟨c0, c1, c2⟩) (h3 : 0 ≤ l) (h4 : l ≤ 65535) :
    Calls Try.prog 23 #[ag c0 c1 c2, .int .i64 l] w fun e w' => e = .returned (rp (kp ⟨c0, c1, c2⟩ l 3)) ∧ Below w.heap.size w w' := by
  have HC := Lib.hid hc
  have HK := Lib.hid (fun k => kp_pb hc h3 h4 k)
  clear hc
  go_enter Try.func23, Try.ntmps23
  go_upto_region 2 with fail
  have hs := (((St.start w).alloc (ac c0 c1 c2)).alloc (.cells #[.int .i64 0, .int .i64 0] 60)).alloc (.cells #[.int .i64 1, .int .i64 1] 60)
  simp only [World.size_alloc] at hs
  generalize ((w.alloc (ac c0 c1 c2)).alloc (.cells #[.int .i64 0, .int .i64 0] 60)).alloc (.cells #[.int .i64 1, .int .i64 1] 60) = w1 at hs ⊢
  generalize hb : w.heap.size = b at hs ⊢
  obtain ⟨l0, l1, l2⟩ := hs.col (b := b) (x := c0) (y := c1) (z := c2) (t := 25) (by simp)
  have HS : Hid (St w [(b + 1 + 1, .cells #[.int .i64 1, .int .i64 1] 60), (b + 1, .cells #[.int .i64 0, .int .i64 0] 60)] w1) := hs.sub (by intro z hz; simp at hz ⊢; rcases hz with h | h <;> simp [h])
  clear hs
  go_upto_region 3 with fail
  clear l0 l1 l2
  go_loopw [11] (fun i wr => ∃ k : Nat, k ≤ 3 ∧ i = .int .i64 k ∧ Hid (St w [(b + 1 + 1, .cells #[.int .i64 (kp ⟨c0, c1, c2⟩ l k).1, .int .i64 (kp ⟨c0, c1, c2⟩ l k).2] 60), (b + 1, .cells #[.int .i64 0, .int .i64 0] 60)] wr)) (fun i _ => 3 - (intOf i).toNat)
  case atStart => exact ⟨0, by omega, rfl, HS.out⟩
  case round =>
    obtain ⟨k, hk, rfl, HT⟩ := hrel
    by_cases hlt : k < 3
    · have ix := ix_at ⟨c0, c1, c2⟩ k hlt
      have hp := HK.out k
      have hv := HC.out k
      have hn : Hid (kp ⟨c0, c1, c2⟩ l (k + 1) = lst2 (kp ⟨c0, c1, c2⟩ l k) (alw (C3.at ⟨c0, c1, c2⟩ k) l)) := rfl
      have hq := alw_pb hv.1 hv.2 h3 h4
      generalize C3.at ⟨c0, c1, c2⟩ k = v at ix hv hn hq
      obtain ⟨v1, v2⟩ := hv
      have HA := Lib.hid (fun V => allowed_any v l V v1 v2 h3 h4)
      generalize alw v l = q at HA hn hq
      generalize kp ⟨c0, c1, c2⟩ l k = p at HT hn hp
      obtain ⟨p1, p2⟩ := p
      obtain ⟨q1, q2⟩ := q
      obtain ⟨x1, x2, x3, x4⟩ := hp
      obtain ⟨y1, y2, y3, y4⟩ := hq
      simp only at x1 x2 x3 x4 y1 y2 y3 y4 HT
      have m1 := mul_bd y1 y2 (by omega : 0 ≤ p2) x4
      have m2 := mul_bd x1 x2 (by omega : 0 ≤ q2) y4
      obtain ⟨z1, hz1⟩ : ∃ z, q1 * p2 = z := ⟨_, rfl⟩
      obtain ⟨z2, hz2⟩ : ∃ z, p1 * q2 = z := ⟨_, rfl⟩
      rw [hz1] at m1
      rw [hz2] at m2
      have g1 : IntKind.i64.wrap (q1 * p2) = z1 := by rw [hz1]; exact wr_in (by omega)
      have g2 : IntKind.i64.wrap (p1 * q2) = z2 := by rw [hz2]; exact wr_in (by omega)
      have g3 : wrap64 (q1 * p2) = z1 := (IntWalk.i64_left _).symm.trans g1
      have g4 : wrap64 (p1 * q2) = z2 := (IntWalk.i64_left _).symm.trans g2
      have hl : Hid (lst2 (p1, p2) (q1, q2) = if z1 < z2 then (q1, q2) else (p1, p2)) := by unfold Hid lst2; simp only [hz1, hz2]
      have HZ := Lib.hid (And.intro hz1 hz2)
      clear hz1 hz2 x1 x2 x3 x4 y1 y2 y3 y4 HK HC v1 v2 m1 m2
      go_upto_region 5 with fail
      clear ix
      go_upto_region 6 with (go_at_call 45; (refine (HA.out _).mono ?_); rintro e w2 ⟨rfl, h2⟩)
      have h5 := (HT.out.later h2).alloc (.cells #[.int .i64 q1, .int .i64 q2] 60)
      have hgt : w.heap.size ≤ w2.heap.size := (HT.out.later h2).below.size
      clear HT h2 HA
      generalize w2.alloc (.cells #[.int .i64 q1, .int .i64 q2] 60) = w3 at h5 ⊢
      generalize w2.heap.size = g at h5 hgt ⊢
      have e0 := h5.cell (b := g) (cs := #[.int .i64 q1, .int .i64 q2]) (t := 60) (by simp) 0
      have e1 := h5.cell (b := g) (cs := #[.int .i64 q1, .int .i64 q2]) (t := 60) (by simp) 1
      have e2 := h5.cell (b := b + 1 + 1) (cs := #[.int .i64 p1, .int .i64 p2]) (t := 60) (by simp) 0
      have e3 := h5.cell (b := b + 1 + 1) (cs := #[.int .i64 p1, .int .i64 p2]) (t := 60) (by simp) 1
      have f2 := h5.frozen (b := b + 1 + 1) (cs := #[.int .i64 p1, .int .i64 p2]) (t := 60) (by simp) 0
      have f3 := h5.frozen (b := b + 1 + 1) (cs := #[.int .i64 p1, .int .i64 p2]) (t := 60) (by simp) 1
      simp only [pair0, pair1] at e0 e1 e2 e3
      have h6 : St w [(b + 1 + 1, .cells #[.int .i64 p1, .int .i64 p2] 60), (b + 1, .cells #[.int .i64 0, .int .i64 0] 60)] w3 := h5.sub (by intro z hz; simp at hz ⊢; rcases hz with h | h <;> simp [h])
      have h7 : St w [(b + 1 + 1, .cells #[.int .i64 q1, .int .i64 q2] 60), (b + 1, .cells #[.int .i64 0, .int .i64 0] 60)] ((w3.setCell ⟨b + 1 + 1, 0, none⟩ (.int .i64 q1)).setCell ⟨b + 1 + 1, 1, none⟩ (.int .i64 q2)) := h6.putp (by omega) (by simp)
      clear h5
      cases hlz : decide (z1 < z2)
      · have hn2 : Hid (kp ⟨c0, c1, c2⟩ l (k + 1) = (p1, p2)) := by unfold Hid; rw [hn.out, hl.out, if_neg (by simpa using hlz)]
        have HH := Lib.hid h6
        clear h6 h7 hn hl hgt hb h3 h4
        go_wp2_with fail
        go_roundw
        case rel => exact ⟨k + 1, by omega, by go_num, by rw [hn2.out]; exact HH⟩
        case measure => simp [intOf]; omega
      · have hn2 : Hid (kp ⟨c0, c1, c2⟩ l (k + 1) = (q1, q2)) := by unfold Hid; rw [hn.out, hl.out, if_pos (by simpa using hlz)]
        have HH := Lib.hid h7
        clear h6 h7 hn hl hgt hb h3 h4
        go_wp2_with fail
        go_roundw
        case rel => exact ⟨k + 1, by omega, by go_num, by rw [hn2.out]; exact HH⟩
        case measure => simp [intOf]; omega
    · obtain rfl : k = 3 := by omega
      have h6 := HT.out
      obtain ⟨p, hp⟩ : ∃ p, kp ⟨c0, c1, c2⟩ l 3 = p := ⟨_, rfl⟩
      have HP := Lib.hid hp
      rw [hp] at h6
      clear hp
      obtain ⟨p1, p2⟩ := p
      subst hb
      have e2 := h6.cell (b := w.heap.size + 1 + 1) (cs := #[.int .i64 p1, .int .i64 p2]) (t := 60) (by simp) 0
      have e3 := h6.cell (b := w.heap.size + 1 + 1) (cs := #[.int .i64 p1, .int .i64 p2]) (t := 60) (by simp) 1
      have e0 := h6.cell (b := w.heap.size + 1) (cs := #[.int .i64 0, .int .i64 0]) (t := 60) (by simp) 0
      have e1 := h6.cell (b := w.heap.size + 1) (cs := #[.int .i64 0, .int .i64 0]) (t := 60) (by simp) 1
      have f0 := h6.frozen (b := w.heap.size + 1) (cs := #[.int .i64 0, .int .i64 0]) (t := 60) (by simp) 0
      have f1 := h6.frozen (b := w.heap.size + 1) (cs := #[.int .i64 0, .int .i64 0]) (t := 60) (by simp) 1
      simp only [pair0, pair1] at e0 e1 e2 e3
      clear HC HK
      go_wp2_with fail
      exact bodyPost_ret (v := rp (p1, p2)) (by simp [results, Try.results23, go_sem, *]) rfl ⟨by rw [HP.out], (h6.below.setCell (p := ⟨w.heap.size + 1, 0, none⟩) (Nat.le_succ _) _).setCell (p := ⟨w.heap.size + 1, 1, none⟩) (Nat.le_succ _) _⟩
/-- the channel v of a clipped colour: kept to n / d of its distance from the grey l -/
def cut (l v n d : Int) : Int := l + ((v - l) * n).tdiv d
theorem clip1_any (k v l : Int) (p : Int × Int) (bg bk : Nat) (w : World) (h1 : w.cell? ⟨bg, 0, none⟩ = some (.int .i64 l)) (h2 : w.cell? ⟨bk, 0, none⟩ = some (.int .i64 p.1)) (h3 : w.cell? ⟨bk, 1, none⟩ = some (.int .i64 p.2))
    (v1 : -16777216 ≤ v) (v2 : v ≤ 16777216) (l1 : 0 ≤ l) (l2 : l ≤ 65535) (hp : PB p) :
    Calls Try.prog 25 #[.int .i64 k, .int .i64 v, .pointer (some ⟨bg, 0, none⟩), .pointer (some ⟨bk, 0, none⟩)] w fun e w' => e = .returned (.int .i64 (cut l v p.1 p.2)) ∧ Below w.heap.size w w' := by
  obtain ⟨n, d⟩ := p
  obtain ⟨p1, p2, p3, p4⟩ := hp
  simp only at p1 p2 p3 p4 h2 h3
  unfold cut
  have m := mul_abs (a := v - l) (b := n) (A := 33554432) (B := 65535) (by omega) (by omega) (by omega) p2
  obtain ⟨x, hx⟩ : ∃ x, v - l = x := ⟨_, rfl⟩
  rw [hx] at m
  have g0 : IntKind.i64.wrap (v - l) = x := by rw [hx]; exact wr_in (by omega)
  have g00 : wrap64 (v - l) = x := (IntWalk.i64_left _).symm.trans g0
  obtain ⟨z, hz⟩ : ∃ z, x * n = z := ⟨_, rfl⟩
  rw [hz] at m
  have g1 : IntKind.i64.wrap (x * n) = z := by rw [hz]; exact wr_in (by omega)
  have g3 : wrap64 (x * n) = z := (IntWalk.i64_left _).symm.trans g1
  have hq : (z.tdiv d).natAbs ≤ z.natAbs := Int.natAbs_tdiv_le_natAbs z d
  have hd0 : (d == 0) = false := by simp; omega
  have hd1 : (d = 0) = False := by simp; omega
  rw [hx, hz]
  have HH := Lib.hid (And.intro hx hz)
  obtain ⟨q, hq'⟩ : ∃ q, z.tdiv d = q := ⟨_, rfl⟩
  have g4 : IntKind.i64.wrap (z.tdiv d) = q := by rw [hq']; exact wr_in (by omega)
  have g5 : wrap64 (z.tdiv d) = q := (IntWalk.i64_left _).symm.trans g4
  rw [hq'] at hq ⊢
  have g6 : IntKind.i64.wrap (l + q) = l + q := wr_in (by omega)
  have HQ := Lib.hid hq'
  clear hx hz hq' hq m p1 p2 p3 p4 v1 v2 l1 l2
  have key : Calls Try.prog 25 #[.int .i64 k, .int .i64 v, .pointer (some ⟨bg, 0, none⟩), .pointer (some ⟨bk, 0, none⟩)] w fun e w' => e = .returned (.int .i64 (l + q)) ∧ ∃ m, w' = w.drewN m := by
    go_enter Try.func25, Try.ntmps25
    go_upto_region 1 with fail
    go_quiet (fail)
    go_wp2_with fail
    go_ret
    exact ⟨rfl, _, rfl⟩
  exact quiet_below key
end Go.Proofs.Ytcmplgiilcfncaa.K
