/-
  The reference's Grid: whether a grid is valid.
-/
import Derived.Test.YtcmplgiilcfncaaKRGam
import Derived.Deep.RegionHeld3
namespace Go.Proofs.Ytcmplgiilcfncaa.K
open Go.RowKit
set_option maxRecDepth 100000
variable {W w w' : World} {L : List (Nat × Obj)}

theorem not_gv {n : Int} {l : List C3} {r : Bool} (hr : r = true ↔ ∃ m : Nat, n = m ∧ GV m l) (h : ∀ m : Nat, n = m → ¬ GV m l) : r = false := by
  cases r with
  | false => rfl
  | true => obtain ⟨m, e, g⟩ := hr.1 rfl; exact absurd g (h m e)
theorem gmt_eq {x y z : Int} (h : InG ⟨x, y, z⟩) : clp 0 65535 x = x ∧ clp 0 65535 y = y ∧ clp 0 65535 z = z := by
  obtain ⟨⟨a, b⟩, ⟨c, d⟩, e, f⟩ := h
  simp only [] at a b c d e f
  unfold clp
  omega
theorem gmt_ne {x y z : Int} (h : ¬ InG ⟨x, y, z⟩) : (x == clp 0 65535 x && (y == clp 0 65535 y && z == clp 0 65535 z)) = false := by
  rw [Bool.eq_false_iff]
  intro h2
  simp only [Bool.and_eq_true, beq_iff_eq] at h2
  refine h ⟨?_, ?_, ?_⟩
  · unfold Gm; have := h2.1; unfold clp at this; simp only []; omega
  · unfold Gm; have := h2.2.1; unfold clp at this; simp only []; omega
  · unfold Gm; have := h2.2.2; unfold clp at this; simp only []; omega
theorem gv_cells {b : Nat} {n : Int} {v : Value} (h : St W [(b, gob n v)] w) : w.cell? ⟨b, 0, none⟩ = some (.int .i64 n) ∧ w.cell? ⟨b, 1, none⟩ = some v := by
  have c := h.cell (b := b) (cs := #[.int .i64 n, v]) (t := 30) (by simp)
  exact ⟨c 0, c 1⟩
theorem eqIn_col (a b c d e f : Int) (w : World) : (Op.equalIn 10000 25 (ag a b c) (ag d e f)).run Try.prog w = .ok (a == d && (b == e && c == f)) w := by
  rw [show (10000 : Nat) = 9998 + 1 + 1 from rfl]
  rw [Op.equalIn]
  rw [Sem.run_bind, run_underlying Try.underlying25]
  simp only [Result.andThen_ok]
  have hsz : (sizeOf 3).run Try.prog w = .ok 1 w := by kernel_rfl
  rw [Sem.run_bind, hsz]
  simp only [Result.andThen_ok]
  rw [Std.Legacy.Range.forIn_eq_forIn_range', show List.range' [:3].start [:3].size [:3].step = [0, 1, 2] from rfl]
  have p0 : ∀ x y z : Int, ∀ V, (part 3 #[Value.int .i64 x, Value.int .i64 y, Value.int .i64 z] (0 * 1)).run Try.prog V = .ok (.int .i64 x) V := fun _ _ _ _ => rfl
  have p1 : ∀ x y z : Int, ∀ V, (part 3 #[Value.int .i64 x, Value.int .i64 y, Value.int .i64 z] (1 * 1)).run Try.prog V = .ok (.int .i64 y) V := fun _ _ _ _ => rfl
  have p2 : ∀ x y z : Int, ∀ V, (part 3 #[Value.int .i64 x, Value.int .i64 y, Value.int .i64 z] (2 * 1)).run Try.prog V = .ok (.int .i64 z) V := fun _ _ _ _ => rfl
  cases h1 : a == d <;> cases h2 : b == e <;> cases h3 : c == f <;> simp only [List.forIn_cons, List.forIn_nil, Sem.run_bind, p0, p1, p2, eq1, h1, h2, h3, Result.andThen_ok, Sem.run_ite, Sem.run_pure, Bool.not_true, Bool.not_false, Bool.false_eq_true, if_true, if_false, Bool.and_true, Bool.and_false]
set_option maxHeartbeats 8000000 in
theorem rgrid_any (n : Int) (v : Value) (l : List C3) (r : Bool) (w : World) (hc : Cls w v l) (hl : l.length ≤ 1000000000) (hr : r = true ↔ ∃ m : Nat, n = m ∧ GV m l) :
    Calls Try.prog 14 #[gv n v] w fun e w' => e = .returned (.bool r) ∧ Below w.heap.size w w' := by
  obtain ⟨N, hN⟩ : ∃ N, l.length = N := ⟨_, rfl⟩
  have hcl := hc
  obtain ⟨po, cap, rfl, _, _, hrow⟩ := hc
  rw [hN] at hrow hcl hl ⊢
  have hs := (St.start w).alloc (gob n (.slice po N cap))
  obtain ⟨c0, c1⟩ := gv_cells hs
  have hs0 := hs
  by_cases h2 : n < 2
  · obtain rfl := not_gv hr fun m e g => by have := g.two; subst e; omega
    have hb := Lib.hid hs.below
    clear hs hs0 hr hrow hcl hl
    go_enter Try.func14, Try.ntmps14
    go_upto_region 1 with fail
    generalize w.alloc (gob n (.slice po N cap)) = w1 at hb c0 c1 ⊢
    go_wp2_with fail
    go_ret
    exact ⟨rfl, hb.out⟩
  by_cases h17 : 17 < n
  · obtain rfl := not_gv hr fun m e g => by have := g.max; subst e; omega
    have hb := Lib.hid hs.below
    clear hs hs0 hr hrow hcl hl
    go_enter Try.func14, Try.ntmps14
    go_upto_region 1 with fail
    generalize w.alloc (gob n (.slice po N cap)) = w1 at hb c0 c1 ⊢
    go_wp2_with fail
    go_ret
    exact ⟨rfl, hb.out⟩
  obtain ⟨m, rfl⟩ : ∃ m : Nat, n = m := ⟨n.toNat, by omega⟩
  have h2m : 2 ≤ m := by omega
  have h17m : m ≤ 17 := by omega
  obtain ⟨m2, m3, hm3, g2, g3, g4, g5⟩ := cube_of (n := m) h17m
  have HGS := Lib.hid (And.intro g2 (And.intro g3 (And.intro g4 g5)))
  clear g2 g3 g4 g5
  have HM3 := Lib.hid hm3
  by_cases hlen : N = m3
  · have hm3p : 0 < m3 := by
      rw [hm3]; exact Nat.mul_pos (Nat.mul_pos (Nat.lt_of_lt_of_le (by decide) h2m) (Nat.lt_of_lt_of_le (by decide) h2m)) (Nat.lt_of_lt_of_le (by decide) h2m)
    clear hm3
    have e2 : ((N : Int) == m3) = true := beq_iff_eq.2 (by rw [hlen])
    have e1 : ((N : Int) != m3) = false := by rw [bne, e2]; rfl
    obtain ⟨bl, ol, rfl, hrw⟩ := hrow (by rw [hlen]; exact hm3p)
    have HX : Hid (∀ V, Below w.heap.size w V → ∀ i, i < N → CB3 V bl (ol + i * 3) (c3n l i)) := fun V hV i hi => (hrw.later hV).at' i (by rw [hN]; exact hi)
    have HY : Hid (∀ i, i < N → ¬ InG (c3n l i) → r = false) := fun i hi h => not_gv hr fun m' e g => h (g.gam i (by rw [hN]; exact hi))
    have HZ : Hid ((∀ i, i < N → InG (c3n l i)) → r = true) := fun h => hr.2 ⟨m, rfl, ⟨h2m, h17m, by rw [hN, hlen, HM3.out], fun i hi => h i (by rw [← hN]; exact hi)⟩⟩
    have HG : Hid (∀ x y z V, Below w.heap.size w V → Calls Try.prog 35 #[ag x y z] V fun e w' => e = .returned (ag (clp 0 65535 x) (clp 0 65535 y) (clp 0 65535 z)) ∧ Below V.heap.size V w') := fun x y z V _ => rgam_any x y z V
    have hNb : (N : Int) ≤ 1000000000 := by omega
    clear hr hrow hcl hrw hs0 hlen hm3p hl HM3
    obtain ⟨g2, g3, g4, g5⟩ := HGS.out
    go_enter Try.func14, Try.ntmps14
    go_upto_region 1 with fail
    generalize w.alloc (gob m (.slice (some ⟨bl, ol, none⟩) N cap)) = w1 at hs c0 c1 ⊢
    generalize hb : w.heap.size = b at hs c0 c1 HX HG ⊢
    go_upto_region 3 with fail
    clear c0 c1 e1 e2 g2 g3 g4 g5 h2 h17 h2m h17m HGS
    have HS := Lib.hid hs; clear hs
    go_wp2
    go_loopw [3] (fun v3 wr => ∃ k : Nat, k ≤ N ∧ v3 = .int .i64 k ∧ Hid (∀ i, i < k → InG (c3n l i)) ∧ Hid (St w [(b, gob m (.slice (some ⟨bl, ol, none⟩) N cap))] wr)) (fun i _ => N - (intOf i).toNat)
    case atStart => exact ⟨0, Nat.zero_le _, rfl, fun i hi => absurd hi (Nat.not_lt_zero _), HS⟩
    case round =>
      clear HS
      obtain ⟨k, hk, rfl, HI, HT⟩ := hrel
      rcases Nat.lt_or_ge k N with hlt | hge
      · have q0 : (0 : Int) ≤ k := Int.natCast_nonneg k
        have q1 : (k : Int) < N := Int.ofNat_lt.2 hlt
        obtain ⟨c0, c1⟩ := gv_cells HT.out
        go_upto_region 6 with fail
        clear c0 c1
        have hb0 : w.heap.size = b := hb
        have HP : Hid (∀ V, St w [(b, gob m (.slice (some ⟨bl, ol, none⟩) N cap))] V → (V.cell? ⟨b, 0, none⟩ = some (.int .i64 m) ∧ V.cell? ⟨b, 1, none⟩ = some (.slice (some ⟨bl, ol, none⟩) N cap)) ∧ CB3 V bl (ol + k * 3) (c3n l k) ∧ St w [(b, gob m (.slice (some ⟨bl, ol, none⟩) N cap))] V) := fun V h => ⟨gv_cells h, HX.out V (hb0 ▸ h.below) k hlt, h⟩
        have hd := HT.out.drew
        obtain ⟨⟨c0, c1⟩, ⟨o0, o1, o2⟩, _⟩ := HP.out _ hd
        have HYk := Lib.hid (HY.out k hlt)
        have HIk : Hid (InG (c3n l k) → ∀ i, i < k + 1 → InG (c3n l i)) := fun h i hi => by
          by_cases e : i = k
          · subst e; exact h
          · exact HI.out i (by omega)
        have HGk : Hid (∀ x y z V, St w [(b, gob m (.slice (some ⟨bl, ol, none⟩) N cap))] V → Calls Try.prog 35 #[ag x y z] V fun e w' => e = .returned (ag (clp 0 65535 x) (clp 0 65535 y) (clp 0 65535 z)) ∧ St w [(b, gob m (.slice (some ⟨bl, ol, none⟩) N cap))] w') := fun x y z V hV => St.call hV (rgam_any x y z V)
        generalize c3n l k = X at HP HYk HIk o0 o1 o2
        obtain ⟨x, y, z⟩ := X
        simp only [] at o0 o1 o2
        have hw1 : wrap64 ((k : Int) + 1) = k + 1 := wrap_in (by omega)
        by_cases hin : InG ⟨x, y, z⟩
        · obtain ⟨d0, d1, d2⟩ := gmt_eq hin
          have HGx := Lib.hid (HGk.out x y z)
          rw [d0, d1, d2] at HGx
          have hnq : ∀ V, (Op.equalIn 10000 25 (ag x y z) (ag x y z)).run Try.prog V = .ok true V := fun V => by rw [eqIn_col]; simp
          clear d0 d1 d2 HG HGk
          have hI2 := Lib.hid (HIk.out hin)
          clear HIk HYk HY HZ hin HI HX
          go_region_held3 (fun V => (V.cell? ⟨b, 0, none⟩ = some (.int .i64 m) ∧ V.cell? ⟨b, 1, none⟩ = some (.slice (some ⟨bl, ol, none⟩) N cap)) ∧ CB3 V bl (ol + k * 3) ⟨x, y, z⟩ ∧ St w [(b, gob m (.slice (some ⟨bl, ol, none⟩) N cap))] V) ((refine HP.out _ ?_; assumption)) (first
            | (go_at_call 35; (with_reducible refine (HGx.out _ (by assumption)).mono ?_); rintro e w4 ⟨rfl, h4⟩))
          rename_i hHeld
          obtain ⟨_, _, hX⟩ := hHeld
          have HX2 := Lib.hid hX
          clear hX hd c0 c1 o0 o1 o2
          go_wp2_with fail
          go_roundw
          case rel => exact ⟨k + 1, by omega, by go_num, hI2, HX2⟩
          case measure => simp [intOf]; omega
        · have HGx := Lib.hid (HGk.out x y z)
          have hne := gmt_ne hin
          obtain rfl := HYk.out hin
          have hnq : ∀ V, (Op.equalIn 10000 25 (ag x y z) (ag (clp 0 65535 x) (clp 0 65535 y) (clp 0 65535 z))).run Try.prog V = .ok (x == clp 0 65535 x && (y == clp 0 65535 y && z == clp 0 65535 z)) V := fun V => eqIn_col _ _ _ _ _ _ V
          simp only [hne] at hnq
          clear HG HGk HIk HYk HY HZ hin HI HX
          generalize clp 0 65535 x = x' at HGx hne hnq
          generalize clp 0 65535 y = y' at HGx hne hnq
          generalize clp 0 65535 z = z' at HGx hne hnq
          go_region_held3 (fun V => (V.cell? ⟨b, 0, none⟩ = some (.int .i64 m) ∧ V.cell? ⟨b, 1, none⟩ = some (.slice (some ⟨bl, ol, none⟩) N cap)) ∧ CB3 V bl (ol + k * 3) ⟨x, y, z⟩ ∧ St w [(b, gob m (.slice (some ⟨bl, ol, none⟩) N cap))] V) ((refine HP.out _ ?_; assumption)) (first
            | (go_at_call 35; (with_reducible refine (HGx.out _ (by assumption)).mono ?_); rintro e w4 ⟨rfl, h4⟩))
          rename_i hHeld
          obtain ⟨_, _, hX⟩ := hHeld
          have HB := Lib.hid hX.below
          clear hX hd c0 c1 o0 o1 o2
          go_wp2_with fail
          go_ret
          exact ⟨rfl, hb ▸ HB.out⟩
      · obtain rfl : N = k := by omega
        obtain ⟨c0, c1⟩ := gv_cells HT.out
        have hB := Lib.hid HT.out.below
        obtain rfl := HZ.out HI.out
        go_wp2_with fail
        go_ret
        exact ⟨rfl, by rw [← hb]; exact hb ▸ hB.out⟩
  · have e2 : ((N : Int) == m3) = false := beq_eq_false_iff_ne.2 (fun e => hlen (Int.ofNat.inj e))
    have e1 : ((N : Int) != m3) = true := by rw [bne, e2]; rfl
    obtain rfl := not_gv hr fun m' e g => hlen (by have : m' = m := (Int.ofNat.inj e).symm
                                                   subst this; rw [← hN, g.len, HM3.out])
    have hb := Lib.hid hs.below
    clear hs hs0 hr hrow hcl hl hlen hm3
    obtain ⟨g2, g3, g4, g5⟩ := HGS.out
    go_enter Try.func14, Try.ntmps14
    go_upto_region 1 with fail
    generalize w.alloc (gob m (.slice po N cap)) = w1 at hb c0 c1 ⊢
    go_wp2_with fail
    go_ret
    exact ⟨rfl, hb.out⟩
end Go.Proofs.Ytcmplgiilcfncaa.K
