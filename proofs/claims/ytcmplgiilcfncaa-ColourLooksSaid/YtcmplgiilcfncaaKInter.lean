/-
  interpolate: a colour in a valid grid.
-/
import Derived.Test.YtcmplgiilcfncaaKIpl
namespace Go.Proofs.Ytcmplgiilcfncaa.K
open Go.RowKit
variable {W w w' : World} {L : List (Nat × Obj)}

theorem jx0 (x y z : Int) (V : World) : (Instr.index 24 (ag x y z) (.int .i64 0)).run Try.prog V = .ok (.int .i64 x) V := by kernel_rfl
theorem jx1 (x y z : Int) (V : World) : (Instr.index 24 (ag x y z) (.int .i64 1)).run Try.prog V = .ok (.int .i64 y) V := by kernel_rfl
theorem jx2 (x y z : Int) (V : World) : (Instr.index 24 (ag x y z) (.int .i64 2)).run Try.prog V = .ok (.int .i64 z) V := by kernel_rfl
theorem round1_any (k v : Int) (w : World) (h0 : 0 ≤ v) (h1 : v ≤ 1000000000000) : Calls Try.prog 34 (#[.int .i64 k, .int .i64 v] ++ #[]) w fun e w' => e = .returned (.int .i64 ((v + 32767) / 65535)) ∧ Below w.heap.size w w' := by
  have key : Calls Try.prog 34 #[.int .i64 k, .int .i64 v] w fun e w' => e = .returned (.int .i64 ((v + 32767) / 65535)) ∧ Below w.heap.size w w' := by
    go_enter Try.func34, Try.ntmps34
    go_wp2
    go_ret
    exact ⟨rfl, Below.refl _ _⟩
  exact key
def four {α : Type} (a b c d : α) : Nat → α
  | 0 => a
  | 1 => b
  | 2 => c
  | _ => d
/-- the numbers of an interpolation -/
theorem ipl_facts {n : Nat} (h2 : 2 ≤ n) (h17 : n ≤ 17) (l : List C3) (hl : l.length = n * n * n) (c : C3) : ∃ (m2 : Nat) (x0 x1 : Int) (Q0 Q1 Q2 Q3 : Nat),
    (IntKind.i64.wrap ((n : Int) * n) = m2 ∧ wrap64 ((n : Int) * n) = m2 ∧ (m2 : Int) = (n : Int) * n) ∧
    (IntKind.i64.wrap (cel n (clp 0 65535 c.r) * (m2 : Int)) = x0 ∧ wrap64 (cel n (clp 0 65535 c.r) * (m2 : Int)) = x0 ∧ IntKind.i64.wrap (cel n (clp 0 65535 c.g) * (n : Int)) = x1 ∧ wrap64 (cel n (clp 0 65535 c.g) * (n : Int)) = x1) ∧
    (IntKind.i64.wrap (cel n (clp 0 65535 c.b)) = cel n (clp 0 65535 c.b) ∧ wrap64 (cel n (clp 0 65535 c.b)) = cel n (clp 0 65535 c.b)) ∧ (IntKind.i64.wrap (x0 + x1) = x0 + x1 ∧ IntKind.i64.wrap (x0 + x1 + cel n (clp 0 65535 c.b)) = Q0 ∧ wrap64 (x0 + x1 + cel n (clp 0 65535 c.b)) = Q0) ∧
    (q0 n c = Q0 ∧ q1 n c = Q1 ∧ q2 n c = Q2 ∧ q3 n c = Q3) ∧ (Q0 < l.length ∧ Q1 < l.length ∧ Q2 < l.length ∧ Q3 < l.length ∧ l.length ≤ 4913) := by
  obtain ⟨⟨a0, a1⟩, ⟨b0, b1⟩, ⟨d0, d1⟩, ⟨e0, e1⟩⟩ := cor_bd (n := n) (by omega) (by omega) c
  have hb2 : n * n ≤ 17 * 17 := Nat.mul_le_mul h17 h17
  have hb3 : n * n * n ≤ 17 * 17 * 17 := Nat.mul_le_mul hb2 h17
  have i2 : (n : Int) * n = (n * n : Nat) := by simp
  have i3 : (n : Int) * n * n = (n * n * n : Nat) := by simp
  rw [i3, ← hl] at a1 b1 d1 e1
  rw [← hl] at hb3
  have hc : q0 n c = cel n (clp 0 65535 c.r) * ((n : Int) * n) + cel n (clp 0 65535 c.g) * n + cel n (clp 0 65535 c.b) := rfl
  obtain ⟨x0, x1⟩ := cel_rng (n := (n : Int)) (by omega) (by omega) c.r
  obtain ⟨y0, y1⟩ := cel_rng (n := (n : Int)) (by omega) (by omega) c.g
  obtain ⟨z0, z1⟩ := cel_rng (n := (n : Int)) (by omega) (by omega) c.b
  rw [i2] at hc
  have m0 := mul_bd x0 (by omega : cel n (clp 0 65535 c.r) ≤ 15) (by omega : (0 : Int) ≤ (n * n : Nat)) (by omega : ((n * n : Nat) : Int) ≤ 289)
  have m1 := mul_bd y0 (by omega : cel n (clp 0 65535 c.g) ≤ 15) (by omega : (0 : Int) ≤ n) (by omega : (n : Int) ≤ 17)
  generalize hX0 : cel n (clp 0 65535 c.r) * ((n * n : Nat) : Int) = X0 at hc m0
  generalize hX1 : cel n (clp 0 65535 c.g) * (n : Int) = X1 at hc m1
  generalize cel n (clp 0 65535 c.b) = Z at hc z0 z1 ⊢
  refine ⟨n * n, X0, X1, (q0 n c).toNat, (q1 n c).toNat, (q2 n c).toNat, (q3 n c).toNat, ⟨by rw [i2]; exact wr_in (by omega), by rw [i2]; exact wrap_in (by omega), by simp⟩, ⟨by rw [hX0]; exact wr_in (by omega), by rw [hX0]; exact wrap_in (by omega), wr_in (by omega), wrap_in (by omega)⟩, ⟨wr_in (by omega), wrap_in (by omega)⟩, ⟨wr_in (by omega), ?_, ?_⟩, ⟨by omega, by omega, by omega, by omega⟩, ⟨by omega, by omega, by omega, by omega, by omega⟩⟩
  · rw [wr_in (by omega)]; omega
  · rw [wrap_in (by omega)]; omega
set_option maxRecDepth 100000 in
set_option maxHeartbeats 16000000 in
theorem inter_any (n : Nat) (v : Value) (l : List C3) (c0 c1 c2 : Int) (w : World) (hcl : Cls w v l) (hg : GV n l) : Calls Try.prog 13 #[gv n v, ag c0 c1 c2] w fun e w' => e = .returned (ipl n l ⟨c0, c1, c2⟩).v ∧ Below w.heap.size w w' := by
  have h2 := hg.two
  have h17 := hg.max
  obtain ⟨m2, x0, x1, Q0, Q1, Q2, Q3, ⟨w1, w2, w3⟩, ⟨w4, w5, w6, w7⟩, ⟨w11, w12⟩, ⟨w8, w9, w10⟩, ⟨hq0, hq1, hq2, hq3⟩, ⟨l0, l1, l2, l3, l4⟩⟩ := ipl_facts h2 h17 l hg.len ⟨c0, c1, c2⟩
  obtain ⟨bl, ol, cap, rfl, _, _, hrow⟩ := hcl.row (by omega)
  obtain ⟨hp, hab, hbc⟩ := insO_perm (fo n ⟨c0, c1, c2⟩)
  have fr := fo_rng (n := (n : Int)) (by omega) (by omega) ⟨c0, c1, c2⟩
  have HLoc : Hid (∀ V, Calls Try.prog 31 #[ag c0 c1 c2, .int .i64 n] V fun e w' => e = .returned (.tuple #[ag (cel n (clp 0 65535 c0)) (cel n (clp 0 65535 c1)) (cel n (clp 0 65535 c2)), ag (fo n ⟨c0, c1, c2⟩ 0) (fo n ⟨c0, c1, c2⟩ 1) (fo n ⟨c0, c1, c2⟩ 2)]) ∧ Below V.heap.size V w') := fun V => locate_any c0 c1 c2 n V (by omega) (by omega)
  have HOff : Hid (∀ V, Calls Try.prog 32 #[ag (fo n ⟨c0, c1, c2⟩ 0) (fo n ⟨c0, c1, c2⟩ 1) (fo n ⟨c0, c1, c2⟩ 2)] V fun e w' => e = .returned (ag (ax n ⟨c0, c1, c2⟩).a (ax n ⟨c0, c1, c2⟩).b (ax n ⟨c0, c1, c2⟩).c) ∧ Below V.heap.size V w') := fun V => byOff_any _ _ _ V
  have HE : Hid (ipl n l ⟨c0, c1, c2⟩ = (s3 n l ⟨c0, c1, c2⟩).map fun v => (v + 32767) / 65535) := rfl
  have hS0 : s0 n l ⟨c0, c1, c2⟩ = wsum c30 (c3n l (q0 n ⟨c0, c1, c2⟩).toNat) (65535 - fo n ⟨c0, c1, c2⟩ (ax n ⟨c0, c1, c2⟩).a) := rfl
  have hS1 : s1 n l ⟨c0, c1, c2⟩ = wsum (s0 n l ⟨c0, c1, c2⟩) (c3n l (q1 n ⟨c0, c1, c2⟩).toNat) (fo n ⟨c0, c1, c2⟩ (ax n ⟨c0, c1, c2⟩).a - fo n ⟨c0, c1, c2⟩ (ax n ⟨c0, c1, c2⟩).b) := rfl
  have hS2 : s2 n l ⟨c0, c1, c2⟩ = wsum (s1 n l ⟨c0, c1, c2⟩) (c3n l (q2 n ⟨c0, c1, c2⟩).toNat) (fo n ⟨c0, c1, c2⟩ (ax n ⟨c0, c1, c2⟩).b - fo n ⟨c0, c1, c2⟩ (ax n ⟨c0, c1, c2⟩).c) := rfl
  have hS3 : s3 n l ⟨c0, c1, c2⟩ = wsum (s2 n l ⟨c0, c1, c2⟩) (c3n l (q3 n ⟨c0, c1, c2⟩).toNat) (fo n ⟨c0, c1, c2⟩ (ax n ⟨c0, c1, c2⟩).c) := rfl
  have hs1 : q1 n ⟨c0, c1, c2⟩ = q0 n ⟨c0, c1, c2⟩ + strd n (ax n ⟨c0, c1, c2⟩).a := rfl
  have hs2 : q2 n ⟨c0, c1, c2⟩ = q1 n ⟨c0, c1, c2⟩ + strd n (ax n ⟨c0, c1, c2⟩).b := rfl
  have hs3 : q3 n ⟨c0, c1, c2⟩ = q2 n ⟨c0, c1, c2⟩ + strd n (ax n ⟨c0, c1, c2⟩).c := rfl
  rw [hq0] at hS0 hs1
  rw [hq1] at hS1 hs1 hs2
  rw [hq2] at hS2 hs2 hs3
  rw [hq3] at hS3 hs3
  rw [Int.toNat_natCast] at hS0 hS1 hS2 hS3
  change fo n ⟨c0, c1, c2⟩ (ax n ⟨c0, c1, c2⟩).b ≤ fo n ⟨c0, c1, c2⟩ (ax n ⟨c0, c1, c2⟩).a at hab
  change fo n ⟨c0, c1, c2⟩ (ax n ⟨c0, c1, c2⟩).c ≤ fo n ⟨c0, c1, c2⟩ (ax n ⟨c0, c1, c2⟩).b at hbc
  change Perm3 (ax n ⟨c0, c1, c2⟩) at hp
  obtain ⟨hta, htb, htc⟩ := hp.lt
  have hF : ∀ k, k < 3 → f3 (fo n ⟨c0, c1, c2⟩ 0) (fo n ⟨c0, c1, c2⟩ 1) (fo n ⟨c0, c1, c2⟩ 2) k = fo n ⟨c0, c1, c2⟩ k := fun k hk => by
    rcases (by omega : k = 0 ∨ k = 1 ∨ k = 2) with rfl | rfl | rfl <;> rfl
  have hG : ∀ k, k < 3 → f3 (m2 : Int) n 1 k = strd n k := fun k hk => by unfold strd; rw [w3]
  have fa := fr (ax n ⟨c0, c1, c2⟩).a
  have fb := fr (ax n ⟨c0, c1, c2⟩).b
  have fc := fr (ax n ⟨c0, c1, c2⟩).c
  have HFa := Lib.hid (hF _ hta); have HFb := Lib.hid (hF _ htb); have HFc := Lib.hid (hF _ htc)
  have HGa := Lib.hid (hG _ hta); have HGb := Lib.hid (hG _ htb); have HGc := Lib.hid (hG _ htc)
  have g0 := hg.gam Q0 l0; have g1 := hg.gam Q1 l1; have g2 := hg.gam Q2 l2; have g3 := hg.gam Q3 l3
  have p0 := hrow.at' Q0 l0; have p1 := hrow.at' Q1 l1; have p2 := hrow.at' Q2 l2; have p3 := hrow.at' Q3 l3
  have hbl := hrow.lt
  clear hF hG fr hp hq0 hq1 hq2 hq3 w3 hg hcl hrow
  generalize cel n (clp 0 65535 c0) = A0 at *
  generalize cel n (clp 0 65535 c1) = A1 at *
  generalize cel n (clp 0 65535 c2) = A2 at *
  generalize s3 n l ⟨c0, c1, c2⟩ = S3 at *
  generalize s2 n l ⟨c0, c1, c2⟩ = S2 at *
  generalize s1 n l ⟨c0, c1, c2⟩ = S1 at *
  generalize s0 n l ⟨c0, c1, c2⟩ = S0 at *
  generalize fo n ⟨c0, c1, c2⟩ 0 = F0 at *
  generalize fo n ⟨c0, c1, c2⟩ 1 = F1 at *
  generalize fo n ⟨c0, c1, c2⟩ 2 = F2 at *
  generalize hT : ax n ⟨c0, c1, c2⟩ = T at *
  clear hT
  obtain ⟨ta, tb, tc⟩ := T
  simp only [] at hta htb htc hab hbc hs1 hs2 hs3 hS0 hS1 hS2 hS3 HFa HFb HFc HGa HGb HGc fa fb fc HOff
  generalize fo n ⟨c0, c1, c2⟩ ta = Fa at *
  generalize fo n ⟨c0, c1, c2⟩ tb = Fb at *
  generalize fo n ⟨c0, c1, c2⟩ tc = Fc at *
  generalize strd n ta = Sa at *
  generalize strd n tb = Sb at *
  generalize strd n tc = Sc at *
  generalize c3n l Q0 = P0 at *
  generalize c3n l Q1 = P1 at *
  generalize c3n l Q2 = P2 at *
  generalize c3n l Q3 = P3 at *
  have e0 : (0 ≤ S0.r ∧ S0.r ≤ 4294836225) ∧ (0 ≤ S0.g ∧ S0.g ≤ 4294836225) ∧ (0 ≤ S0.b ∧ S0.b ≤ 4294836225) := by
    have := sum_bd (s := c30) (B := 0) g0 (by omega : 0 ≤ 65535 - Fa) (by omega) (by simp [c30])
    rw [hS0]; simpa using this
  have e1 := sum_bd (B := 4294836225) g1 (by omega : 0 ≤ Fa - Fb) (by omega) e0
  rw [← hS1] at e1
  have e2 := sum_bd g2 (by omega : 0 ≤ Fb - Fc) (by omega) e1
  rw [← hS2] at e2
  have e3 := sum_bd g3 fc.1 fc.2 e2
  rw [← hS3] at e3
  have HA0 : Hid (∀ V, Calls Try.prog 33 #[ag 0 0 0, ag P0.r P0.g P0.b, .int .i64 (65535 - Fa)] V fun e w' => e = .returned S0.v ∧ Below V.heap.size V w') := fun V => by
    have h := add_any 0 0 0 P0.r P0.g P0.b (65535 - Fa) V ⟨by omega, by omega, g0.1.1, g0.1.2, by omega, by omega⟩ ⟨by omega, by omega, g0.2.1.1, g0.2.1.2, by omega, by omega⟩ ⟨by omega, by omega, g0.2.2.1, g0.2.2.2, by omega, by omega⟩
    rw [hS0]; exact h
  have HA1 : Hid (∀ V, Calls Try.prog 33 #[ag S0.r S0.g S0.b, ag P1.r P1.g P1.b, .int .i64 (Fa - Fb)] V fun e w' => e = .returned S1.v ∧ Below V.heap.size V w') := fun V => by
    have h := add_any S0.r S0.g S0.b P1.r P1.g P1.b (Fa - Fb) V ⟨by omega, by omega, g1.1.1, g1.1.2, by omega, by omega⟩ ⟨by omega, by omega, g1.2.1.1, g1.2.1.2, by omega, by omega⟩ ⟨by omega, by omega, g1.2.2.1, g1.2.2.2, by omega, by omega⟩
    rw [hS1]; exact h
  have HA2 : Hid (∀ V, Calls Try.prog 33 #[ag S1.r S1.g S1.b, ag P2.r P2.g P2.b, .int .i64 (Fb - Fc)] V fun e w' => e = .returned S2.v ∧ Below V.heap.size V w') := fun V => by
    have h := add_any S1.r S1.g S1.b P2.r P2.g P2.b (Fb - Fc) V ⟨by omega, by omega, g2.1.1, g2.1.2, by omega, by omega⟩ ⟨by omega, by omega, g2.2.1.1, g2.2.1.2, by omega, by omega⟩ ⟨by omega, by omega, g2.2.2.1, g2.2.2.2, by omega, by omega⟩
    rw [hS2]; exact h
  have HA3 : Hid (∀ V, Calls Try.prog 33 #[ag S2.r S2.g S2.b, ag P3.r P3.g P3.b, .int .i64 Fc] V fun e w' => e = .returned S3.v ∧ Below V.heap.size V w') := fun V => by
    have h := add_any S2.r S2.g S2.b P3.r P3.g P3.b Fc V ⟨by omega, by omega, g3.1.1, g3.1.2, by omega, by omega⟩ ⟨by omega, by omega, g3.2.1.1, g3.2.1.2, by omega, by omega⟩ ⟨by omega, by omega, g3.2.2.1, g3.2.2.2, by omega, by omega⟩
    rw [hS3]; exact h
  have HMap : Hid (∀ V, Calls Try.prog 24 #[S3.v, .func (.func 34) #[] #[]] V fun e w' => e = .returned (C3.map (fun v => (v + 32767) / 65535) S3).v ∧ Below V.heap.size V w') := fun V =>
    map_any 34 #[] S3.r S3.g S3.b _ _ _ V (enters_of Try.func34 (by kernel_rfl) rfl)
      (fun X _ => round1_any 0 _ X (by omega) (by omega)) (fun X _ => round1_any 1 _ X (by omega) (by omega)) (fun X _ => round1_any 2 _ X (by omega) (by omega))
  generalize C3.map (fun v => (v + 32767) / 65535) S3 = D at HMap HE
  obtain ⟨d0, d1, d2⟩ := D
  obtain ⟨s30, s31, s32⟩ := S3
  obtain ⟨s20, s21, s22⟩ := S2
  obtain ⟨s10, s11, s12⟩ := S1
  obtain ⟨s00, s01, s02⟩ := S0
  obtain ⟨p00, p01, p02⟩ := P0
  obtain ⟨p10, p11, p12⟩ := P1
  obtain ⟨p20, p21, p22⟩ := P2
  obtain ⟨p30, p31, p32⟩ := P3
  clear hS0 hS1 hS2 hS3 e0 e1 e2 e3 g0 g1 g2 g3
  have hN : l.length = l.length := rfl
  generalize l.length = N at *
  clear hN
  have y0 : IntKind.i64.wrap (65535 - Fa) = 65535 - Fa := wr_in (by omega)
  have y1 : IntKind.i64.wrap (Fa - Fb) = Fa - Fb := wr_in (by omega)
  have y2 : IntKind.i64.wrap (Fb - Fc) = Fb - Fc := wr_in (by omega)
  have y3 : wrap64 (65535 - Fa) = 65535 - Fa := wrap_in (by omega)
  have y4 : wrap64 (Fa - Fb) = Fa - Fb := wrap_in (by omega)
  have y5 : wrap64 (Fb - Fc) = Fb - Fc := wrap_in (by omega)
  have z1 : IntKind.i64.wrap ((Q0 : Int) + Sa) = Q1 := by rw [← hs1]; exact wr_in (by omega)
  have z2 : IntKind.i64.wrap ((Q1 : Int) + Sb) = Q2 := by rw [← hs2]; exact wr_in (by omega)
  have z3 : IntKind.i64.wrap ((Q2 : Int) + Sc) = Q3 := by rw [← hs3]; exact wr_in (by omega)
  have z4 : wrap64 ((Q0 : Int) + Sa) = Q1 := by rw [← hs1]; exact wrap_in (by omega)
  have z5 : wrap64 ((Q1 : Int) + Sb) = Q2 := by rw [← hs2]; exact wrap_in (by omega)
  have z6 : wrap64 ((Q2 : Int) + Sc) = Q3 := by rw [← hs3]; exact wrap_in (by omega)
  replace hs1 := Lib.hid hs1; replace hs2 := Lib.hid hs2; replace hs3 := Lib.hid hs3
  replace hab := Lib.hid hab; replace hbc := Lib.hid hbc
  have HP : Hid (∀ V, Below w.heap.size w V → CB3 V bl (ol + Q0 * 3) ⟨p00, p01, p02⟩ ∧ CB3 V bl (ol + Q1 * 3) ⟨p10, p11, p12⟩ ∧ CB3 V bl (ol + Q2 * 3) ⟨p20, p21, p22⟩ ∧ CB3 V bl (ol + Q3 * 3) ⟨p30, p31, p32⟩) := fun V hV => by
    have hc : ∀ j, V.cell? ⟨bl, j, none⟩ = w.cell? ⟨bl, j, none⟩ := fun j => hV.cell (p := ⟨bl, j, none⟩) hbl
    simp only [CB3, hc]
    exact ⟨p0, p1, p2, p3⟩
  clear p0 p1 p2 p3
  go_enter Try.func13, Try.ntmps13
  go_upto_region 1 with fail
  have hs := (((St.start w).alloc (gob n (.slice (some ⟨bl, ol, none⟩) N cap))).alloc (ac c0 c1 c2)).alloc (ac 0 0 0)
  simp only [World.size_alloc] at hs
  generalize ((w.alloc (gob n (.slice (some ⟨bl, ol, none⟩) N cap))).alloc (ac c0 c1 c2)).alloc (ac 0 0 0) = wA at hs ⊢
  generalize hb : w.heap.size = b at hs ⊢
  obtain ⟨k0, k1, k2⟩ := hs.col (b := b + 1) (x := c0) (y := c1) (z := c2) (t := 25) (by simp)
  have k3 := hs.cell (b := b) (cs := #[.int .i64 n, .slice (some ⟨bl, ol, none⟩) N cap]) (t := 30) (by simp) 0
  simp only [pair0] at k3
  go_upto_region 2 with (go_at_call 31; (refine (HLoc.out _).mono ?_); rintro e wB ⟨rfl, hB⟩)
  have j2 := ((hs.later hB).alloc (tri A0 A1 A2)).alloc (tri F0 F1 F2)
  rw [World.size_alloc] at j2
  have hgb := hs.lt (b := b + 1 + 1) (o := ac 0 0 0) (by simp)
  have hgb2 := hB.size
  clear hs hB k0 k1 k2 k3
  generalize (wB.alloc (tri A0 A1 A2)).alloc (tri F0 F1 F2) = wC at j2 ⊢
  generalize wB.heap.size = g at j2 hgb2 ⊢
  have k3 := j2.cell (b := b) (cs := #[.int .i64 n, .slice (some ⟨bl, ol, none⟩) N cap]) (t := 30) (by simp) 0
  simp only [pair0] at k3
  go_upto_region 3 with fail
  have j3 := j2.alloc (tri m2 n 1)
  have hg7 := j2.lt (b := g + 1) (o := tri F0 F1 F2) (by simp)
  clear j2 k3
  generalize wC.alloc (tri m2 n 1) = wD at j3 ⊢
  generalize wC.heap.size = g7 at j3 hg7 ⊢
  obtain ⟨k0, k1, k2⟩ := j3.col (b := g) (x := A0) (y := A1) (z := A2) (t := 24) (by simp)
  obtain ⟨k3, k4, k5⟩ := j3.col (b := g7) (x := (m2 : Int)) (y := (n : Int)) (z := 1) (t := 24) (by simp)
  go_upto_region 4 with fail
  clear k0 k1 k2 k3 k4 k5 w1 w2 w4 w5 w6 w7 w8 w9 w10 w11 w12
  obtain ⟨k0, k1, k2⟩ := j3.col (b := g + 1) (x := F0) (y := F1) (z := F2) (t := 24) (by simp)
  go_upto_region 5 with (go_at_call 32; (refine (HOff.out _).mono ?_); rintro e wE ⟨rfl, hE⟩)
  have j4 := (j3.later hE).alloc (tri ta tb tc)
  have hh := j3.lt (b := g7) (o := tri m2 n 1) (by simp)
  have hh2 := hE.size
  clear j3 hE k0 k1 k2
  generalize wE.alloc (tri ta tb tc) = wF at j4 ⊢
  generalize wE.heap.size = h at j4 hh2 ⊢
  have j5 : St w [(h, tri ta tb tc), (g7, tri m2 n 1), (g + 1, tri F0 F1 F2), (b + 1 + 1, ac 0 0 0), (b, gob n (.slice (some ⟨bl, ol, none⟩) N cap))] wF := j4.sub (by intro z hz; simp at hz ⊢; rcases hz with h | h | h | h | h <;> simp [h])
  clear j4
  have HX : Hid (∀ V, St w [(h, tri ta tb tc), (g7, tri m2 n 1), (g + 1, tri F0 F1 F2), (b + 1 + 1, ac 0 0 0), (b, gob n (.slice (some ⟨bl, ol, none⟩) N cap))] V → (V.cell? ⟨b, 1, none⟩ = some (.slice (some ⟨bl, ol, none⟩) N cap) ∧ CB V h ta tb tc) ∧ (V.cell? ⟨g + 1, ta, none⟩ = some (.int .i64 Fa) ∧ V.cell? ⟨g + 1, tb, none⟩ = some (.int .i64 Fb) ∧ V.cell? ⟨g + 1, tc, none⟩ = some (.int .i64 Fc)) ∧ (V.cell? ⟨g7, ta, none⟩ = some (.int .i64 Sa) ∧ V.cell? ⟨g7, tb, none⟩ = some (.int .i64 Sb) ∧ V.cell? ⟨g7, tc, none⟩ = some (.int .i64 Sc)) ∧ (CB3 V bl (ol + Q0 * 3) ⟨p00, p01, p02⟩ ∧ CB3 V bl (ol + Q1 * 3) ⟨p10, p11, p12⟩ ∧ CB3 V bl (ol + Q2 * 3) ⟨p20, p21, p22⟩ ∧ CB3 V bl (ol + Q3 * 3) ⟨p30, p31, p32⟩)) := fun V hV => by
    have hf := hV.col (b := g + 1) (x := F0) (y := F1) (z := F2) (t := 24) (by simp)
    have hg := hV.col (b := g7) (x := (m2 : Int)) (y := (n : Int)) (z := 1) (t := 24) (by simp)
    exact ⟨⟨hV.cell (b := b) (cs := #[.int .i64 n, .slice (some ⟨bl, ol, none⟩) N cap]) (t := 30) (by simp) 1, hV.col (t := 24) (by simp)⟩, ⟨HFa.out ▸ cb_at hf hta, HFb.out ▸ cb_at hf htb, HFc.out ▸ cb_at hf htc⟩, ⟨HGa.out ▸ cb_at hg hta, HGb.out ▸ cb_at hg htb, HGc.out ▸ cb_at hg htc⟩, HP.out V hV.below⟩
  have a0 : (0 : Int) ≤ ta := by omega
  have a1 : (ta : Int) < 3 := by omega
  have a2 : (0 : Int) ≤ tb := by omega
  have a3 : (tb : Int) < 3 := by omega
  have a4 : (0 : Int) ≤ tc := by omega
  have a5 : (tc : Int) < 3 := by omega
  have b0 : (0 : Int) ≤ Q0 := by omega
  have b1 : (Q0 : Int) < N := by omega
  have b2 : (0 : Int) ≤ Q1 := by omega
  have b3 : (Q1 : Int) < N := by omega
  have b4 : (0 : Int) ≤ Q2 := by omega
  have b5 : (Q2 : Int) < N := by omega
  have b6 : (0 : Int) ≤ Q3 := by omega
  have b7 : (Q3 : Int) < N := by omega
  have hbh : b + 1 + 1 < g ∧ g + 1 < g7 ∧ g7 < h := by omega
  clear l4 hgb hgb2 hg7 hh hh2 HLoc HOff HFa HFb HFc HGa HGb HGc HP
  go_cut [10] (fun v10 wx => ∃ q, v10 = .pointer (some ⟨q, 0, none⟩) ∧ h < q ∧ Hid (St w ((q, ac s00 s01 s02) :: [(h, tri ta tb tc), (g7, tri m2 n 1), (g + 1, tri F0 F1 F2), (b + 1 + 1, ac 0 0 0), (b, gob n (.slice (some ⟨bl, ol, none⟩) N cap))]) wx))
  case first =>
    have hd := j5.drew
    have HJ : Hid (∀ V, St w [(h, tri ta tb tc), (g7, tri m2 n 1), (g + 1, tri F0 F1 F2), (b + 1 + 1, ac 0 0 0), (b, gob n (.slice (some ⟨bl, ol, none⟩) N cap))] V → St w [(h, tri ta tb tc), (g7, tri m2 n 1), (g + 1, tri F0 F1 F2), (b + 1 + 1, ac 0 0 0), (b, gob n (.slice (some ⟨bl, ol, none⟩) N cap))] V ∧ V.cell? ⟨b, 1, none⟩ = some (.slice (some ⟨bl, ol, none⟩) N cap) ∧ CB3 V bl (ol + Q0 * 3) ⟨p00, p01, p02⟩ ∧ CB V h ta tb tc ∧ V.cell? ⟨g + 1, ta, none⟩ = some (.int .i64 Fa)) := fun V hV => by
      obtain ⟨⟨y0, y1⟩, ⟨y2, _⟩, _, ⟨y3, _⟩⟩ := HX.out V hV
      exact ⟨hV, y0, y3, y1, y2⟩
    have HS : Hid (∀ V o, St w [(h, tri ta tb tc), (g7, tri m2 n 1), (g + 1, tri F0 F1 F2), (b + 1 + 1, ac 0 0 0), (b, gob n (.slice (some ⟨bl, ol, none⟩) N cap))] V → St w [(h, tri ta tb tc), (g7, tri m2 n 1), (g + 1, tri F0 F1 F2), (b + 1 + 1, ac 0 0 0), (b, gob n (.slice (some ⟨bl, ol, none⟩) N cap))] (V.alloc o)) := fun V o hV => (hV.alloc o).sub (by intro z hz; exact List.mem_cons_of_mem _ hz)
    have HN : Hid (∀ V, St w [(h, tri ta tb tc), (g7, tri m2 n 1), (g + 1, tri F0 F1 F2), (b + 1 + 1, ac 0 0 0), (b, gob n (.slice (some ⟨bl, ol, none⟩) N cap))] V → h < V.heap.size) := fun V hV => hV.lt (b := h) (o := tri ta tb tc) (by simp)
    have HT : Hid (∀ V q j v, h < q → St w [(h, tri ta tb tc), (g7, tri m2 n 1), (g + 1, tri F0 F1 F2), (b + 1 + 1, ac 0 0 0), (b, gob n (.slice (some ⟨bl, ol, none⟩) N cap))] V → St w [(h, tri ta tb tc), (g7, tri m2 n 1), (g + 1, tri F0 F1 F2), (b + 1 + 1, ac 0 0 0), (b, gob n (.slice (some ⟨bl, ol, none⟩) N cap))] (V.setCell ⟨q, j, none⟩ v)) := fun V q j v hq hV => hV.set (by omega) (by simp; omega)
    have HD : Hid (∀ V, St w [(h, tri ta tb tc), (g7, tri m2 n 1), (g + 1, tri F0 F1 F2), (b + 1 + 1, ac 0 0 0), (b, gob n (.slice (some ⟨bl, ol, none⟩) N cap))] V → St w [(h, tri ta tb tc), (g7, tri m2 n 1), (g + 1, tri F0 F1 F2), (b + 1 + 1, ac 0 0 0), (b, gob n (.slice (some ⟨bl, ol, none⟩) N cap))] V.drew) := fun V hV => hV.drew
    have HQ : Hid (∀ V, St w [(h, tri ta tb tc), (g7, tri m2 n 1), (g + 1, tri F0 F1 F2), (b + 1 + 1, ac 0 0 0), (b, gob n (.slice (some ⟨bl, ol, none⟩) N cap))] V → St w ((V.heap.size, ac 0 0 0) :: [(h, tri ta tb tc), (g7, tri m2 n 1), (g + 1, tri F0 F1 F2), (b + 1 + 1, ac 0 0 0), (b, gob n (.slice (some ⟨bl, ol, none⟩) N cap))]) (V.alloc (ac 0 0 0))) := fun V hV => hV.alloc _
    have HQ2 : Hid (∀ V, St w [(h, tri ta tb tc), (g7, tri m2 n 1), (g + 1, tri F0 F1 F2), (b + 1 + 1, ac 0 0 0), (b, gob n (.slice (some ⟨bl, ol, none⟩) N cap))] V → St w ((V.heap.size, ac 0 0 0) :: [(h, tri ta tb tc), (g7, tri m2 n 1), (g + 1, tri F0 F1 F2), (b + 1 + 1, ac 0 0 0), (b, gob n (.slice (some ⟨bl, ol, none⟩) N cap))]) (V.alloc (ac 0 0 0)).drew) := fun V hV => (hV.alloc _).drew
    have HO : Hid (∀ V q, St w ((q, ac 0 0 0) :: [(h, tri ta tb tc), (g7, tri m2 n 1), (g + 1, tri F0 F1 F2), (b + 1 + 1, ac 0 0 0), (b, gob n (.slice (some ⟨bl, ol, none⟩) N cap))]) V → CB V q 0 0 0 ∧ V.frozen? ⟨q, 0, none⟩ = false ∧ V.frozen? ⟨q, 1, none⟩ = false ∧ V.frozen? ⟨q, 2, none⟩ = false) := fun V q hV => St.out3 hV (t := 25) (by simp)
    have n0 := HN.out _ hd
    have n1 := HN.out _ j5
    go_region_held3 (fun V => St w [(h, tri ta tb tc), (g7, tri m2 n 1), (g + 1, tri F0 F1 F2), (b + 1 + 1, ac 0 0 0), (b, gob n (.slice (some ⟨bl, ol, none⟩) N cap))] V ∧ V.cell? ⟨b, 1, none⟩ = some (.slice (some ⟨bl, ol, none⟩) N cap) ∧ CB3 V bl (ol + Q0 * 3) ⟨p00, p01, p02⟩ ∧ CB V h ta tb tc ∧ V.cell? ⟨g + 1, ta, none⟩ = some (.int .i64 Fa)) ((refine HJ.out _ ?_; repeat' (first | assumption | omega | refine HS.out _ _ ?_ | refine HT.out _ _ _ _ ?_ ?_ | refine HD.out _ ?_))) (first
      | (go_at_call 33; (refine (St.call2 (W := w) (L := [(h, tri ta tb tc), (g7, tri m2 n 1), (g + 1, tri F0 F1 F2), (b + 1 + 1, ac 0 0 0), (b, gob n (.slice (some ⟨bl, ol, none⟩) N cap))]) ?_ (HA0.out _)).mono ?_); (focus (repeat' (first | assumption | refine HS.out _ _ ?_ | refine HD.out _ ?_))); rintro e w4 ⟨rfl, h4, hb4⟩; have n4 := HN.out _ h4; (try (first | have q1 := St.later (HQ.out _ (by assumption)) hb4 | have q1 := St.later (HQ2.out _ (by assumption)) hb4); have z1 := HO.out _ _ q1)))
    all_goals
      rename_i hHeld
      clear hHeld
      go_wp2_with fail
      go_meet
      case rel =>
        refine ⟨_, rfl, ?_, ?_⟩
        · omega
        · first
            | exact h4.alloc _
            | exact ((q1.put0 (by omega) (by simp; omega)).put1 (by omega) (by simp; omega)).put2 (by omega) (by simp; omega)
  case rest =>
    obtain ⟨q, rfl, hq, HQ⟩ := hcut
    clear j5 HA0 y0 y3
    have HF : Hid (∀ {x y z : Int} V, St w ((q, ac x y z) :: [(h, tri ta tb tc), (g7, tri m2 n 1), (g + 1, tri F0 F1 F2), (b + 1 + 1, ac 0 0 0), (b, gob n (.slice (some ⟨bl, ol, none⟩) N cap))]) V → St w [(h, tri ta tb tc), (g7, tri m2 n 1), (g + 1, tri F0 F1 F2), (b + 1 + 1, ac 0 0 0), (b, gob n (.slice (some ⟨bl, ol, none⟩) N cap))] V) := fun V hV => hV.sub (by intro z hz; exact List.mem_cons_of_mem _ hz)
    have HL : Hid (∀ z ∈ [(h, tri ta tb tc), (g7, tri m2 n 1), (g + 1, tri F0 F1 F2), (b + 1 + 1, ac 0 0 0), (b, gob n (.slice (some ⟨bl, ol, none⟩) N cap))], z.1 ≠ q) := by unfold Hid; simp; omega
    have HT2 : Hid (∀ V j v, St w [(h, tri ta tb tc), (g7, tri m2 n 1), (g + 1, tri F0 F1 F2), (b + 1 + 1, ac 0 0 0), (b, gob n (.slice (some ⟨bl, ol, none⟩) N cap))] V → St w [(h, tri ta tb tc), (g7, tri m2 n 1), (g + 1, tri F0 F1 F2), (b + 1 + 1, ac 0 0 0), (b, gob n (.slice (some ⟨bl, ol, none⟩) N cap))] (V.setCell ⟨q, j, none⟩ v)) := fun V j v hV => hV.set (by omega) HL.out
    have HO : Hid (∀ x y z V, St w ((q, ac x y z) :: [(h, tri ta tb tc), (g7, tri m2 n 1), (g + 1, tri F0 F1 F2), (b + 1 + 1, ac 0 0 0), (b, gob n (.slice (some ⟨bl, ol, none⟩) N cap))]) V → CB V q x y z ∧ V.frozen? ⟨q, 0, none⟩ = false ∧ V.frozen? ⟨q, 1, none⟩ = false ∧ V.frozen? ⟨q, 2, none⟩ = false) := fun x y z V hV => ⟨hV.col (t := 25) (by simp), hV.fro (cs := #[.int .i64 x, .int .i64 y, .int .i64 z]) (t := 25) (by simp)⟩
    obtain ⟨⟨_, y11, y12, y13⟩, _⟩ := HX.out _ (HF.out _ HQ.out)
    go_upto_region 7 with fail
    clear y11 y12 y13
    go_loopw [8, 61] (fun v8 v61 wr => ∃ k : Nat, k ≤ 3 ∧ v61 = .int .i64 k ∧ v8 = .int .i64 (four Q0 Q1 Q2 Q3 k : Nat) ∧ Hid (St w ((q, four (ac s00 s01 s02) (ac s10 s11 s12) (ac s20 s21 s22) (ac s30 s31 s32) k) :: [(h, tri ta tb tc), (g7, tri m2 n 1), (g + 1, tri F0 F1 F2), (b + 1 + 1, ac 0 0 0), (b, gob n (.slice (some ⟨bl, ol, none⟩) N cap))]) wr)) (fun _ i _ => 3 - (intOf i).toNat)
    case atStart => exact ⟨0, by omega, rfl, rfl, HQ⟩
    case round =>
      obtain ⟨k, hk, rfl, rfl, HW⟩ := hrel
      clear HQ
      obtain rfl | rfl | rfl | rfl : k = 0 ∨ k = 1 ∨ k = 2 ∨ k = 3 := by omega
      all_goals simp only [four]
      · have ix := jx0 ta tb tc
        have hw := HW.out
        change St w ((q, ac s00 s01 s02) :: [(h, tri ta tb tc), (g7, tri m2 n 1), (g + 1, tri F0 F1 F2), (b + 1 + 1, ac 0 0 0), (b, gob n (.slice (some ⟨bl, ol, none⟩) N cap))]) wr at hw
        have hf := HF.out _ hw
        obtain ⟨⟨y10, y11, y12, y13⟩, ⟨y14, y15, y16⟩, ⟨y17, y18, y19⟩, _⟩ := HX.out _ hf
        go_upto_region 13 with fail
        clear ix y10 y11 y12 y13 y14 y15 y16 y17 y18 y19
        have hd := hw.drew
        have hk := HF.out _ hd
        have HJ : Hid (∀ V, St w [(h, tri ta tb tc), (g7, tri m2 n 1), (g + 1, tri F0 F1 F2), (b + 1 + 1, ac 0 0 0), (b, gob n (.slice (some ⟨bl, ol, none⟩) N cap))] V → St w [(h, tri ta tb tc), (g7, tri m2 n 1), (g + 1, tri F0 F1 F2), (b + 1 + 1, ac 0 0 0), (b, gob n (.slice (some ⟨bl, ol, none⟩) N cap))] V ∧ V.cell? ⟨b, 1, none⟩ = some (.slice (some ⟨bl, ol, none⟩) N cap) ∧ CB3 V bl (ol + Q1 * 3) ⟨p10, p11, p12⟩) := fun V hV => by
          obtain ⟨⟨x0, x1⟩, _, _, ⟨x2, x3, x4, x5⟩⟩ := HX.out V hV
          exact ⟨hV, x0, x3⟩
        obtain ⟨⟨l0, l1, l2⟩, _⟩ := HO.out _ _ _ _ hd
        refine wp_region_held_drew (S := fun V => St w [(h, tri ta tb tc), (g7, tri m2 n 1), (g + 1, tri F0 F1 F2), (b + 1 + 1, ac 0 0 0), (b, gob n (.slice (some ⟨bl, ol, none⟩) N cap))] V ∧ V.cell? ⟨b, 1, none⟩ = some (.slice (some ⟨bl, ol, none⟩) N cap) ∧ CB3 V bl (ol + Q1 * 3) ⟨p10, p11, p12⟩) (by kernel_rfl) ?_ (fun hHeld => ?_)
        · ((refine HJ.out _ ?_; repeat' (first | assumption | refine HT2.out _ _ _ ?_)))
        refine wpAnyH_take (i := 1) (oi := { dst := some 85, op := Op.fieldAddr 30 (Operand.tmp 2) 1, type := 0, pos := "table.go:117", after := #[], guard := none }) (v := ?_) rfl (by kernel_rfl) (by kernel_rfl) (by kernel_rfl) (fun _ _ _ h => h) (Or.inl ⟨by kernel_rfl, ?_⟩) (by assumption) ?_
        rotate_left 1
        focus (intro w hSw; (try dsimp only at hSw); go_simp; (try with_reducible rfl))
        try simp only [Act.put, List.setIfInBounds_toArray, List.set_cons_zero, List.set_cons_succ]
        refine wpAnyH_take (i := 2) (oi := { dst := some 86, op := Op.load 28 (Operand.tmp 85), type := 28, pos := "table.go:117", after := #[{ on := 1, ground := Ground.data }], guard := none }) (v := ?_) rfl (by kernel_rfl) (by kernel_rfl) (by kernel_rfl) (fun _ _ _ h => h) (Or.inl ⟨by kernel_rfl, ?_⟩) (by assumption) ?_
        rotate_left 1
        focus (intro w hSw; (try dsimp only at hSw); go_simp; (try with_reducible rfl))
        try simp only [Act.put, List.setIfInBounds_toArray, List.set_cons_zero, List.set_cons_succ]
        refine wpAnyH_take (i := 3) (oi := { dst := some 87, op := Op.move (Operand.tmp 8), type := 3, pos := "table.go:117", after := #[], guard := none }) (v := ?_) rfl (by kernel_rfl) (by kernel_rfl) (by kernel_rfl) (fun _ _ _ h => h) (Or.inl ⟨by kernel_rfl, ?_⟩) (by assumption) ?_
        rotate_left 1
        focus (intro w hSw; (try dsimp only at hSw); go_simp; (try with_reducible rfl))
        try simp only [Act.put, List.setIfInBounds_toArray, List.set_cons_zero, List.set_cons_succ]
        refine wpAnyH_take (i := 4) (oi := { dst := some 88, op := Op.indexAddr 28 (Operand.tmp 86) (Operand.tmp 87), type := 0, pos := "table.go:117", after := #[{ on := 2, ground := Ground.data }, { on := 3, ground := Ground.data }], guard := none }) (v := ?_) rfl (by kernel_rfl) (by kernel_rfl) (by kernel_rfl) (fun _ _ _ h => h) (Or.inl ⟨by kernel_rfl, ?_⟩) (by assumption) ?_
        rotate_left 1
        focus (intro w hSw; (try dsimp only at hSw); go_simp; (try with_reducible rfl))
        try simp only [Act.put, List.setIfInBounds_toArray, List.set_cons_zero, List.set_cons_succ]
        refine wpAnyH_take (i := 5) (oi := { dst := some 89, op := Op.load 25 (Operand.tmp 88), type := 25, pos := "table.go:117", after := #[{ on := 4, ground := Ground.data }], guard := none }) (v := ?_) rfl (by kernel_rfl) (by kernel_rfl) (by kernel_rfl) (fun _ _ _ h => h) (Or.inl ⟨by kernel_rfl, ?_⟩) (by assumption) ?_
        rotate_left 1
        focus (intro w hSw; (try dsimp only at hSw); go_simp; (try with_reducible rfl))
        try simp only [Act.put, List.setIfInBounds_toArray, List.set_cons_zero, List.set_cons_succ]
        refine wpAnyH_take (i := 6) (oi := { dst := some 90, op := Op.move (Operand.tmp 13), type := 3, pos := "table.go:117", after := #[], guard := none }) (v := ?_) rfl (by kernel_rfl) (by kernel_rfl) (by kernel_rfl) (fun _ _ _ h => h) (Or.inl ⟨by kernel_rfl, ?_⟩) (by assumption) ?_
        rotate_left 1
        focus (intro w hSw; (try dsimp only at hSw); go_simp; (try with_reducible rfl))
        try simp only [Act.put, List.setIfInBounds_toArray, List.set_cons_zero, List.set_cons_succ]
        refine wpAnyH_ready (rs := [0]) (by kernel_rfl) (by simp) (AllReadyH.cons (o := { dst := some 84, op := Op.load 25 (Operand.tmp 10), type := 25, pos := "table.go:117", after := #[], guard := none }) rfl (fun K hK => ?_) AllReadyH.nil)
        (go_simp)
        refine hK.out _ _ ?_ (fun hHeld => ?_)
        · ((refine HJ.out _ ?_; repeat' (first | assumption | refine HT2.out _ _ _ ?_)))
        clear hK K
        try simp only [Act.put, List.setIfInBounds_toArray, List.set_cons_zero, List.set_cons_succ]
        refine wpAnyH_ready (rs := [7]) (by kernel_rfl) (by simp) (AllReadyH.cons (o := { dst := some 91, op := Op.call { callee := Callee.value (Operand.func 33), args := #[Operand.tmp 84, Operand.tmp 89, Operand.tmp 90], argTypes := #[25, 25, 3] }, type := 25, pos := "table.go:117", after := #[{ on := 0, ground := Ground.data }, { on := 5, ground := Ground.data }, { on := 6, ground := Ground.data }], guard := none }) rfl (fun K hK => ?_) AllReadyH.nil)
        (go_simp; (go_at_call 33; (refine (St.call (W := w) (L := (q, ac s00 s01 s02) :: [(h, tri ta tb tc), (g7, tri m2 n 1), (g + 1, tri F0 F1 F2), (b + 1 + 1, ac 0 0 0), (b, gob n (.slice (some ⟨bl, ol, none⟩) N cap))]) ?_ (HA1.out _)).mono ?_); (focus assumption); rintro e w5 ⟨rfl, h5⟩; have k5 := HF.out _ h5; obtain ⟨⟨m0, m1, m2'⟩, f0, f1, f2⟩ := HO.out _ _ _ _ h5))
        refine hK.out _ _ ?_ (fun hHeld => ?_)
        · ((refine HJ.out _ ?_; repeat' (first | assumption | refine HT2.out _ _ _ ?_)))
        clear hK K
        try simp only [Act.put, List.setIfInBounds_toArray, List.set_cons_zero, List.set_cons_succ]
        refine wpAnyH_ready (rs := [8]) (by kernel_rfl) (by simp) (AllReadyH.cons (o := { dst := none, op := Op.store 25 (Operand.tmp 10) (Operand.tmp 91), type := 0, pos := "table.go:117", after := #[{ on := 7, ground := Ground.data }, { on := 7, ground := Ground.chain }, { on := 0, ground := Ground.phase }, { on := 1, ground := Ground.phase }, { on := 2, ground := Ground.phase }, { on := 3, ground := Ground.phase }, { on := 4, ground := Ground.phase }, { on := 5, ground := Ground.phase }, { on := 6, ground := Ground.phase }, { on := 7, ground := Ground.phase }], guard := none }) rfl (fun K hK => ?_) AllReadyH.nil)
        (go_simp)
        refine hK.out _ _ ?_ (fun hHeld => ?_)
        · ((refine HJ.out _ ?_; repeat' (first | assumption | refine HT2.out _ _ _ ?_)))
        clear hK K
        try simp only [Act.put, List.setIfInBounds_toArray, List.set_cons_zero, List.set_cons_succ]
        refine wpAnyH_done (by kernel_rfl) ?_ _
        have h8 : St w ((q, ac s10 s11 s12) :: [(h, tri ta tb tc), (g7, tri m2 n 1), (g + 1, tri F0 F1 F2), (b + 1 + 1, ac 0 0 0), (b, gob n (.slice (some ⟨bl, ol, none⟩) N cap))]) (((w5.setCell ⟨q, 0, none⟩ (.int .i64 s10)).setCell ⟨q, 1, none⟩ (.int .i64 s11)).setCell ⟨q, 2, none⟩ (.int .i64 s12)) := ((h5.put0 (by omega) HL.out).put1 (by omega) HL.out).put2 (by omega) HL.out
        generalize ((w5.setCell ⟨q, 0, none⟩ (.int .i64 s10)).setCell ⟨q, 1, none⟩ (.int .i64 s11)).setCell ⟨q, 2, none⟩ (.int .i64 s12) = w6 at h8 ⊢
        have HZ := Lib.hid h8
        clear h8 h5 k5 hHeld l0 l1 l2 m0 m1 m2' f0 f1 f2 hw hf hd hk HW HJ
        go_wp2_with fail
        go_roundw
        case rel => exact ⟨1, by omega, by go_num, rfl, HZ⟩
        case measure => simp [intOf]
      · have ix := jx1 ta tb tc
        have hw := HW.out
        change St w ((q, ac s10 s11 s12) :: [(h, tri ta tb tc), (g7, tri m2 n 1), (g + 1, tri F0 F1 F2), (b + 1 + 1, ac 0 0 0), (b, gob n (.slice (some ⟨bl, ol, none⟩) N cap))]) wr at hw
        have hf := HF.out _ hw
        obtain ⟨⟨y10, y11, y12, y13⟩, ⟨y14, y15, y16⟩, ⟨y17, y18, y19⟩, _⟩ := HX.out _ hf
        go_upto_region 13 with fail
        clear ix y10 y11 y12 y13 y14 y15 y16 y17 y18 y19
        have hd := hw.drew
        have hk := HF.out _ hd
        have HJ : Hid (∀ V, St w [(h, tri ta tb tc), (g7, tri m2 n 1), (g + 1, tri F0 F1 F2), (b + 1 + 1, ac 0 0 0), (b, gob n (.slice (some ⟨bl, ol, none⟩) N cap))] V → St w [(h, tri ta tb tc), (g7, tri m2 n 1), (g + 1, tri F0 F1 F2), (b + 1 + 1, ac 0 0 0), (b, gob n (.slice (some ⟨bl, ol, none⟩) N cap))] V ∧ V.cell? ⟨b, 1, none⟩ = some (.slice (some ⟨bl, ol, none⟩) N cap) ∧ CB3 V bl (ol + Q2 * 3) ⟨p20, p21, p22⟩) := fun V hV => by
          obtain ⟨⟨x0, x1⟩, _, _, ⟨x2, x3, x4, x5⟩⟩ := HX.out V hV
          exact ⟨hV, x0, x4⟩
        obtain ⟨⟨l0, l1, l2⟩, _⟩ := HO.out _ _ _ _ hd
        refine wp_region_held_drew (S := fun V => St w [(h, tri ta tb tc), (g7, tri m2 n 1), (g + 1, tri F0 F1 F2), (b + 1 + 1, ac 0 0 0), (b, gob n (.slice (some ⟨bl, ol, none⟩) N cap))] V ∧ V.cell? ⟨b, 1, none⟩ = some (.slice (some ⟨bl, ol, none⟩) N cap) ∧ CB3 V bl (ol + Q2 * 3) ⟨p20, p21, p22⟩) (by kernel_rfl) ?_ (fun hHeld => ?_)
        · ((refine HJ.out _ ?_; repeat' (first | assumption | refine HT2.out _ _ _ ?_)))
        refine wpAnyH_take (i := 1) (oi := { dst := some 85, op := Op.fieldAddr 30 (Operand.tmp 2) 1, type := 0, pos := "table.go:117", after := #[], guard := none }) (v := ?_) rfl (by kernel_rfl) (by kernel_rfl) (by kernel_rfl) (fun _ _ _ h => h) (Or.inl ⟨by kernel_rfl, ?_⟩) (by assumption) ?_
        rotate_left 1
        focus (intro w hSw; (try dsimp only at hSw); go_simp; (try with_reducible rfl))
        try simp only [Act.put, List.setIfInBounds_toArray, List.set_cons_zero, List.set_cons_succ]
        refine wpAnyH_take (i := 2) (oi := { dst := some 86, op := Op.load 28 (Operand.tmp 85), type := 28, pos := "table.go:117", after := #[{ on := 1, ground := Ground.data }], guard := none }) (v := ?_) rfl (by kernel_rfl) (by kernel_rfl) (by kernel_rfl) (fun _ _ _ h => h) (Or.inl ⟨by kernel_rfl, ?_⟩) (by assumption) ?_
        rotate_left 1
        focus (intro w hSw; (try dsimp only at hSw); go_simp; (try with_reducible rfl))
        try simp only [Act.put, List.setIfInBounds_toArray, List.set_cons_zero, List.set_cons_succ]
        refine wpAnyH_take (i := 3) (oi := { dst := some 87, op := Op.move (Operand.tmp 8), type := 3, pos := "table.go:117", after := #[], guard := none }) (v := ?_) rfl (by kernel_rfl) (by kernel_rfl) (by kernel_rfl) (fun _ _ _ h => h) (Or.inl ⟨by kernel_rfl, ?_⟩) (by assumption) ?_
        rotate_left 1
        focus (intro w hSw; (try dsimp only at hSw); go_simp; (try with_reducible rfl))
        try simp only [Act.put, List.setIfInBounds_toArray, List.set_cons_zero, List.set_cons_succ]
        refine wpAnyH_take (i := 4) (oi := { dst := some 88, op := Op.indexAddr 28 (Operand.tmp 86) (Operand.tmp 87), type := 0, pos := "table.go:117", after := #[{ on := 2, ground := Ground.data }, { on := 3, ground := Ground.data }], guard := none }) (v := ?_) rfl (by kernel_rfl) (by kernel_rfl) (by kernel_rfl) (fun _ _ _ h => h) (Or.inl ⟨by kernel_rfl, ?_⟩) (by assumption) ?_
        rotate_left 1
        focus (intro w hSw; (try dsimp only at hSw); go_simp; (try with_reducible rfl))
        try simp only [Act.put, List.setIfInBounds_toArray, List.set_cons_zero, List.set_cons_succ]
        refine wpAnyH_take (i := 5) (oi := { dst := some 89, op := Op.load 25 (Operand.tmp 88), type := 25, pos := "table.go:117", after := #[{ on := 4, ground := Ground.data }], guard := none }) (v := ?_) rfl (by kernel_rfl) (by kernel_rfl) (by kernel_rfl) (fun _ _ _ h => h) (Or.inl ⟨by kernel_rfl, ?_⟩) (by assumption) ?_
        rotate_left 1
        focus (intro w hSw; (try dsimp only at hSw); go_simp; (try with_reducible rfl))
        try simp only [Act.put, List.setIfInBounds_toArray, List.set_cons_zero, List.set_cons_succ]
        refine wpAnyH_take (i := 6) (oi := { dst := some 90, op := Op.move (Operand.tmp 13), type := 3, pos := "table.go:117", after := #[], guard := none }) (v := ?_) rfl (by kernel_rfl) (by kernel_rfl) (by kernel_rfl) (fun _ _ _ h => h) (Or.inl ⟨by kernel_rfl, ?_⟩) (by assumption) ?_
        rotate_left 1
        focus (intro w hSw; (try dsimp only at hSw); go_simp; (try with_reducible rfl))
        try simp only [Act.put, List.setIfInBounds_toArray, List.set_cons_zero, List.set_cons_succ]
        refine wpAnyH_ready (rs := [0]) (by kernel_rfl) (by simp) (AllReadyH.cons (o := { dst := some 84, op := Op.load 25 (Operand.tmp 10), type := 25, pos := "table.go:117", after := #[], guard := none }) rfl (fun K hK => ?_) AllReadyH.nil)
        (go_simp)
        refine hK.out _ _ ?_ (fun hHeld => ?_)
        · ((refine HJ.out _ ?_; repeat' (first | assumption | refine HT2.out _ _ _ ?_)))
        clear hK K
        try simp only [Act.put, List.setIfInBounds_toArray, List.set_cons_zero, List.set_cons_succ]
        refine wpAnyH_ready (rs := [7]) (by kernel_rfl) (by simp) (AllReadyH.cons (o := { dst := some 91, op := Op.call { callee := Callee.value (Operand.func 33), args := #[Operand.tmp 84, Operand.tmp 89, Operand.tmp 90], argTypes := #[25, 25, 3] }, type := 25, pos := "table.go:117", after := #[{ on := 0, ground := Ground.data }, { on := 5, ground := Ground.data }, { on := 6, ground := Ground.data }], guard := none }) rfl (fun K hK => ?_) AllReadyH.nil)
        (go_simp; (go_at_call 33; (refine (St.call (W := w) (L := (q, ac s10 s11 s12) :: [(h, tri ta tb tc), (g7, tri m2 n 1), (g + 1, tri F0 F1 F2), (b + 1 + 1, ac 0 0 0), (b, gob n (.slice (some ⟨bl, ol, none⟩) N cap))]) ?_ (HA2.out _)).mono ?_); (focus assumption); rintro e w5 ⟨rfl, h5⟩; have k5 := HF.out _ h5; obtain ⟨⟨m0, m1, m2'⟩, f0, f1, f2⟩ := HO.out _ _ _ _ h5))
        refine hK.out _ _ ?_ (fun hHeld => ?_)
        · ((refine HJ.out _ ?_; repeat' (first | assumption | refine HT2.out _ _ _ ?_)))
        clear hK K
        try simp only [Act.put, List.setIfInBounds_toArray, List.set_cons_zero, List.set_cons_succ]
        refine wpAnyH_ready (rs := [8]) (by kernel_rfl) (by simp) (AllReadyH.cons (o := { dst := none, op := Op.store 25 (Operand.tmp 10) (Operand.tmp 91), type := 0, pos := "table.go:117", after := #[{ on := 7, ground := Ground.data }, { on := 7, ground := Ground.chain }, { on := 0, ground := Ground.phase }, { on := 1, ground := Ground.phase }, { on := 2, ground := Ground.phase }, { on := 3, ground := Ground.phase }, { on := 4, ground := Ground.phase }, { on := 5, ground := Ground.phase }, { on := 6, ground := Ground.phase }, { on := 7, ground := Ground.phase }], guard := none }) rfl (fun K hK => ?_) AllReadyH.nil)
        (go_simp)
        refine hK.out _ _ ?_ (fun hHeld => ?_)
        · ((refine HJ.out _ ?_; repeat' (first | assumption | refine HT2.out _ _ _ ?_)))
        clear hK K
        try simp only [Act.put, List.setIfInBounds_toArray, List.set_cons_zero, List.set_cons_succ]
        refine wpAnyH_done (by kernel_rfl) ?_ _
        have h8 : St w ((q, ac s20 s21 s22) :: [(h, tri ta tb tc), (g7, tri m2 n 1), (g + 1, tri F0 F1 F2), (b + 1 + 1, ac 0 0 0), (b, gob n (.slice (some ⟨bl, ol, none⟩) N cap))]) (((w5.setCell ⟨q, 0, none⟩ (.int .i64 s20)).setCell ⟨q, 1, none⟩ (.int .i64 s21)).setCell ⟨q, 2, none⟩ (.int .i64 s22)) := ((h5.put0 (by omega) HL.out).put1 (by omega) HL.out).put2 (by omega) HL.out
        generalize ((w5.setCell ⟨q, 0, none⟩ (.int .i64 s20)).setCell ⟨q, 1, none⟩ (.int .i64 s21)).setCell ⟨q, 2, none⟩ (.int .i64 s22) = w6 at h8 ⊢
        have HZ := Lib.hid h8
        clear h8 h5 k5 hHeld l0 l1 l2 m0 m1 m2' f0 f1 f2 hw hf hd hk HW HJ
        go_wp2_with fail
        go_roundw
        case rel => exact ⟨2, by omega, by go_num, rfl, HZ⟩
        case measure => simp [intOf]
      · have ix := jx2 ta tb tc
        have hw := HW.out
        change St w ((q, ac s20 s21 s22) :: [(h, tri ta tb tc), (g7, tri m2 n 1), (g + 1, tri F0 F1 F2), (b + 1 + 1, ac 0 0 0), (b, gob n (.slice (some ⟨bl, ol, none⟩) N cap))]) wr at hw
        have hf := HF.out _ hw
        obtain ⟨⟨y10, y11, y12, y13⟩, ⟨y14, y15, y16⟩, ⟨y17, y18, y19⟩, _⟩ := HX.out _ hf
        go_upto_region 13 with fail
        clear ix y10 y11 y12 y13 y14 y15 y16 y17 y18 y19
        have hd := hw.drew
        have hk := HF.out _ hd
        have HJ : Hid (∀ V, St w [(h, tri ta tb tc), (g7, tri m2 n 1), (g + 1, tri F0 F1 F2), (b + 1 + 1, ac 0 0 0), (b, gob n (.slice (some ⟨bl, ol, none⟩) N cap))] V → St w [(h, tri ta tb tc), (g7, tri m2 n 1), (g + 1, tri F0 F1 F2), (b + 1 + 1, ac 0 0 0), (b, gob n (.slice (some ⟨bl, ol, none⟩) N cap))] V ∧ V.cell? ⟨b, 1, none⟩ = some (.slice (some ⟨bl, ol, none⟩) N cap) ∧ CB3 V bl (ol + Q3 * 3) ⟨p30, p31, p32⟩) := fun V hV => by
          obtain ⟨⟨x0, x1⟩, _, _, ⟨x2, x3, x4, x5⟩⟩ := HX.out V hV
          exact ⟨hV, x0, x5⟩
        obtain ⟨⟨l0, l1, l2⟩, _⟩ := HO.out _ _ _ _ hd
        refine wp_region_held_drew (S := fun V => St w [(h, tri ta tb tc), (g7, tri m2 n 1), (g + 1, tri F0 F1 F2), (b + 1 + 1, ac 0 0 0), (b, gob n (.slice (some ⟨bl, ol, none⟩) N cap))] V ∧ V.cell? ⟨b, 1, none⟩ = some (.slice (some ⟨bl, ol, none⟩) N cap) ∧ CB3 V bl (ol + Q3 * 3) ⟨p30, p31, p32⟩) (by kernel_rfl) ?_ (fun hHeld => ?_)
        · ((refine HJ.out _ ?_; repeat' (first | assumption | refine HT2.out _ _ _ ?_)))
        refine wpAnyH_take (i := 1) (oi := { dst := some 85, op := Op.fieldAddr 30 (Operand.tmp 2) 1, type := 0, pos := "table.go:117", after := #[], guard := none }) (v := ?_) rfl (by kernel_rfl) (by kernel_rfl) (by kernel_rfl) (fun _ _ _ h => h) (Or.inl ⟨by kernel_rfl, ?_⟩) (by assumption) ?_
        rotate_left 1
        focus (intro w hSw; (try dsimp only at hSw); go_simp; (try with_reducible rfl))
        try simp only [Act.put, List.setIfInBounds_toArray, List.set_cons_zero, List.set_cons_succ]
        refine wpAnyH_take (i := 2) (oi := { dst := some 86, op := Op.load 28 (Operand.tmp 85), type := 28, pos := "table.go:117", after := #[{ on := 1, ground := Ground.data }], guard := none }) (v := ?_) rfl (by kernel_rfl) (by kernel_rfl) (by kernel_rfl) (fun _ _ _ h => h) (Or.inl ⟨by kernel_rfl, ?_⟩) (by assumption) ?_
        rotate_left 1
        focus (intro w hSw; (try dsimp only at hSw); go_simp; (try with_reducible rfl))
        try simp only [Act.put, List.setIfInBounds_toArray, List.set_cons_zero, List.set_cons_succ]
        refine wpAnyH_take (i := 3) (oi := { dst := some 87, op := Op.move (Operand.tmp 8), type := 3, pos := "table.go:117", after := #[], guard := none }) (v := ?_) rfl (by kernel_rfl) (by kernel_rfl) (by kernel_rfl) (fun _ _ _ h => h) (Or.inl ⟨by kernel_rfl, ?_⟩) (by assumption) ?_
        rotate_left 1
        focus (intro w hSw; (try dsimp only at hSw); go_simp; (try with_reducible rfl))
        try simp only [Act.put, List.setIfInBounds_toArray, List.set_cons_zero, List.set_cons_succ]
        refine wpAnyH_take (i := 4) (oi := { dst := some 88, op := Op.indexAddr 28 (Operand.tmp 86) (Operand.tmp 87), type := 0, pos := "table.go:117", after := #[{ on := 2, ground := Ground.data }, { on := 3, ground := Ground.data }], guard := none }) (v := ?_) rfl (by kernel_rfl) (by kernel_rfl) (by kernel_rfl) (fun _ _ _ h => h) (Or.inl ⟨by kernel_rfl, ?_⟩) (by assumption) ?_
        rotate_left 1
        focus (intro w hSw; (try dsimp only at hSw); go_simp; (try with_reducible rfl))
        try simp only [Act.put, List.setIfInBounds_toArray, List.set_cons_zero, List.set_cons_succ]
        refine wpAnyH_take (i := 5) (oi := { dst := some 89, op := Op.load 25 (Operand.tmp 88), type := 25, pos := "table.go:117", after := #[{ on := 4, ground := Ground.data }], guard := none }) (v := ?_) rfl (by kernel_rfl) (by kernel_rfl) (by kernel_rfl) (fun _ _ _ h => h) (Or.inl ⟨by kernel_rfl, ?_⟩) (by assumption) ?_
        rotate_left 1
        focus (intro w hSw; (try dsimp only at hSw); go_simp; (try with_reducible rfl))
        try simp only [Act.put, List.setIfInBounds_toArray, List.set_cons_zero, List.set_cons_succ]
        refine wpAnyH_take (i := 6) (oi := { dst := some 90, op := Op.move (Operand.tmp 13), type := 3, pos := "table.go:117", after := #[], guard := none }) (v := ?_) rfl (by kernel_rfl) (by kernel_rfl) (by kernel_rfl) (fun _ _ _ h => h) (Or.inl ⟨by kernel_rfl, ?_⟩) (by assumption) ?_
        rotate_left 1
        focus (intro w hSw; (try dsimp only at hSw); go_simp; (try with_reducible rfl))
        try simp only [Act.put, List.setIfInBounds_toArray, List.set_cons_zero, List.set_cons_succ]
        refine wpAnyH_ready (rs := [0]) (by kernel_rfl) (by simp) (AllReadyH.cons (o := { dst := some 84, op := Op.load 25 (Operand.tmp 10), type := 25, pos := "table.go:117", after := #[], guard := none }) rfl (fun K hK => ?_) AllReadyH.nil)
        (go_simp)
        refine hK.out _ _ ?_ (fun hHeld => ?_)
        · ((refine HJ.out _ ?_; repeat' (first | assumption | refine HT2.out _ _ _ ?_)))
        clear hK K
        try simp only [Act.put, List.setIfInBounds_toArray, List.set_cons_zero, List.set_cons_succ]
        refine wpAnyH_ready (rs := [7]) (by kernel_rfl) (by simp) (AllReadyH.cons (o := { dst := some 91, op := Op.call { callee := Callee.value (Operand.func 33), args := #[Operand.tmp 84, Operand.tmp 89, Operand.tmp 90], argTypes := #[25, 25, 3] }, type := 25, pos := "table.go:117", after := #[{ on := 0, ground := Ground.data }, { on := 5, ground := Ground.data }, { on := 6, ground := Ground.data }], guard := none }) rfl (fun K hK => ?_) AllReadyH.nil)
        (go_simp; (go_at_call 33; (refine (St.call (W := w) (L := (q, ac s20 s21 s22) :: [(h, tri ta tb tc), (g7, tri m2 n 1), (g + 1, tri F0 F1 F2), (b + 1 + 1, ac 0 0 0), (b, gob n (.slice (some ⟨bl, ol, none⟩) N cap))]) ?_ (HA3.out _)).mono ?_); (focus assumption); rintro e w5 ⟨rfl, h5⟩; have k5 := HF.out _ h5; obtain ⟨⟨m0, m1, m2'⟩, f0, f1, f2⟩ := HO.out _ _ _ _ h5))
        refine hK.out _ _ ?_ (fun hHeld => ?_)
        · ((refine HJ.out _ ?_; repeat' (first | assumption | refine HT2.out _ _ _ ?_)))
        clear hK K
        try simp only [Act.put, List.setIfInBounds_toArray, List.set_cons_zero, List.set_cons_succ]
        refine wpAnyH_ready (rs := [8]) (by kernel_rfl) (by simp) (AllReadyH.cons (o := { dst := none, op := Op.store 25 (Operand.tmp 10) (Operand.tmp 91), type := 0, pos := "table.go:117", after := #[{ on := 7, ground := Ground.data }, { on := 7, ground := Ground.chain }, { on := 0, ground := Ground.phase }, { on := 1, ground := Ground.phase }, { on := 2, ground := Ground.phase }, { on := 3, ground := Ground.phase }, { on := 4, ground := Ground.phase }, { on := 5, ground := Ground.phase }, { on := 6, ground := Ground.phase }, { on := 7, ground := Ground.phase }], guard := none }) rfl (fun K hK => ?_) AllReadyH.nil)
        (go_simp)
        refine hK.out _ _ ?_ (fun hHeld => ?_)
        · ((refine HJ.out _ ?_; repeat' (first | assumption | refine HT2.out _ _ _ ?_)))
        clear hK K
        try simp only [Act.put, List.setIfInBounds_toArray, List.set_cons_zero, List.set_cons_succ]
        refine wpAnyH_done (by kernel_rfl) ?_ _
        have h8 : St w ((q, ac s30 s31 s32) :: [(h, tri ta tb tc), (g7, tri m2 n 1), (g + 1, tri F0 F1 F2), (b + 1 + 1, ac 0 0 0), (b, gob n (.slice (some ⟨bl, ol, none⟩) N cap))]) (((w5.setCell ⟨q, 0, none⟩ (.int .i64 s30)).setCell ⟨q, 1, none⟩ (.int .i64 s31)).setCell ⟨q, 2, none⟩ (.int .i64 s32)) := ((h5.put0 (by omega) HL.out).put1 (by omega) HL.out).put2 (by omega) HL.out
        generalize ((w5.setCell ⟨q, 0, none⟩ (.int .i64 s30)).setCell ⟨q, 1, none⟩ (.int .i64 s31)).setCell ⟨q, 2, none⟩ (.int .i64 s32) = w6 at h8 ⊢
        have HZ := Lib.hid h8
        clear h8 h5 k5 hHeld l0 l1 l2 m0 m1 m2' f0 f1 f2 hw hf hd hk HW HJ
        go_wp2_with fail
        go_roundw
        case rel => exact ⟨3, by omega, by go_num, rfl, HZ⟩
        case measure => simp [intOf]
      · have hw := HW.out
        change St w ((q, ac s30 s31 s32) :: [(h, tri ta tb tc), (g7, tri m2 n 1), (g + 1, tri F0 F1 F2), (b + 1 + 1, ac 0 0 0), (b, gob n (.slice (some ⟨bl, ol, none⟩) N cap))]) wr at hw
        obtain ⟨⟨l0, l1, l2⟩, _⟩ := HO.out _ _ _ _ hw
        have HR : Hid (∀ V, Below wr.heap.size wr V → CB V (b + 1 + 1) 0 0 0 ∧ (V.frozen? ⟨b + 1 + 1, 0, none⟩ = false ∧ V.frozen? ⟨b + 1 + 1, 1, none⟩ = false ∧ V.frozen? ⟨b + 1 + 1, 2, none⟩ = false) ∧ Below w.heap.size w V) := fun V hV => by
          have hh := hw.later hV
          exact ⟨hh.col (t := 25) (by simp), hh.fro (t := 25) (cs := #[.int .i64 0, .int .i64 0, .int .i64 0]) (by simp), hh.below⟩
        clear hw HW HF HL HT2 HO HX
        go_wp2_with (go_at_call 24; (refine (HMap.out _).mono ?_); rintro e w9 ⟨rfl, h9⟩; obtain ⟨⟨m0, m1, m2'⟩, ⟨f0, f1, f2⟩, h3⟩ := HR.out _ h9)
        subst hb
        exact bodyPost_ret (v := ag d0 d1 d2) (by simp [results, Try.results13, go_sem, *]) rfl ⟨by rw [HE.out], below_set3 h3 (by omega) _ _ _⟩
end Go.Proofs.Ytcmplgiilcfncaa.K
