/-
  A matrix times a colour.
-/
import Derived.Test.YtcmplgiilcfncaaKClipF
namespace Go.Proofs.Ytcmplgiilcfncaa.K
open Go.RowKit
variable {W w w' : World} {L : List (Nat × Obj)}

/-- an entry in range -/
def En (a : Int) : Prop := -65536 ≤ a ∧ a ≤ 65536
def EnM (m : M9) : Prop := En m.m0 ∧ En m.m1 ∧ En m.m2 ∧ En m.m3 ∧ En m.m4 ∧ En m.m5 ∧ En m.m6 ∧ En m.m7 ∧ En m.m8
def Cl (a : Int) : Prop := -16777216 ≤ a ∧ a ≤ 16777216
def row3 (a b c x y z : Int) : Int := (a * x + b * y + c * z + 2048) / 4096
def mulM (m : M9) (c : C3) : C3 := ⟨row3 m.m0 m.m1 m.m2 c.r c.g c.b, row3 m.m3 m.m4 m.m5 c.r c.g c.b, row3 m.m6 m.m7 m.m8 c.r c.g c.b⟩
theorem prod_facts {a x : Int} (ha : En a) (hx : Cl x) : ∃ p, a * x = p ∧ IntKind.i64.wrap (a * x) = p ∧ wrap64 (a * x) = p ∧ -1099511627776 ≤ p ∧ p ≤ 1099511627776 := by
  have m := mul_abs (a := a) (b := x) (A := 65536) (B := 16777216) ha.1 ha.2 hx.1 hx.2
  refine ⟨_, rfl, wr_in (by omega), wrap_in (by omega), by omega, by omega⟩
set_option maxHeartbeats 2000000 in
theorem mul1_0 (m : M9) (x y z t : Int) (bm bc : Nat) (w : World) (hm : Has w bm 0 m.l) (hc : CB w bc x y z) (ea : En m.m0) (eb : En m.m1) (ec : En m.m2) (ex : Cl x) (ey : Cl y) (ez : Cl z) :
    Calls Try.prog 82 (#[.int .i64 0, .int .i64 t] ++ #[.pointer (some ⟨bm, 0, none⟩), .pointer (some ⟨bc, 0, none⟩)]) w fun e w' => e = .returned (.int .i64 (row3 m.m0 m.m1 m.m2 x y z)) ∧ Below w.heap.size w w' := by
  have ma := hm 0 _ rfl
  have mb := hm 1 _ rfl
  have mc := hm 2 _ rfl
  rw [Nat.zero_add] at ma mb mc
  unfold row3
  generalize m.m0 = a at *
  generalize m.m1 = b at *
  generalize m.m2 = c at *
  obtain ⟨c0, c1, c2⟩ := hc
  obtain ⟨p, hp, p1, p2, p3, p4⟩ := prod_facts ea ex
  obtain ⟨q, hq, q1, q2, q3, q4⟩ := prod_facts eb ey
  obtain ⟨r, hr, r1, r2, r3, r4⟩ := prod_facts ec ez
  rw [hp, hq, hr]
  have g1 : IntKind.i64.wrap (p + q) = p + q := wr_in (by omega)
  have g2 : IntKind.i64.wrap (p + q + r) = p + q + r := wr_in (by omega)
  have g3 : IntKind.i64.wrap (p + q + r + 2048) = p + q + r + 2048 := wr_in (by omega)
  have hf : flo (p + q + r + 2048) 4096 = (p + q + r + 2048) / 4096 := flo_div (by omega) (by omega) (by omega)
  have HF : Hid (∀ V, Calls Try.prog 22 #[.int .i64 (p + q + r + 2048), .int .i64 4096] V fun e w' => e = .returned (.int .i64 ((p + q + r + 2048) / 4096)) ∧ V = w') := fun V => hf ▸ floor_any _ _ V
  have HH := Lib.hid (And.intro hp (And.intro hq hr))
  clear hm ea eb ec ex ey ez hp hq hr hf
  have key : Calls Try.prog 82 #[.int .i64 0, .int .i64 t, .pointer (some ⟨bm, 0, none⟩), .pointer (some ⟨bc, 0, none⟩)] w fun e w' => e = .returned (.int .i64 ((p + q + r + 2048) / 4096)) ∧ ∃ m, w' = w.drewN m := by
    go_enter Try.func82, Try.ntmps82
    go_upto_region 1 with fail
    go_quiet ((go_at_call 22; exact Calls.quiet_of_same ((HF.out _).mono fun _ _ ⟨h, h'⟩ => ⟨h, h'.symm⟩)))
    go_wp2_with fail
    go_ret
    exact ⟨rfl, _, rfl⟩
  exact quiet_below key
set_option maxHeartbeats 2000000 in
theorem mul1_1 (m : M9) (x y z t : Int) (bm bc : Nat) (w : World) (hm : Has w bm 0 m.l) (hc : CB w bc x y z) (ea : En m.m3) (eb : En m.m4) (ec : En m.m5) (ex : Cl x) (ey : Cl y) (ez : Cl z) :
    Calls Try.prog 82 (#[.int .i64 1, .int .i64 t] ++ #[.pointer (some ⟨bm, 0, none⟩), .pointer (some ⟨bc, 0, none⟩)]) w fun e w' => e = .returned (.int .i64 (row3 m.m3 m.m4 m.m5 x y z)) ∧ Below w.heap.size w w' := by
  have ma := hm 3 _ rfl
  have mb := hm 4 _ rfl
  have mc := hm 5 _ rfl
  rw [Nat.zero_add] at ma mb mc
  unfold row3
  generalize m.m3 = a at *
  generalize m.m4 = b at *
  generalize m.m5 = c at *
  obtain ⟨c0, c1, c2⟩ := hc
  obtain ⟨p, hp, p1, p2, p3, p4⟩ := prod_facts ea ex
  obtain ⟨q, hq, q1, q2, q3, q4⟩ := prod_facts eb ey
  obtain ⟨r, hr, r1, r2, r3, r4⟩ := prod_facts ec ez
  rw [hp, hq, hr]
  have g1 : IntKind.i64.wrap (p + q) = p + q := wr_in (by omega)
  have g2 : IntKind.i64.wrap (p + q + r) = p + q + r := wr_in (by omega)
  have g3 : IntKind.i64.wrap (p + q + r + 2048) = p + q + r + 2048 := wr_in (by omega)
  have hf : flo (p + q + r + 2048) 4096 = (p + q + r + 2048) / 4096 := flo_div (by omega) (by omega) (by omega)
  have HF : Hid (∀ V, Calls Try.prog 22 #[.int .i64 (p + q + r + 2048), .int .i64 4096] V fun e w' => e = .returned (.int .i64 ((p + q + r + 2048) / 4096)) ∧ V = w') := fun V => hf ▸ floor_any _ _ V
  have HH := Lib.hid (And.intro hp (And.intro hq hr))
  clear hm ea eb ec ex ey ez hp hq hr hf
  have key : Calls Try.prog 82 #[.int .i64 1, .int .i64 t, .pointer (some ⟨bm, 0, none⟩), .pointer (some ⟨bc, 0, none⟩)] w fun e w' => e = .returned (.int .i64 ((p + q + r + 2048) / 4096)) ∧ ∃ m, w' = w.drewN m := by
    go_enter Try.func82, Try.ntmps82
    go_upto_region 1 with fail
    go_quiet ((go_at_call 22; exact Calls.quiet_of_same ((HF.out _).mono fun _ _ ⟨h, h'⟩ => ⟨h, h'.symm⟩)))
    go_wp2_with fail
    go_ret
    exact ⟨rfl, _, rfl⟩
  exact quiet_below key
set_option maxHeartbeats 2000000 in
theorem mul1_2 (m : M9) (x y z t : Int) (bm bc : Nat) (w : World) (hm : Has w bm 0 m.l) (hc : CB w bc x y z) (ea : En m.m6) (eb : En m.m7) (ec : En m.m8) (ex : Cl x) (ey : Cl y) (ez : Cl z) :
    Calls Try.prog 82 (#[.int .i64 2, .int .i64 t] ++ #[.pointer (some ⟨bm, 0, none⟩), .pointer (some ⟨bc, 0, none⟩)]) w fun e w' => e = .returned (.int .i64 (row3 m.m6 m.m7 m.m8 x y z)) ∧ Below w.heap.size w w' := by
  have ma := hm 6 _ rfl
  have mb := hm 7 _ rfl
  have mc := hm 8 _ rfl
  rw [Nat.zero_add] at ma mb mc
  unfold row3
  generalize m.m6 = a at *
  generalize m.m7 = b at *
  generalize m.m8 = c at *
  obtain ⟨c0, c1, c2⟩ := hc
  obtain ⟨p, hp, p1, p2, p3, p4⟩ := prod_facts ea ex
  obtain ⟨q, hq, q1, q2, q3, q4⟩ := prod_facts eb ey
  obtain ⟨r, hr, r1, r2, r3, r4⟩ := prod_facts ec ez
  rw [hp, hq, hr]
  have g1 : IntKind.i64.wrap (p + q) = p + q := wr_in (by omega)
  have g2 : IntKind.i64.wrap (p + q + r) = p + q + r := wr_in (by omega)
  have g3 : IntKind.i64.wrap (p + q + r + 2048) = p + q + r + 2048 := wr_in (by omega)
  have hf : flo (p + q + r + 2048) 4096 = (p + q + r + 2048) / 4096 := flo_div (by omega) (by omega) (by omega)
  have HF : Hid (∀ V, Calls Try.prog 22 #[.int .i64 (p + q + r + 2048), .int .i64 4096] V fun e w' => e = .returned (.int .i64 ((p + q + r + 2048) / 4096)) ∧ V = w') := fun V => hf ▸ floor_any _ _ V
  have HH := Lib.hid (And.intro hp (And.intro hq hr))
  clear hm ea eb ec ex ey ez hp hq hr hf
  have key : Calls Try.prog 82 #[.int .i64 2, .int .i64 t, .pointer (some ⟨bm, 0, none⟩), .pointer (some ⟨bc, 0, none⟩)] w fun e w' => e = .returned (.int .i64 ((p + q + r + 2048) / 4096)) ∧ ∃ m, w' = w.drewN m := by
    go_enter Try.func82, Try.ntmps82
    go_upto_region 1 with fail
    go_quiet ((go_at_call 22; exact Calls.quiet_of_same ((HF.out _).mono fun _ _ ⟨h, h'⟩ => ⟨h, h'.symm⟩)))
    go_wp2_with fail
    go_ret
    exact ⟨rfl, _, rfl⟩
  exact quiet_below key
set_option maxRecDepth 100000 in
set_option maxHeartbeats 4000000 in
theorem mul_any (m : M9) (c0 c1 c2 : Int) (w : World) (hm : EnM m) (e0 : Cl c0) (e1 : Cl c1) (e2 : Cl c2) : Calls Try.prog 76 #[m.v, ag c0 c1 c2] w fun e w' => e = .returned (mulM m ⟨c0, c1, c2⟩).v ∧ Below w.heap.size w w' := by
  obtain ⟨n0, n1, n2, n3, n4, n5, n6, n7, n8⟩ := hm
  go_enter Try.func76, Try.ntmps76
  go_upto_region 1 with fail
  have hs := (((St.start w).alloc (.cells m.l.toArray 44)).alloc (ac c0 c1 c2)).alloc (ac 0 0 0)
  simp only [World.size_alloc] at hs
  generalize ((w.alloc (.cells m.l.toArray 44)).alloc (ac c0 c1 c2)).alloc (ac 0 0 0) = w1 at hs ⊢
  generalize hb : w.heap.size = b at hs ⊢
  obtain ⟨l0, l1, l2⟩ := hs.col (b := b + 1) (x := c0) (y := c1) (z := c2) (t := 25) (by simp)
  have HM : Hid (∀ V, Below w1.heap.size w1 V → Has V b 0 m.l ∧ CB V (b + 1) c0 c1 c2) := fun V hV => by
    have hh := hs.later hV
    exact ⟨St.has hh (t := 44) (by simp), hh.col (t := 25) (by simp)⟩
  have HR : Hid (∀ V, Below w1.heap.size w1 V → CB V (b + 1 + 1) 0 0 0 ∧ (V.frozen? ⟨b + 1 + 1, 0, none⟩ = false ∧ V.frozen? ⟨b + 1 + 1, 1, none⟩ = false ∧ V.frozen? ⟨b + 1 + 1, 2, none⟩ = false) ∧ Below w.heap.size w V) := fun V hV => by
    have hh := hs.later hV
    exact ⟨hh.col (t := 25) (by simp), hh.fro (t := 25) (cs := #[.int .i64 0, .int .i64 0, .int .i64 0]) (by simp), hh.below⟩
  clear hs
  have HE : Hid ((mulM m ⟨c0, c1, c2⟩).v = ag (row3 m.m0 m.m1 m.m2 c0 c1 c2) (row3 m.m3 m.m4 m.m5 c0 c1 c2) (row3 m.m6 m.m7 m.m8 c0 c1 c2)) := rfl
  have HA : Hid (∀ V, V = w1 → Calls Try.prog 24 #[ag c0 c1 c2, .func (.func 82) #[] #[.pointer (some ⟨b, 0, none⟩), .pointer (some ⟨b + 1, 0, none⟩)]] V fun e w' => e = .returned (ag (row3 m.m0 m.m1 m.m2 c0 c1 c2) (row3 m.m3 m.m4 m.m5 c0 c1 c2) (row3 m.m6 m.m7 m.m8 c0 c1 c2)) ∧ Below V.heap.size V w') := fun V hV => by
    subst hV
    exact map_any 82 _ c0 c1 c2 _ _ _ V (enters_of Try.func82 (by kernel_rfl) rfl)
      (fun X hX => mul1_0 m c0 c1 c2 _ b (b + 1) X (HM.out X hX).1 (HM.out X hX).2 n0 n1 n2 e0 e1 e2)
      (fun X hX => mul1_1 m c0 c1 c2 _ b (b + 1) X (HM.out X hX).1 (HM.out X hX).2 n3 n4 n5 e0 e1 e2)
      (fun X hX => mul1_2 m c0 c1 c2 _ b (b + 1) X (HM.out X hX).1 (HM.out X hX).2 n6 n7 n8 e0 e1 e2)
  clear HM n0 n1 n2 n3 n4 n5 n6 n7 n8 e0 e1 e2
  generalize row3 m.m0 m.m1 m.m2 c0 c1 c2 = d0 at HE HA
  generalize row3 m.m3 m.m4 m.m5 c0 c1 c2 = d1 at HE HA
  generalize row3 m.m6 m.m7 m.m8 c0 c1 c2 = d2 at HE HA
  go_wp2_with (go_at_call 24; (refine (HA.out _ rfl).mono ?_); rintro e w2 ⟨rfl, h2⟩; obtain ⟨⟨m0, m1, m2⟩, ⟨f0, f1, f2⟩, h3⟩ := HR.out _ h2)
  subst hb
  exact bodyPost_ret (v := ag d0 d1 d2) (by simp [results, Try.results76, go_sem, *]) rfl ⟨by rw [HE.out], below_set3 h3 (by omega) _ _ _⟩
end Go.Proofs.Ytcmplgiilcfncaa.K
