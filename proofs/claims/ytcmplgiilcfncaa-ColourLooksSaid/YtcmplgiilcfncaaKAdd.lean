/-
  addWeighted; Narrow.
-/
import Derived.Test.YtcmplgiilcfncaaKClipF
import Derived.BigRegion
namespace Go.Proofs.Ytcmplgiilcfncaa.K
open Go.RowKit
variable {W w w' : World} {L : List (Nat × Obj)}

/-- bounds of what is summed -/
def Ws (s c m : Int) : Prop := -1000000000000 ≤ s ∧ s ≤ 1000000000000 ∧ 0 ≤ c ∧ c ≤ 65535 ∧ 0 ≤ m ∧ m ≤ 65535
theorem add1_any (k : Nat) (s m : Int) (x y z : Int) (gc gm : Nat) (w : World) (hk : k < 3) (hc : CB w gc x y z) (hm : w.cell? ⟨gm, 0, none⟩ = some (.int .i64 m)) (hb : Ws s (C3.at ⟨x, y, z⟩ k) m) :
    Calls Try.prog 50 (#[.int .i64 k, .int .i64 s] ++ #[.pointer (some ⟨gc, 0, none⟩), .pointer (some ⟨gm, 0, none⟩)]) w fun e w' => e = .returned (.int .i64 (s + C3.at ⟨x, y, z⟩ k * m)) ∧ Below w.heap.size w w' := by
  have c0 : w.cell? ⟨gc, k, none⟩ = some (.int .i64 (C3.at ⟨x, y, z⟩ k)) := by
    rcases (by omega : k = 0 ∨ k = 1 ∨ k = 2) with rfl | rfl | rfl
    · exact hc.1
    · exact hc.2.1
    · exact hc.2.2
  clear hc
  generalize C3.at ⟨x, y, z⟩ k = c at c0 hb ⊢
  obtain ⟨s1, s2, c1, c2, m1, m2⟩ := hb
  have hp := mul_bd c1 c2 m1 m2
  obtain ⟨p, hp'⟩ : ∃ p, c * m = p := ⟨_, rfl⟩
  rw [hp'] at hp
  have g1 : IntKind.i64.wrap (c * m) = p := by rw [hp']; exact wr_in (by omega)
  have g2 : wrap64 (c * m) = p := (IntWalk.i64_left _).symm.trans g1
  have g3 : IntKind.i64.wrap (s + p) = s + p := wr_in (by omega)
  rw [hp']
  have HP := Lib.hid hp'
  have q1 : (0 : Int) ≤ k := by omega
  have q2 : (k : Int) < 3 := by omega
  clear hp' hp s1 s2 c1 c2 m1 m2
  have key : Calls Try.prog 50 #[.int .i64 k, .int .i64 s, .pointer (some ⟨gc, 0, none⟩), .pointer (some ⟨gm, 0, none⟩)] w fun e w' => e = .returned (.int .i64 (s + p)) ∧ ∃ m, w' = w.drewN m := by
    go_enter Try.func50, Try.ntmps50
    go_upto_region 1 with fail
    go_quiet (fail)
    go_wp2_with fail
    go_ret
    exact ⟨rfl, _, rfl⟩
  exact quiet_below key
set_option maxRecDepth 100000 in
set_option maxHeartbeats 4000000 in
theorem add_any (s0 s1 s2 x y z m : Int) (w : World) (h0 : Ws s0 x m) (h1 : Ws s1 y m) (h2 : Ws s2 z m) : Calls Try.prog 33 #[ag s0 s1 s2, ag x y z, .int .i64 m] w fun e w' => e = .returned (ag (s0 + x * m) (s1 + y * m) (s2 + z * m)) ∧ Below w.heap.size w w' := by
  go_enter Try.func33, Try.ntmps33
  go_upto_region 1 with fail
  have hs := ((((St.start w).alloc (ac s0 s1 s2)).alloc (ac x y z)).alloc (vo (.int .i64 m) 3)).alloc (ac 0 0 0)
  simp only [World.size_alloc] at hs
  generalize (((w.alloc (ac s0 s1 s2)).alloc (ac x y z)).alloc (vo (.int .i64 m) 3)).alloc (ac 0 0 0) = w1 at hs ⊢
  generalize hb : w.heap.size = b at hs ⊢
  obtain ⟨l0, l1, l2⟩ := hs.col (b := b) (x := s0) (y := s1) (z := s2) (t := 25) (by simp)
  have HM : Hid (∀ V, Below w1.heap.size w1 V → CB V (b + 1) x y z ∧ V.cell? ⟨b + 1 + 1, 0, none⟩ = some (.int .i64 m)) := fun V hV => by
    have hh := hs.later hV
    exact ⟨hh.col (t := 25) (by simp), hh.var (t := 3) (by simp)⟩
  have HR : Hid (∀ V, Below w1.heap.size w1 V → CB V (b + 1 + 1 + 1) 0 0 0 ∧ (V.frozen? ⟨b + 1 + 1 + 1, 0, none⟩ = false ∧ V.frozen? ⟨b + 1 + 1 + 1, 1, none⟩ = false ∧ V.frozen? ⟨b + 1 + 1 + 1, 2, none⟩ = false) ∧ Below w.heap.size w V) := fun V hV => by
    have hh := hs.later hV
    exact ⟨hh.col (t := 25) (by simp), hh.fro (t := 25) (cs := #[.int .i64 0, .int .i64 0, .int .i64 0]) (by simp), hh.below⟩
  have HA : Hid (Calls Try.prog 24 #[ag s0 s1 s2, .func (.func 50) #[] #[.pointer (some ⟨b + 1, 0, none⟩), .pointer (some ⟨b + 1 + 1, 0, none⟩)]] w1 fun e w' => e = .returned (ag (s0 + x * m) (s1 + y * m) (s2 + z * m)) ∧ Below w1.heap.size w1 w') :=
    map_any 50 _ s0 s1 s2 _ _ _ w1 (enters_of Try.func50 (by kernel_rfl) rfl)
      (fun X hX => add1_any 0 s0 m x y z _ _ X (by omega) (HM.out X hX).1 (HM.out X hX).2 h0)
      (fun X hX => add1_any 1 s1 m x y z _ _ X (by omega) (HM.out X hX).1 (HM.out X hX).2 h1)
      (fun X hX => add1_any 2 s2 m x y z _ _ X (by omega) (HM.out X hX).1 (HM.out X hX).2 h2)
  have HE : Hid (ag (s0 + x * m) (s1 + y * m) (s2 + z * m) = ag (s0 + x * m) (s1 + y * m) (s2 + z * m)) := rfl
  clear hs HM h0 h1 h2
  obtain ⟨d0, e0⟩ : ∃ d, s0 + x * m = d := ⟨_, rfl⟩
  obtain ⟨d1, e1⟩ : ∃ d, s1 + y * m = d := ⟨_, rfl⟩
  obtain ⟨d2, e2⟩ : ∃ d, s2 + z * m = d := ⟨_, rfl⟩
  rw [e0, e1, e2] at HA
  have HD := Lib.hid (And.intro e0 (And.intro e1 e2))
  clear e0 e1 e2
  go_wp2_with (go_at_call 24; (refine HA.out.mono ?_); rintro e w2 ⟨rfl, h2⟩; obtain ⟨⟨m0, m1, m2⟩, ⟨f0, f1, f2⟩, h3⟩ := HR.out _ h2)
  subst hb
  exact bodyPost_ret (v := ag d0 d1 d2) (by simp [results, Try.results33, go_sem, *]) rfl ⟨by rw [HD.out.1, HD.out.2.1, HD.out.2.2], below_set3 h3 (by omega) _ _ _⟩
end Go.Proofs.Ytcmplgiilcfncaa.K
