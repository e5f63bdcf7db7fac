/-
  PixelMeanOrder: pixels added in either order, k times at once or one at a time, give the same mean; one pixel added again and again gives that pixel, cleaned. No conditions.
-/
import Derived.Test.YtfclbfliebdopaaLaw
import Derived.Test.YtfclbfliebdopaaOrd
namespace Go.Proofs.Ytfclbfliebdopaa.LMeanOrder
open Go.ChangeShapes Go.WideShapes Go.ChangeAt Go.RowKit


set_option maxHeartbeats 8000000 in
set_option maxRecDepth 100000 in
theorem walk (po : Option Addr) (n c : Nat) (u : Int) (w : World) (_hn : n ≤ 9223372036854775807) (hI : ∀ i, i < n → ∃ r g b a, PixAt w po i r g b a ∧ Ch r ∧ Ch g ∧ Ch b ∧ Ch a) (hu : Ch u) : Calls Try.prog 11 #[.slice po n c, .int .u8 u] w fun e w' => e = .returned (.bool true) ∧ Below w.heap.size w w' := by
  obtain ⟨P, hP, hI⟩ := pix_fun hI
  have HB : Hid (∀ i, i < n → ∀ V, Below w.heap.size w V → PixAt V po i (P i).r (P i).g (P i).b (P i).a) := fun i hi V h => by
    obtain ⟨bl, off, rfl, hbl, i0, i1, i2, i3⟩ := hI i hi
    exact ⟨bl, off, rfl, Nat.lt_of_lt_of_le hbl h.size, (h.cell (p := ⟨bl, off + i * 4, none⟩) hbl).trans i0, (h.cell (p := ⟨bl, off + i * 4 + 1, none⟩) hbl).trans i1, (h.cell (p := ⟨bl, off + i * 4 + 2, none⟩) hbl).trans i2, (h.cell (p := ⟨bl, off + i * 4 + 3, none⟩) hbl).trans i3⟩
  clear hI
  obtain ⟨m, hm, hmn, hm30⟩ : ∃ m : Nat, ((m : Int) = if (30 : Int) < (n : Int) then (30 : Int) else (n : Int)) ∧ m ≤ n ∧ m ≤ 30 := by
    by_cases h : (30 : Int) < n
    · exact ⟨30, by rw [if_pos h]; rfl, by omega, by omega⟩
    · exact ⟨n, by rw [if_neg h], by omega, by omega⟩
  have hmin : ∀ (ts : Array TypeId) (t : TypeId) (w : World), (Builtin.min_ ts t #[.int .i64 n, .int .i64 30]).run Try.prog w = .ok (.int .i64 m) w := fun ts t w => by
    rw [hm]; simp only [run_min_int2]
  have hmi : Hid ((m : Int) = if (30 : Int) < (n : Int) then (30 : Int) else (n : Int)) := hm
  clear hm
  obtain ⟨Q, HQ⟩ : ∃ Q : Nat → Px, Hid (Q = fun i => P (m - 1 - i)) := ⟨_, rfl⟩
  have hQ : Pok Q := by rw [HQ.out]; exact fun i => hP _
  have h0 := St.start w
  go_enter Try.func11, Try.ntmps11
  go_upto_region 2 with (go_at_call 12; (with_reducible refine (St.call h0 (sane_any _)).mono ?_); rintro e w2 ⟨rfl, h2⟩)
  clear h0
  go_upto_region 3 with fail
  obtain ⟨kn, hkn⟩ : ∃ kn : Nat, 1 + u % 9 = (kn : Int) := ⟨(1 + u % 9).toNat, by omega⟩
  rw [hkn]
  have hk9 : 1 ≤ (kn : Int) ∧ (kn : Int) ≤ 9 := by omega
  clear hkn
  generalize u % 9 = uq
  go_upto_region 6 with fail
  have h3 := ((h2.alloc (mo 0 0 0 0 0)).alloc (mo 0 0 0 0 0)).alloc (mo 0 0 0 0 0)
  rw [World.size_alloc, World.size_alloc] at h3
  have hz := h2.below.size
  have hba : w.heap.size ≤ w2.heap.size := hz
  have hbb : w.heap.size ≤ w2.heap.size + 1 := by omega
  have hbc : w.heap.size ≤ w2.heap.size + 1 + 1 := by omega
  have hab : w2.heap.size ≠ w2.heap.size + 1 := by omega
  have hac : w2.heap.size ≠ w2.heap.size + 1 + 1 := by omega
  have hbc2 : w2.heap.size + 1 ≠ w2.heap.size + 1 + 1 := by omega
  generalize ((w2.alloc (mo 0 0 0 0 0)).alloc (mo 0 0 0 0 0)).alloc (mo 0 0 0 0 0) = w3 at h3 ⊢
  generalize w2.heap.size + 1 + 1 = bc at h3 hbc hac hbc2 ⊢
  generalize w2.heap.size + 1 = bb at h3 hbb hab hbc2 ⊢
  generalize w2.heap.size = ba at h3 hba hab hac ⊢
  clear hz h2
  have h4 : St w [(ba, mk kn P 0), (bb, mk kn Q 0), (bc, mc 0 (P 0))] w3 := by
    have e : mc 0 (P 0) = mo 0 0 0 0 0 := by unfold mc; simp only [Int.zero_mul]
    rw [e]
    exact h3.sub (by simp [mk, sN, sA, sX, fs])
  clear h3
  go_wp2_with fail
  go_loopw [10, 11] (fun v _ wr => ∃ t : Nat, t ≤ m ∧ v = .int .i64 t ∧ Hid (∃ S : Int, 0 ≤ S ∧ S ≤ 39 * t ∧ (t : Int) ≤ S ∧ St w [(ba, mk kn P t), (bb, mk kn Q t), (bc, mc S (P 0))] wr)) (fun v _ _ => 40 - (intOf v).toNat)
  case atStart => exact ⟨0, by omega, rfl, 0, by decide, by decide, by decide, h4⟩
  case round =>
    obtain ⟨t, ht, rfl, HS⟩ := hrel
    obtain ⟨S, hS0, hS1, hS2, h3⟩ := HS.out
    clear HS h4
    by_cases h1 : (t : Int) < n
    · by_cases h2 : (t : Int) < 30
      · have htm : t < m := by have := hmi.out; (split at this) <;> omega
        obtain ⟨bl, off, rfl, hbl, _⟩ := HB.out 0 (by omega) w (Below.refl _ _)
        have HC : Hid (∀ i, i < n → ∀ V, Below w.heap.size w V → V.cell? ⟨bl, off + i * 4, none⟩ = some (.int .u8 (P i).r) ∧ V.cell? ⟨bl, off + i * 4 + 1, none⟩ = some (.int .u8 (P i).g) ∧ V.cell? ⟨bl, off + i * 4 + 2, none⟩ = some (.int .u8 (P i).b) ∧ V.cell? ⟨bl, off + i * 4 + 3, none⟩ = some (.int .u8 (P i).a)) := fun i hi V h => by
          obtain ⟨bl2, off2, e, _, c0, c1, c2, c3⟩ := HB.out i hi V h
          cases e
          exact ⟨c0, c1, c2, c3⟩
        clear HB
        have HA : Hid (∀ x y z V, St w [(ba, x), (bb, y), (bc, z)] V → St w [(bb, y), (ba, x), (bc, z)] V) := fun x y z V h => h.sub (by simp)
        have HD : Hid (∀ x y z V, St w [(bb, y), (ba, x), (bc, z)] V → St w [(bc, z), (ba, x), (bb, y)] V) := fun x y z V h => h.sub (by simp)
        have HE : Hid (∀ x y z V, St w [(bc, z), (ba, x), (bb, y)] V → St w [(ba, x), (bb, y), (bc, z)] V) := fun x y z V h => h.sub (by simp)
        obtain ⟨c0, c1, c2, c3⟩ := HC.out t (by omega) _ h3.below
        go_upto_region 10 with (go_at_call 25; (with_reducible refine (add_k ba kn P t _ h3 hba (by simp; exact ⟨hab.symm, hac.symm⟩) hP hk9 (by omega)).mono ?_); rintro e w5 ⟨rfl, h5⟩)
        clear c0 c1 c2 c3 h3
        have h6 := HA.out _ _ _ _ h5
        rw [← mj_zero] at h6
        clear h5
        obtain ⟨i, hi, hQi⟩ : ∃ i : Nat, (m : Int) - 1 - t = i ∧ P i = Q t := ⟨m - 1 - t, by omega, by rw [HQ.out]⟩
        have hin : i < n := by omega
        have HC2 := HC.out i hin
        rw [hQi] at HC2
        have HCi : Hid (∀ V, Below w.heap.size w V → V.cell? ⟨bl, off + i * 4, none⟩ = some (.int .u8 (Q t).r) ∧ V.cell? ⟨bl, off + i * 4 + 1, none⟩ = some (.int .u8 (Q t).g) ∧ V.cell? ⟨bl, off + i * 4 + 2, none⟩ = some (.int .u8 (Q t).b) ∧ V.cell? ⟨bl, off + i * 4 + 3, none⟩ = some (.int .u8 (Q t).a)) := HC2
        clear HC2 hQi
        go_wp2_with fail
        go_loopw [11] (fun v wi => ∃ j : Nat, j ≤ kn ∧ v = .int .i64 j ∧ Hid (St w [(bb, mj kn Q t j), (ba, mk kn P (t + 1)), (bc, mc S (P 0))] wi)) (fun v _ => 9 - (intOf v).toNat)
        case atStart => exact ⟨0, by omega, rfl, h6⟩
        case round =>
          obtain ⟨j, hj, rfl, HT⟩ := hrel
          have h7 := HT.out
          clear HT h6
          by_cases hjk : (j : Int) < kn
          · obtain ⟨c0, c1, c2, c3⟩ := HCi.out _ h7.below
            go_wp2_with (go_at_call 25; (with_reducible refine (add_j bb kn Q t j _ h7 hbb (by simp; exact ⟨hab, hbc2.symm⟩) hQ hk9 (by omega) (by omega)).mono ?_); rintro e w8 ⟨rfl, h8⟩)
            go_roundw
            case rel => exact ⟨j + 1, by omega, by go_num, h8⟩
            case measure => simp [intOf]; omega
          · obtain rfl : j = kn := by omega
            rw [mj_all] at h7
            have h8 := HD.out _ _ _ _ h7
            obtain ⟨c0, c1, c2, c3⟩ := HC.out 0 (by omega) _ h8.below
            rw [Nat.zero_mul, Nat.add_zero] at c0 c1 c2 c3
            obtain ⟨p1, p2, p3, p4⟩ := hP 0
            go_wp2_with (go_at_call 25; (with_reducible refine (add_c bc S (j + t) (P 0) _ h8 hbc (by simp; exact ⟨hac, hbc2⟩) ⟨hS0, by omega⟩ ⟨by omega, by omega⟩ p1 p2 p3 p4).mono ?_); rintro e w9 ⟨rfl, h9⟩)
            go_roundw
            case rel => exact ⟨t + 1, by omega, by go_num, S + (j + t), by omega, by omega, by omega, HE.out _ _ _ _ h9⟩
            case measure => simp [intOf]; omega
      · have htm : t = m := by have := hmi.out; (split at this) <;> omega
        go_upto_region 15 with fail
        subst htm
        have hpx : pxk kn Q t = pxk kn P t := by rw [HQ.out]; exact pxk_back kn P t
        have hn0 : ¬ n = 0 := by omega
        · obtain ⟨bl, off, rfl, hbl, _⟩ := HB.out 0 (by omega) w (Below.refl _ _)
          have HC : Hid (∀ V, Below w.heap.size w V → V.cell? ⟨bl, off, none⟩ = some (.int .u8 (P 0).r) ∧ V.cell? ⟨bl, off + 1, none⟩ = some (.int .u8 (P 0).g) ∧ V.cell? ⟨bl, off + 2, none⟩ = some (.int .u8 (P 0).b) ∧ V.cell? ⟨bl, off + 3, none⟩ = some (.int .u8 (P 0).a)) := fun V h => by
            obtain ⟨bl2, off2, e, _, c0, c1, c2, c3⟩ := HB.out 0 (by omega) V h
            cases e
            rw [Nat.zero_mul, Nat.add_zero] at c0 c1 c2 c3
            exact ⟨c0, c1, c2, c3⟩
          clear HB
          have HP : Hid (∀ V, St w [(ba, mk kn P t), (bb, mk kn Q t), (bc, mc S (P 0))] V → St w [(ba, mk kn P t), (bb, mk kn Q t), (bc, mc S (P 0))] V ∧ (V.cell? ⟨bl, off, none⟩ = some (.int .u8 (P 0).r) ∧ V.cell? ⟨bl, off + 1, none⟩ = some (.int .u8 (P 0).g) ∧ V.cell? ⟨bl, off + 2, none⟩ = some (.int .u8 (P 0).b) ∧ V.cell? ⟨bl, off + 3, none⟩ = some (.int .u8 (P 0).a))) := fun V h => ⟨h, HC.out V h.below⟩
          obtain ⟨p1, p2, p3, p4⟩ := hP 0
          have hzn : ((n : Int) == 0) = false := beq_eq_false_iff_ne.2 (by omega)
          have hpos : 0 < n := by omega
          have H1 : Hid (∀ V, St w [(ba, mk kn P t), (bb, mk kn Q t), (bc, mc S (P 0))] V → Calls Try.prog 27 #[ptr ba] V fun e w' => e = .returned (pv (pxk kn P t).r (pxk kn P t).g (pxk kn P t).b (pxk kn P t).a) ∧ Below V.heap.size V w') := fun V h => pix_k ba kn P t V h hP hk9 hm30
          have H2 : Hid (∀ V, St w [(ba, mk kn P t), (bb, mk kn Q t), (bc, mc S (P 0))] V → Calls Try.prog 27 #[ptr bb] V fun e w' => e = .returned (pv (pxk kn P t).r (pxk kn P t).g (pxk kn P t).b (pxk kn P t).a) ∧ Below V.heap.size V w') := fun V h => by
            rw [← hpx]; exact pix_k (L := [(ba, mk kn P t), (bc, mc S (P 0))]) bb kn Q t V (h.sub (by simp)) hQ hk9 hm30
          have H3 : Hid (∀ V, St w [(ba, mk kn P t), (bb, mk kn Q t), (bc, mc S (P 0))] V → Calls Try.prog 27 #[ptr bc] V fun e w' => e = .returned (pv (cln (P 0)).r (cln (P 0)).g (cln (P 0)).b (cln (P 0)).a) ∧ Below V.heap.size V w') := fun V h =>
            pix_c (L := [(ba, mk kn P t), (bb, mk kn Q t)]) bc S (P 0) V (h.sub (by simp)) ⟨by omega, by omega⟩ p1 p2 p3 p4
          have H4 : Hid (∀ V, Calls Try.prog 23 #[pv (P 0).r (P 0).g (P 0).b (P 0).a] V fun e w' => e = .returned (pv (cln (P 0)).r (cln (P 0)).g (cln (P 0)).b (cln (P 0)).a) ∧ Below V.heap.size V w') := fun V => clean_any _ _ _ _ V
          have hd := h3.drew
          clear h3
          generalize cln (P 0) = z at H3 H4
          generalize pxk kn P t = y at H1 H2
          go_region_held3 (fun V => St w [(ba, mk kn P t), (bb, mk kn Q t), (bc, mc S (P 0))] V ∧ (V.cell? ⟨bl, off, none⟩ = some (.int .u8 (P 0).r) ∧ V.cell? ⟨bl, off + 1, none⟩ = some (.int .u8 (P 0).g) ∧ V.cell? ⟨bl, off + 2, none⟩ = some (.int .u8 (P 0).b) ∧ V.cell? ⟨bl, off + 3, none⟩ = some (.int .u8 (P 0).a))) ((refine HP.out _ ?_; assumption)) (first
            | (go_at_call 27; first
              | ((with_reducible refine (St.call (W := w) (L := [(ba, mk kn P t), (bb, mk kn Q t), (bc, mc S (P 0))]) ?_ (H1.out _ ?_)).mono ?_); (focus assumption); (focus assumption); rintro e w4 ⟨rfl, h4⟩)
              | ((with_reducible refine (St.call (W := w) (L := [(ba, mk kn P t), (bb, mk kn Q t), (bc, mc S (P 0))]) ?_ (H2.out _ ?_)).mono ?_); (focus assumption); (focus assumption); rintro e w4 ⟨rfl, h4⟩)
              | ((with_reducible refine (St.call (W := w) (L := [(ba, mk kn P t), (bb, mk kn Q t), (bc, mc S (P 0))]) ?_ (H3.out _ ?_)).mono ?_); (focus assumption); (focus assumption); rintro e w4 ⟨rfl, h4⟩))
            | (go_at_call 23; (with_reducible refine (St.call (W := w) (L := [(ba, mk kn P t), (bb, mk kn Q t), (bc, mc S (P 0))]) ?_ (H4.out _)).mono ?_); (focus assumption); rintro e w4 ⟨rfl, h4⟩))
          all_goals
            rename_i hHeld
            go_wp2_with fail
            go_ret
            exact ⟨rfl, h4.below⟩
    · have htm : t = m := by have := hmi.out; (split at this) <;> omega
      go_upto_region 15 with fail
      subst htm
      have hpx : pxk kn Q t = pxk kn P t := by rw [HQ.out]; exact pxk_back kn P t
      by_cases hn0 : n = 0
      · subst hn0
        have H1 : Hid (∀ V, St w [(ba, mk kn P t), (bb, mk kn Q t), (bc, mc S (P 0))] V → Calls Try.prog 27 #[ptr ba] V fun e w' => e = .returned (pv (pxk kn P t).r (pxk kn P t).g (pxk kn P t).b (pxk kn P t).a) ∧ Below V.heap.size V w') := fun V h => pix_k ba kn P t V h hP hk9 hm30
        have H2 : Hid (∀ V, St w [(ba, mk kn P t), (bb, mk kn Q t), (bc, mc S (P 0))] V → Calls Try.prog 27 #[ptr bb] V fun e w' => e = .returned (pv (pxk kn P t).r (pxk kn P t).g (pxk kn P t).b (pxk kn P t).a) ∧ Below V.heap.size V w') := fun V h => by
          rw [← hpx]; exact pix_k (L := [(ba, mk kn P t), (bc, mc S (P 0))]) bb kn Q t V (h.sub (by simp)) hQ hk9 hm30
        have hd := h3.drew
        clear h3
        generalize pxk kn P t = y at H1 H2
        refine wp_region_held_drew (S := (fun V => St w [(ba, mk kn P t), (bb, mk kn Q t), (bc, mc S (P 0))] V)) (by kernel_rfl) ?_ (fun hHeld => ?_)
        · (assumption)
        refine wpAnyH_take (i := 0) (oi := { dst := some 64, op := Op.move (Operand.tmp 5), type := 4, pos := "law.go:159", after := #[], guard := none }) (v := ?_) rfl (by kernel_rfl) (by kernel_rfl) (by kernel_rfl) (fun _ _ _ h => h) (Or.inl ⟨by kernel_rfl, ?_⟩) (by assumption) ?_
        rotate_left 1
        focus (intro w hSw; (try dsimp only at hSw); go_simp; (try with_reducible rfl))
        try simp only [Act.put, List.setIfInBounds_toArray, List.set_cons_zero, List.set_cons_succ]
        refine wpAnyH_take (i := 1) (oi := { dst := some 65, op := Op.move (Operand.tmp 64), type := 4, pos := "law.go:159", after := #[{ on := 0, ground := Ground.data }], guard := none }) (v := ?_) rfl (by kernel_rfl) (by kernel_rfl) (by kernel_rfl) (fun _ _ _ h => h) (Or.inl ⟨by kernel_rfl, ?_⟩) (by assumption) ?_
        rotate_left 1
        focus (intro w hSw; (try dsimp only at hSw); go_simp; (try with_reducible rfl))
        try simp only [Act.put, List.setIfInBounds_toArray, List.set_cons_zero, List.set_cons_succ]
        refine wpAnyH_take (i := 2) (oi := { dst := some 66, op := Op.move (Operand.tmp 7), type := 36, pos := "law.go:159", after := #[{ on := 1, ground := Ground.guard }], guard := some (1, true) }) (v := ?_) rfl (by kernel_rfl) (by kernel_rfl) (by kernel_rfl) (fun _ _ _ h => h) (Or.inl ⟨by kernel_rfl, ?_⟩) (by assumption) ?_
        rotate_left 1
        focus (intro w hSw; (try dsimp only at hSw); go_simp; (try with_reducible rfl))
        try simp only [Act.put, List.setIfInBounds_toArray, List.set_cons_zero, List.set_cons_succ]
        refine wpAnyH_take (i := 4) (oi := { dst := some 68, op := Op.move (Operand.tmp 8), type := 36, pos := "law.go:159", after := #[{ on := 1, ground := Ground.guard }], guard := some (1, true) }) (v := ?_) rfl (by kernel_rfl) (by kernel_rfl) (by kernel_rfl) (fun _ _ _ h => h) (Or.inl ⟨by kernel_rfl, ?_⟩) (by assumption) ?_
        rotate_left 1
        focus (intro w hSw; (try dsimp only at hSw); go_simp; (try with_reducible rfl))
        try simp only [Act.put, List.setIfInBounds_toArray, List.set_cons_zero, List.set_cons_succ]
        refine wpAnyH_ready (rs := [3]) (by kernel_rfl) (by simp) (AllReadyH.cons (o := { dst := some 67, op := Op.call { callee := Callee.value (Operand.func 27), args := #[Operand.tmp 66], argTypes := #[36] }, type := 27, pos := "law.go:159", after := #[{ on := 2, ground := Ground.data }, { on := 1, ground := Ground.chain }, { on := 1, ground := Ground.guard }], guard := some (1, true) }) rfl (fun K hK => ?_) AllReadyH.nil)
        (go_simp; (go_at_call 27; (with_reducible refine (St.call (W := w) (L := [(ba, mk kn P t), (bb, mk kn Q t), (bc, mc S (P 0))]) ?_ (H1.out _ ?_)).mono ?_); (focus assumption); (focus assumption); rintro e w4 ⟨rfl, h4⟩))
        refine hK.out _ _ ?_ (fun hHeld => ?_)
        · (assumption)
        clear hK K
        try simp only [Act.put, List.setIfInBounds_toArray, List.set_cons_zero, List.set_cons_succ]
        refine wpAnyH_ready (rs := [5]) (by kernel_rfl) (by simp) (AllReadyH.cons (o := { dst := some 69, op := Op.call { callee := Callee.value (Operand.func 27), args := #[Operand.tmp 68], argTypes := #[36] }, type := 27, pos := "law.go:159", after := #[{ on := 4, ground := Ground.data }, { on := 3, ground := Ground.chain }, { on := 1, ground := Ground.guard }], guard := some (1, true) }) rfl (fun K hK => ?_) AllReadyH.nil)
        (go_simp; (go_at_call 27; (with_reducible refine (St.call (W := w) (L := [(ba, mk kn P t), (bb, mk kn Q t), (bc, mc S (P 0))]) ?_ (H2.out _ ?_)).mono ?_); (focus assumption); (focus assumption); rintro e w4 ⟨rfl, h4⟩))
        refine hK.out _ _ ?_ (fun hHeld => ?_)
        · (assumption)
        clear hK K
        try simp only [Act.put, List.setIfInBounds_toArray, List.set_cons_zero, List.set_cons_succ]
        refine wpAnyH_take (i := 6) (oi := { dst := some 70, op := Op.binOp BinOp.eql 27 (Operand.tmp 67) (Operand.tmp 69) 27, type := 4, pos := "law.go:159", after := #[{ on := 3, ground := Ground.data }, { on := 5, ground := Ground.data }, { on := 1, ground := Ground.guard }], guard := some (1, true) }) (v := ?_) rfl (by kernel_rfl) (by kernel_rfl) (by kernel_rfl) (fun _ _ _ h => h) (Or.inl ⟨by kernel_rfl, ?_⟩) (by assumption) ?_
        rotate_left 1
        focus (intro w hSw; (try dsimp only at hSw); go_simp; (try with_reducible rfl))
        try simp only [Act.put, List.setIfInBounds_toArray, List.set_cons_zero, List.set_cons_succ]
        refine wpAnyH_take (i := 7) (oi := { dst := some 71, op := Op.pick (Operand.tmp 65) (Operand.tmp 70) (Operand.const (Value.bool false)), type := 4, pos := "law.go:159", after := #[{ on := 1, ground := Ground.data }, { on := 6, ground := Ground.data }], guard := none }) (v := ?_) rfl (by kernel_rfl) (by kernel_rfl) (by kernel_rfl) (fun _ _ _ h => h) (Or.inl ⟨by kernel_rfl, ?_⟩) (by assumption) ?_
        rotate_left 1
        focus (intro w hSw; (try dsimp only at hSw); go_simp; (try with_reducible rfl))
        try simp only [Act.put, List.setIfInBounds_toArray, List.set_cons_zero, List.set_cons_succ]
        refine wpAnyH_take (i := 8) (oi := { dst := some 72, op := Op.move (Operand.tmp 71), type := 4, pos := "law.go:159", after := #[{ on := 7, ground := Ground.data }, { on := 5, ground := Ground.chain }], guard := none }) (v := ?_) rfl (by kernel_rfl) (by kernel_rfl) (by kernel_rfl) (fun _ _ _ h => h) (Or.inl ⟨by kernel_rfl, ?_⟩) (by assumption) ?_
        rotate_left 1
        focus (intro w hSw; (try dsimp only at hSw); go_simp; (try with_reducible rfl))
        try simp only [Act.put, List.setIfInBounds_toArray, List.set_cons_zero, List.set_cons_succ]
        refine wpAnyH_take (i := 9) (oi := { dst := some 73, op := Op.move (Operand.tmp 0), type := 52, pos := "law.go:159", after := #[{ on := 8, ground := Ground.guard }], guard := some (8, true) }) (v := ?_) rfl (by kernel_rfl) (by kernel_rfl) (by kernel_rfl) (fun _ _ _ h => h) (Or.inl ⟨by kernel_rfl, ?_⟩) (by assumption) ?_
        rotate_left 1
        focus (intro w hSw; (try dsimp only at hSw); go_simp; (try with_reducible rfl))
        try simp only [Act.put, List.setIfInBounds_toArray, List.set_cons_zero, List.set_cons_succ]
        refine wpAnyH_take (i := 10) (oi := { dst := some 74, op := Op.call { callee := Callee.builtin Builtin.len, args := #[Operand.tmp 73], argTypes := #[52] }, type := 3, pos := "law.go:159", after := #[{ on := 9, ground := Ground.data }, { on := 8, ground := Ground.guard }], guard := some (8, true) }) (v := ?_) rfl (by kernel_rfl) (by kernel_rfl) (by kernel_rfl) (fun _ _ _ h => h) (Or.inl ⟨by kernel_rfl, ?_⟩) (by assumption) ?_
        rotate_left 1
        focus (intro w hSw; (try dsimp only at hSw); go_simp; (try with_reducible rfl))
        try simp only [Act.put, List.setIfInBounds_toArray, List.set_cons_zero, List.set_cons_succ]
        refine wpAnyH_take (i := 11) (oi := { dst := some 75, op := Op.binOp BinOp.eql 3 (Operand.tmp 74) (Operand.const (Value.int IntKind.i64 0)) 3, type := 4, pos := "law.go:159", after := #[{ on := 10, ground := Ground.data }, { on := 8, ground := Ground.guard }], guard := some (8, true) }) (v := ?_) rfl (by kernel_rfl) (by kernel_rfl) (by kernel_rfl) (fun _ _ _ h => h) (Or.inl ⟨by kernel_rfl, ?_⟩) (by assumption) ?_
        rotate_left 1
        focus (intro w hSw; (try dsimp only at hSw); go_simp; (try with_reducible rfl))
        try simp only [Act.put, List.setIfInBounds_toArray, List.set_cons_zero, List.set_cons_succ]
        refine wpAnyH_take (i := 12) (oi := { dst := some 76, op := Op.move (Operand.tmp 75), type := 4, pos := "law.go:159", after := #[{ on := 11, ground := Ground.data }, { on := 8, ground := Ground.chain }, { on := 8, ground := Ground.guard }], guard := some (8, true) }) (v := ?_) rfl (by kernel_rfl) (by kernel_rfl) (by kernel_rfl) (fun _ _ _ h => h) (Or.inl ⟨by kernel_rfl, ?_⟩) (by assumption) ?_
        rotate_left 1
        focus (intro w hSw; (try dsimp only at hSw); go_simp; (try with_reducible rfl))
        try simp only [Act.put, List.setIfInBounds_toArray, List.set_cons_zero, List.set_cons_succ]
        refine wpAnyH_take (i := 13) (oi := { dst := some 77, op := Op.move (Operand.tmp 9), type := 36, pos := "law.go:159", after := #[{ on := 12, ground := Ground.guard }], guard := some (12, false) }) rfl (by kernel_rfl) (by kernel_rfl) (by kernel_rfl) (fun _ _ _ h => h) (Or.inr ⟨by kernel_rfl, rfl⟩) (by assumption) ?_
        try simp only [Act.put, List.setIfInBounds_toArray, List.set_cons_zero, List.set_cons_succ]
        refine wpAnyH_take (i := 14) (oi := { dst := some 78, op := Op.call { callee := Callee.value (Operand.func 27), args := #[Operand.tmp 77], argTypes := #[36] }, type := 27, pos := "law.go:159", after := #[{ on := 13, ground := Ground.data }, { on := 12, ground := Ground.chain }, { on := 12, ground := Ground.guard }], guard := some (12, false) }) rfl (by kernel_rfl) (by kernel_rfl) (by kernel_rfl) (fun _ _ _ h => h) (Or.inr ⟨by kernel_rfl, rfl⟩) (by assumption) ?_
        try simp only [Act.put, List.setIfInBounds_toArray, List.set_cons_zero, List.set_cons_succ]
        refine wpAnyH_take (i := 15) (oi := { dst := some 79, op := Op.move (Operand.tmp 0), type := 52, pos := "law.go:159", after := #[{ on := 12, ground := Ground.guard }], guard := some (12, false) }) rfl (by kernel_rfl) (by kernel_rfl) (by kernel_rfl) (fun _ _ _ h => h) (Or.inr ⟨by kernel_rfl, rfl⟩) (by assumption) ?_
        try simp only [Act.put, List.setIfInBounds_toArray, List.set_cons_zero, List.set_cons_succ]
        refine wpAnyH_take (i := 16) (oi := { dst := some 80, op := Op.indexAddr 52 (Operand.tmp 79) (Operand.const (Value.int IntKind.i64 0)), type := 0, pos := "law.go:159", after := #[{ on := 15, ground := Ground.data }, { on := 12, ground := Ground.guard }], guard := some (12, false) }) rfl (by kernel_rfl) (by kernel_rfl) (by kernel_rfl) (fun _ _ _ h => h) (Or.inr ⟨by kernel_rfl, rfl⟩) (by assumption) ?_
        try simp only [Act.put, List.setIfInBounds_toArray, List.set_cons_zero, List.set_cons_succ]
        refine wpAnyH_take (i := 17) (oi := { dst := some 81, op := Op.load 27 (Operand.tmp 80), type := 27, pos := "law.go:159", after := #[{ on := 16, ground := Ground.data }, { on := 12, ground := Ground.guard }], guard := some (12, false) }) rfl (by kernel_rfl) (by kernel_rfl) (by kernel_rfl) (fun _ _ _ h => h) (Or.inr ⟨by kernel_rfl, rfl⟩) (by assumption) ?_
        try simp only [Act.put, List.setIfInBounds_toArray, List.set_cons_zero, List.set_cons_succ]
        refine wpAnyH_take (i := 18) (oi := { dst := some 82, op := Op.call { callee := Callee.value (Operand.func 23), args := #[Operand.tmp 81], argTypes := #[27] }, type := 27, pos := "law.go:159", after := #[{ on := 17, ground := Ground.data }, { on := 14, ground := Ground.chain }, { on := 12, ground := Ground.guard }], guard := some (12, false) }) rfl (by kernel_rfl) (by kernel_rfl) (by kernel_rfl) (fun _ _ _ h => h) (Or.inr ⟨by kernel_rfl, rfl⟩) (by assumption) ?_
        try simp only [Act.put, List.setIfInBounds_toArray, List.set_cons_zero, List.set_cons_succ]
        refine wpAnyH_take (i := 19) (oi := { dst := some 83, op := Op.binOp BinOp.eql 27 (Operand.tmp 78) (Operand.tmp 82) 27, type := 4, pos := "law.go:159", after := #[{ on := 14, ground := Ground.data }, { on := 18, ground := Ground.data }, { on := 12, ground := Ground.guard }], guard := some (12, false) }) rfl (by kernel_rfl) (by kernel_rfl) (by kernel_rfl) (fun _ _ _ h => h) (Or.inr ⟨by kernel_rfl, rfl⟩) (by assumption) ?_
        try simp only [Act.put, List.setIfInBounds_toArray, List.set_cons_zero, List.set_cons_succ]
        refine wpAnyH_take (i := 20) (oi := { dst := some 84, op := Op.pick (Operand.tmp 76) (Operand.const (Value.bool true)) (Operand.tmp 83), type := 4, pos := "law.go:159", after := #[{ on := 12, ground := Ground.data }, { on := 19, ground := Ground.data }, { on := 8, ground := Ground.guard }], guard := some (8, true) }) (v := ?_) rfl (by kernel_rfl) (by kernel_rfl) (by kernel_rfl) (fun _ _ _ h => h) (Or.inl ⟨by kernel_rfl, ?_⟩) (by assumption) ?_
        rotate_left 1
        focus (intro w hSw; (try dsimp only at hSw); go_simp; (try with_reducible rfl))
        try simp only [Act.put, List.setIfInBounds_toArray, List.set_cons_zero, List.set_cons_succ]
        refine wpAnyH_take (i := 21) (oi := { dst := some 85, op := Op.pick (Operand.tmp 72) (Operand.tmp 84) (Operand.const (Value.bool false)), type := 4, pos := "law.go:159", after := #[{ on := 8, ground := Ground.data }, { on := 20, ground := Ground.data }], guard := none }) (v := ?_) rfl (by kernel_rfl) (by kernel_rfl) (by kernel_rfl) (fun _ _ _ h => h) (Or.inl ⟨by kernel_rfl, ?_⟩) (by assumption) ?_
        rotate_left 1
        focus (intro w hSw; (try dsimp only at hSw); go_simp; (try with_reducible rfl))
        try simp only [Act.put, List.setIfInBounds_toArray, List.set_cons_zero, List.set_cons_succ]
        refine wpAnyH_take (i := 22) (oi := { dst := some 4, op := Op.assign (Operand.tmp 85), type := 4, pos := "law.go:159", after := #[{ on := 21, ground := Ground.data }, { on := 18, ground := Ground.chain }, { on := 0, ground := Ground.phase }, { on := 1, ground := Ground.phase }, { on := 2, ground := Ground.phase }, { on := 3, ground := Ground.phase }, { on := 4, ground := Ground.phase }, { on := 5, ground := Ground.phase }, { on := 6, ground := Ground.phase }, { on := 7, ground := Ground.phase }, { on := 8, ground := Ground.phase }, { on := 9, ground := Ground.phase }, { on := 10, ground := Ground.phase }, { on := 11, ground := Ground.phase }, { on := 12, ground := Ground.phase }, { on := 13, ground := Ground.phase }, { on := 14, ground := Ground.phase }, { on := 15, ground := Ground.phase }, { on := 16, ground := Ground.phase }, { on := 17, ground := Ground.phase }, { on := 18, ground := Ground.phase }, { on := 19, ground := Ground.phase }, { on := 20, ground := Ground.phase }, { on := 21, ground := Ground.phase }], guard := none }) (v := ?_) rfl (by kernel_rfl) (by kernel_rfl) (by kernel_rfl) (fun _ _ _ h => h) (Or.inl ⟨by kernel_rfl, ?_⟩) (by assumption) ?_
        rotate_left 1
        focus (intro w hSw; (try dsimp only at hSw); go_simp; (try with_reducible rfl))
        try simp only [Act.put, List.setIfInBounds_toArray, List.set_cons_zero, List.set_cons_succ]
        refine wpAnyH_done (by kernel_rfl) ?_ _
        all_goals
          rename_i hHeld
          go_wp2_with fail
          go_ret
          exact ⟨rfl, h4.below⟩
      · obtain ⟨bl, off, rfl, hbl, _⟩ := HB.out 0 (by omega) w (Below.refl _ _)
        have HC : Hid (∀ V, Below w.heap.size w V → V.cell? ⟨bl, off, none⟩ = some (.int .u8 (P 0).r) ∧ V.cell? ⟨bl, off + 1, none⟩ = some (.int .u8 (P 0).g) ∧ V.cell? ⟨bl, off + 2, none⟩ = some (.int .u8 (P 0).b) ∧ V.cell? ⟨bl, off + 3, none⟩ = some (.int .u8 (P 0).a)) := fun V h => by
          obtain ⟨bl2, off2, e, _, c0, c1, c2, c3⟩ := HB.out 0 (by omega) V h
          cases e
          rw [Nat.zero_mul, Nat.add_zero] at c0 c1 c2 c3
          exact ⟨c0, c1, c2, c3⟩
        clear HB
        have HP : Hid (∀ V, St w [(ba, mk kn P t), (bb, mk kn Q t), (bc, mc S (P 0))] V → St w [(ba, mk kn P t), (bb, mk kn Q t), (bc, mc S (P 0))] V ∧ (V.cell? ⟨bl, off, none⟩ = some (.int .u8 (P 0).r) ∧ V.cell? ⟨bl, off + 1, none⟩ = some (.int .u8 (P 0).g) ∧ V.cell? ⟨bl, off + 2, none⟩ = some (.int .u8 (P 0).b) ∧ V.cell? ⟨bl, off + 3, none⟩ = some (.int .u8 (P 0).a))) := fun V h => ⟨h, HC.out V h.below⟩
        obtain ⟨p1, p2, p3, p4⟩ := hP 0
        have hzn : ((n : Int) == 0) = false := beq_eq_false_iff_ne.2 (by omega)
        have hpos : 0 < n := by omega
        have H1 : Hid (∀ V, St w [(ba, mk kn P t), (bb, mk kn Q t), (bc, mc S (P 0))] V → Calls Try.prog 27 #[ptr ba] V fun e w' => e = .returned (pv (pxk kn P t).r (pxk kn P t).g (pxk kn P t).b (pxk kn P t).a) ∧ Below V.heap.size V w') := fun V h => pix_k ba kn P t V h hP hk9 hm30
        have H2 : Hid (∀ V, St w [(ba, mk kn P t), (bb, mk kn Q t), (bc, mc S (P 0))] V → Calls Try.prog 27 #[ptr bb] V fun e w' => e = .returned (pv (pxk kn P t).r (pxk kn P t).g (pxk kn P t).b (pxk kn P t).a) ∧ Below V.heap.size V w') := fun V h => by
          rw [← hpx]; exact pix_k (L := [(ba, mk kn P t), (bc, mc S (P 0))]) bb kn Q t V (h.sub (by simp)) hQ hk9 hm30
        have H3 : Hid (∀ V, St w [(ba, mk kn P t), (bb, mk kn Q t), (bc, mc S (P 0))] V → Calls Try.prog 27 #[ptr bc] V fun e w' => e = .returned (pv (cln (P 0)).r (cln (P 0)).g (cln (P 0)).b (cln (P 0)).a) ∧ Below V.heap.size V w') := fun V h =>
          pix_c (L := [(ba, mk kn P t), (bb, mk kn Q t)]) bc S (P 0) V (h.sub (by simp)) ⟨by omega, by omega⟩ p1 p2 p3 p4
        have H4 : Hid (∀ V, Calls Try.prog 23 #[pv (P 0).r (P 0).g (P 0).b (P 0).a] V fun e w' => e = .returned (pv (cln (P 0)).r (cln (P 0)).g (cln (P 0)).b (cln (P 0)).a) ∧ Below V.heap.size V w') := fun V => clean_any _ _ _ _ V
        have hd := h3.drew
        clear h3
        generalize cln (P 0) = z at H3 H4
        generalize pxk kn P t = y at H1 H2
        go_region_held3 (fun V => St w [(ba, mk kn P t), (bb, mk kn Q t), (bc, mc S (P 0))] V ∧ (V.cell? ⟨bl, off, none⟩ = some (.int .u8 (P 0).r) ∧ V.cell? ⟨bl, off + 1, none⟩ = some (.int .u8 (P 0).g) ∧ V.cell? ⟨bl, off + 2, none⟩ = some (.int .u8 (P 0).b) ∧ V.cell? ⟨bl, off + 3, none⟩ = some (.int .u8 (P 0).a))) ((refine HP.out _ ?_; assumption)) (first
          | (go_at_call 27; first
            | ((with_reducible refine (St.call (W := w) (L := [(ba, mk kn P t), (bb, mk kn Q t), (bc, mc S (P 0))]) ?_ (H1.out _ ?_)).mono ?_); (focus assumption); (focus assumption); rintro e w4 ⟨rfl, h4⟩)
            | ((with_reducible refine (St.call (W := w) (L := [(ba, mk kn P t), (bb, mk kn Q t), (bc, mc S (P 0))]) ?_ (H2.out _ ?_)).mono ?_); (focus assumption); (focus assumption); rintro e w4 ⟨rfl, h4⟩)
            | ((with_reducible refine (St.call (W := w) (L := [(ba, mk kn P t), (bb, mk kn Q t), (bc, mc S (P 0))]) ?_ (H3.out _ ?_)).mono ?_); (focus assumption); (focus assumption); rintro e w4 ⟨rfl, h4⟩))
          | (go_at_call 23; (with_reducible refine (St.call (W := w) (L := [(ba, mk kn P t), (bb, mk kn Q t), (bc, mc S (P 0))]) ?_ (H4.out _)).mono ?_); (focus assumption); rintro e w4 ⟨rfl, h4⟩))
        all_goals
          rename_i hHeld
          go_wp2_with fail
          go_ret
          exact ⟨rfl, h4.below⟩

set_option maxRecDepth 100000 in
theorem lifted (os : Os) (started : os.Started) (H : Type) (enc : TypeId × Value → H) :
    ReturnsInHanded {} Try.checked os 11 .any (Rows.pixelMeanOrderSpec.pre6 enc Try.prog Try.f11 Rows.pixelMeanOrderRow.domain false) (Rows.pixelMeanOrderSpec.post enc Try.prog Try.f11 false true false false) := by
  refine returnsInHanded_of_change_sized (C := Try.checked) own started (by kernel_rfl) Try.func11
    (ChangeSpec.witness6 (enc := enc) (C := Try.checked) false ⟨#[], #[.slice none 0 0, .int .u8 0], []⟩ 8 (by kernel_rfl) (by kernel_rfl) (by kernel_rfl) (by kernel_rfl)) ?_
  intro W base args ds gs before hval0 hW _ _ _
  have hval : ∀ (j : Nat) t v, Try.f11.params[j]? = some t → args[j]? = some v → Value.okWide Try.prog W .any base t v := hval0
  have hW' := hW
  obtain ⟨p, q, hA0, hV, rfl, hfz, hnd⟩ := hW
  have hA : DataW.TrodAll enc Try.prog W 0 (fun _ => true) true Try.f11.params.toList args.toList ds p := hA0
  rw [Try.params11] at hA hval
  obtain ⟨v0, v1, d0, d1, p0, p1, rfl, rfl, rfl, h0, h1⟩ := trodAll_two hA
  obtain ⟨rfl, rfl⟩ := trodVars_none hV
  obtain ⟨po, n, c, rfl, hn, hI⟩ := opened_pix (hval 0 52 v0 rfl rfl) h0
  obtain ⟨u, rfl, hu⟩ := open_u8 (hval 1 5 v1 rfl rfl)
  refine (walk po n c u W hn hI hu).mono fun e W' ⟨he, hb⟩ => ?_
  subst he
  exact ⟨_, rfl, law_post hW' rfl (by kernel_rfl) rfl (by intro t ht; rw [Try.params11] at ht; simp at ht; rcases ht with rfl | rfl <;> exact ⟨by kernel_rfl, of_decide_eq_true (by kernel_rfl)⟩) hb⟩

theorem holds : Rows.PixelMeanOrderSaid :=
  OpenClaim.holds_of_wide 11 Try.f11 rfl rfl rfl rfl rfl rfl rfl ⟨rfl, rfl, rfl, rfl, rfl⟩ rfl rfl rfl rfl rfl (by kernel_rfl) Try.func11 (by kernel_rfl)
    (of_decide_eq_true (by kernel_rfl)) (by unfold Func.isWrapper; first | (rw [if_pos (by decide +kernel)]; kernel_rfl) | (rw [if_neg (by decide +kernel)]; exact ⟨rfl, rfl⟩))
    (fun os started H enc _ => lifted os started H enc)
end Go.Proofs.Ytfclbfliebdopaa.LMeanOrder
