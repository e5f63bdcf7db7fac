/-
  ColourClips: for all colours, Clip answers in gamut, between the colour and the grey, leaves what is in gamut, and its answer. No conditions.
-/
import Derived.Test.YtgdcjpnmalnmbaaKLaw
import Derived.Test.YtgdcjpnmalnmbaaKClipM
namespace Go.Proofs.Ytgdcjpnmalnmbaa.K.KLClips
open Go.ChangeShapes Go.WideShapes Go.ChangeAt Go.RowKit


set_option maxHeartbeats 8000000 in
set_option maxRecDepth 100000 in
theorem walk (c0 c1 c2 : Int) (w : World)  : Calls Try.prog 6 #[ag c0 c1 c2] w fun e w' => e = .returned (.bool true) ∧ Below w.heap.size w w' := by
  go_enter Try.func6, Try.ntmps6
  go_upto_region 1 with fail
  have hs := (St.start w).alloc (ac c0 c1 c2)
  generalize w.alloc (ac c0 c1 c2) = w1 at hs ⊢
  generalize hb : w.heap.size = b at hs ⊢
  go_upto_region 2 with (go_at_call 14; (refine (St.call hs (sane_any _)).mono ?_); rintro e w2 ⟨rfl, h2⟩)
  clear hs
  obtain ⟨l0, l1, l2⟩ := h2.col (b := b) (x := c0) (y := c1) (z := c2) (t := 34) (by simp)
  go_upto_region 3 with fail
  have t0 := tmod_bd c0 (m := 300000) (by omega)
  have t1 := tmod_bd c1 (m := 300000) (by omega)
  have t2 := tmod_bd c2 (m := 300000) (by omega)
  generalize c0.tmod 300000 = x0 at *
  generalize c1.tmod 300000 = x1 at *
  generalize c2.tmod 300000 = x2 at *
  have h3 : St w [] w2 := h2.sub (by simp)
  have h4 := h3.alloc (ac x0 x1 x2)
  have hbl : w.heap.size ≤ w2.heap.size := h2.below.size
  clear h3 h2 l0 l1 l2
  generalize w2.alloc (ac x0 x1 x2) = w3 at h4 ⊢
  generalize w2.heap.size = f at h4 hbl ⊢
  have hbd : Bd ⟨x0, x1, x2⟩ := fun k => by unfold C3.at; split <;> (constructor <;> (simp only []; omega))
  have HM := Lib.hid (clipF_mid hbd)
  have HI := Lib.hid (clipF_in ⟨x0, x1, x2⟩)
  have HX : Hid (InG ⟨x0, x1, x2⟩ → clipF ⟨x0, x1, x2⟩ = ⟨x0, x1, x2⟩) := clipF_id
  have HC : Hid (∀ V, Calls Try.prog 24 #[ag x0 x1 x2] V fun e w' => e = .returned (clipF ⟨x0, x1, x2⟩).v ∧ Below V.heap.size V w') := fun V => clip_any x0 x1 x2 V
  obtain ⟨⟨y0, y1, y2⟩, hy⟩ : ∃ d, clipF ⟨x0, x1, x2⟩ = d := ⟨_, rfl⟩
  rw [hy] at HM HI HX HC
  have HC2 : Hid (∀ V, Calls Try.prog 24 #[ag y0 y1 y2] V fun e w' => e = .returned (ag y0 y1 y2) ∧ Below V.heap.size V w') := fun V => by
    have h := clip_any y0 y1 y2 V
    rw [clipF_id HI.out] at h; exact h
  obtain ⟨l, hl⟩ : ∃ l, grey ⟨x0, x1, x2⟩ = l := ⟨_, rfl⟩
  rw [hl] at HM
  have HM : Hid (Mid l x0 y0 ∧ Mid l x1 y1 ∧ Mid l x2 y2) := HM
  unfold grey clp at hl
  simp only at hl
  clear hy hbd
  obtain ⟨l0, l1, l2⟩ := h4.col (b := f) (x := x0) (y := x1) (z := x2) (t := 34) (by simp)
  go_upto_region 4 with (go_at_call 24; (refine (HC.out _).mono ?_); rintro e w4 ⟨rfl, hb4⟩; have h5 := h4.later hb4; clear l0 l1 l2 hb4)
  have h6 := h5.alloc (ac y0 y1 y2)
  have hfg : f < w4.heap.size := h5.lt (b := f) (o := ac x0 x1 x2) (by simp)
  clear h4 h5 HC
  generalize w4.alloc (ac y0 y1 y2) = w5 at h6 ⊢
  generalize w4.heap.size = g at h6 hfg ⊢
  have HXY : Hid (∀ V, St w [(g, ac y0 y1 y2), (f, ac x0 x1 x2)] V → CB V g y0 y1 y2 ∧ CB V f x0 x1 x2) := fun V hV => ⟨hV.col (t := 34) (by simp), hV.col (t := 34) (by simp)⟩
  obtain ⟨⟨m0, m1, m2⟩, l0, l1, l2⟩ := HXY.out _ h6
  have e1 : IntKind.i64.wrap (x0 + x1) = x0 + x1 := wr_in (by omega)
  have e2 : IntKind.i64.wrap (x0 + x1 + x2) = x0 + x1 + x2 := wr_in (by omega)
  have e3 : IntKind.i64.wrap (x0 + x1 + x2 + 1) = x0 + x1 + x2 + 1 := wr_in (by omega)
  have e4 : wrap64 (x0 + x1 + x2 + 1) = x0 + x1 + x2 + 1 := wrap_in (by omega)
  go_upto_region 5 with fail
  obtain ⟨s, hs⟩ : ∃ s, x0 + x1 + x2 + 1 = s := ⟨_, rfl⟩
  have s1 : -1000000 < s := by omega
  have s2 : s < 1000000 := by omega
  rw [hs] at hl ⊢
  clear e1 e2 e3 e4 hs t0 t1 t2
  have hq : (s.tdiv 3).natAbs ≤ s.natAbs := Int.natAbs_tdiv_le_natAbs s 3
  have e5 : IntKind.i64.wrap (s.tdiv 3) = s.tdiv 3 := wr_in (by omega)
  have e6 : wrap64 (s.tdiv 3) = s.tdiv 3 := wrap_in (by omega)
  by_cases hs0 : s < 0
  · have hm : min (0 : Int) 65535 = l := by omega
    clear hq hl e5 e6
    go_upto_region 9 with fail
    clear hm
    go_upto_region 11 with fail
    have HS := Lib.hid h6
    clear h6 m0 m1 m2 l0 l1 l2
    go_loopw [9, 8] (fun v9 v8 wr => ∃ k : Nat, ∃ q : Bool, k ≤ 3 ∧ v9 = .int .i64 k ∧ v8 = .bool q ∧ Hid (q = true → (0 < k → Gm x0) ∧ (1 < k → Gm x1) ∧ (2 < k → Gm x2)) ∧ Hid (St w [(g, ac y0 y1 y2), (f, ac x0 x1 x2)] wr)) (fun i _ _ => 3 - (intOf i).toNat)
    case atStart => exact ⟨0, true, by omega, rfl, rfl, fun _ => ⟨by omega, by omega, by omega⟩, HS.out⟩
    case round =>
      obtain ⟨k, q, hk, rfl, rfl, HQ, HT⟩ := hrel
      obtain ⟨⟨m0, m1, m2⟩, l0, l1, l2⟩ := HXY.out _ HT.out
      obtain rfl | rfl | rfl | rfl : k = 0 ∨ k = 1 ∨ k = 2 ∨ k = 3 := by omega
      · obtain ⟨a1, a2, a3, a4⟩ := HM.out.1
        have f1 : decide (y0 < 0) = false := by simp; omega
        have f2 : decide ((65535 : Int) < y0) = false := by simp; omega
        have f3 : decide (y0 < min l x0) = false := by simp; omega
        have f4 : decide (max l x0 < y0) = false := by simp; omega
        clear a1 a2 a3 a4
        go_upto_region 14 with fail
        all_goals (
          try generalize hq2 : decide (x0 ≤ 65535) = q2
          have HZ := Lib.hid HT.out
          clear HT
          go_quiet (fail)
          have HZ2 := Lib.hid (HZ.out.drewN nq)
          clear HZ m0 m1 m2 l0 l1 l2 f1 f2 f3 f4
          generalize wr.drewN nq = wz at HZ2 ⊢
          go_wp2_with fail
          go_roundw
          case rel => exact ⟨0 + 1, _, by omega, by go_num, rfl, fun h => by
            first
              | exact absurd h (by decide)
              | exact absurd h (by assumption)
              | (have h1 := HQ.out (by assumption)
                 rw [← hq2] at h
                 have h2 := of_decide_eq_true h
                 have h3 : 0 ≤ x0 := by assumption
                 unfold Gm at *
                 omega), HZ2⟩
          case measure => simp [intOf])
      · obtain ⟨a1, a2, a3, a4⟩ := HM.out.2.1
        have f1 : decide (y1 < 0) = false := by simp; omega
        have f2 : decide ((65535 : Int) < y1) = false := by simp; omega
        have f3 : decide (y1 < min l x1) = false := by simp; omega
        have f4 : decide (max l x1 < y1) = false := by simp; omega
        clear a1 a2 a3 a4
        go_upto_region 14 with fail
        all_goals (
          try generalize hq2 : decide (x1 ≤ 65535) = q2
          have HZ := Lib.hid HT.out
          clear HT
          go_quiet (fail)
          have HZ2 := Lib.hid (HZ.out.drewN nq)
          clear HZ m0 m1 m2 l0 l1 l2 f1 f2 f3 f4
          generalize wr.drewN nq = wz at HZ2 ⊢
          go_wp2_with fail
          go_roundw
          case rel => exact ⟨1 + 1, _, by omega, by go_num, rfl, fun h => by
            first
              | exact absurd h (by decide)
              | exact absurd h (by assumption)
              | (have h1 := HQ.out (by assumption)
                 rw [← hq2] at h
                 have h2 := of_decide_eq_true h
                 have h3 : 0 ≤ x1 := by assumption
                 unfold Gm at *
                 omega), HZ2⟩
          case measure => simp [intOf])
      · obtain ⟨a1, a2, a3, a4⟩ := HM.out.2.2
        have f1 : decide (y2 < 0) = false := by simp; omega
        have f2 : decide ((65535 : Int) < y2) = false := by simp; omega
        have f3 : decide (y2 < min l x2) = false := by simp; omega
        have f4 : decide (max l x2 < y2) = false := by simp; omega
        clear a1 a2 a3 a4
        go_upto_region 14 with fail
        all_goals (
          try generalize hq2 : decide (x2 ≤ 65535) = q2
          have HZ := Lib.hid HT.out
          clear HT
          go_quiet (fail)
          have HZ2 := Lib.hid (HZ.out.drewN nq)
          clear HZ m0 m1 m2 l0 l1 l2 f1 f2 f3 f4
          generalize wr.drewN nq = wz at HZ2 ⊢
          go_wp2_with fail
          go_roundw
          case rel => exact ⟨2 + 1, _, by omega, by go_num, rfl, fun h => by
            first
              | exact absurd h (by decide)
              | exact absurd h (by assumption)
              | (have h1 := HQ.out (by assumption)
                 rw [← hq2] at h
                 have h2 := of_decide_eq_true h
                 have h3 : 0 ≤ x2 := by assumption
                 unfold Gm at *
                 omega), HZ2⟩
          case measure => simp [intOf])
      · have h3 := HT.out
        clear HT m0 m1 m2 l0 l1 l2
        go_upto_region 16 with fail
        have hd := h3.drew
        have HP : Hid (∀ V, St w [(g, ac y0 y1 y2), (f, ac x0 x1 x2)] V → St w [(g, ac y0 y1 y2), (f, ac x0 x1 x2)] V ∧ CB V g y0 y1 y2 ∧ CB V f x0 x1 x2) := fun V hV => ⟨hV, HXY.out V hV⟩
        have he := eql_col y0 y1 y2 y0 y1 y2
        cases q
        · clear HX HQ
          refine wp_region_held_drew (S := fun V => St w [(g, ac y0 y1 y2), (f, ac x0 x1 x2)] V ∧ CB V g y0 y1 y2 ∧ CB V f x0 x1 x2) (by kernel_rfl) ?_ (fun hHeld => ?_)
          · (refine HP.out _ ?_; assumption)
          refine wpAnyH_take (i := 0) (oi := { dst := some 87, op := Op.move (Operand.tmp 3), type := 4, pos := "law.go:195", after := #[], guard := none }) (v := ?_) rfl (by kernel_rfl) (by kernel_rfl) (by kernel_rfl) (fun _ _ _ h => h) (Or.inl ⟨by kernel_rfl, ?_⟩) (by assumption) ?_
          rotate_left 1
          focus (intro w hSw; (try dsimp only at hSw); go_simp; (try with_reducible rfl))
          try simp only [Act.put, List.setIfInBounds_toArray, List.set_cons_zero, List.set_cons_succ]
          refine wpAnyH_take (i := 1) (oi := { dst := some 88, op := Op.move (Operand.tmp 87), type := 4, pos := "law.go:195", after := #[{ on := 0, ground := Ground.data }], guard := none }) (v := ?_) rfl (by kernel_rfl) (by kernel_rfl) (by kernel_rfl) (fun _ _ _ h => h) (Or.inl ⟨by kernel_rfl, ?_⟩) (by assumption) ?_
          rotate_left 1
          focus (intro w hSw; (try dsimp only at hSw); go_simp; (try with_reducible rfl))
          try simp only [Act.put, List.setIfInBounds_toArray, List.set_cons_zero, List.set_cons_succ]
          refine wpAnyH_take (i := 2) (oi := { dst := some 89, op := Op.move (Operand.tmp 8), type := 4, pos := "law.go:195", after := #[{ on := 1, ground := Ground.guard }], guard := some (1, true) }) (v := ?_) rfl (by kernel_rfl) (by kernel_rfl) (by kernel_rfl) (fun _ _ _ h => h) (Or.inl ⟨by kernel_rfl, ?_⟩) (by assumption) ?_
          rotate_left 1
          focus (intro w hSw; (try dsimp only at hSw); go_simp; (try with_reducible rfl))
          try simp only [Act.put, List.setIfInBounds_toArray, List.set_cons_zero, List.set_cons_succ]
          refine wpAnyH_take (i := 3) (oi := { dst := some 90, op := Op.unOp UnOp.not 4 (Operand.tmp 89), type := 4, pos := "law.go:195", after := #[{ on := 2, ground := Ground.data }, { on := 1, ground := Ground.guard }], guard := some (1, true) }) (v := ?_) rfl (by kernel_rfl) (by kernel_rfl) (by kernel_rfl) (fun _ _ _ h => h) (Or.inl ⟨by kernel_rfl, ?_⟩) (by assumption) ?_
          rotate_left 1
          focus (intro w hSw; (try dsimp only at hSw); go_simp; (try with_reducible rfl))
          try simp only [Act.put, List.setIfInBounds_toArray, List.set_cons_zero, List.set_cons_succ]
          refine wpAnyH_take (i := 4) (oi := { dst := some 91, op := Op.move (Operand.tmp 90), type := 4, pos := "law.go:195", after := #[{ on := 3, ground := Ground.data }, { on := 1, ground := Ground.chain }, { on := 1, ground := Ground.guard }], guard := some (1, true) }) (v := ?_) rfl (by kernel_rfl) (by kernel_rfl) (by kernel_rfl) (fun _ _ _ h => h) (Or.inl ⟨by kernel_rfl, ?_⟩) (by assumption) ?_
          rotate_left 1
          focus (intro w hSw; (try dsimp only at hSw); go_simp; (try with_reducible rfl))
          try simp only [Act.put, List.setIfInBounds_toArray, List.set_cons_zero, List.set_cons_succ]
          refine wpAnyH_take (i := 5) (oi := { dst := some 92, op := Op.load 34 (Operand.tmp 5), type := 34, pos := "law.go:195", after := #[{ on := 4, ground := Ground.guard }], guard := some (4, false) }) rfl (by kernel_rfl) (by kernel_rfl) (by kernel_rfl) (fun _ _ _ h => h) (Or.inr ⟨by kernel_rfl, rfl⟩) (by assumption) ?_
          try simp only [Act.put, List.setIfInBounds_toArray, List.set_cons_zero, List.set_cons_succ]
          refine wpAnyH_take (i := 6) (oi := { dst := some 93, op := Op.load 34 (Operand.tmp 4), type := 34, pos := "law.go:195", after := #[{ on := 4, ground := Ground.guard }], guard := some (4, false) }) rfl (by kernel_rfl) (by kernel_rfl) (by kernel_rfl) (fun _ _ _ h => h) (Or.inr ⟨by kernel_rfl, rfl⟩) (by assumption) ?_
          try simp only [Act.put, List.setIfInBounds_toArray, List.set_cons_zero, List.set_cons_succ]
          refine wpAnyH_take (i := 7) (oi := { dst := some 94, op := Op.binOp BinOp.eql 34 (Operand.tmp 92) (Operand.tmp 93) 34, type := 4, pos := "law.go:195", after := #[{ on := 5, ground := Ground.data }, { on := 6, ground := Ground.data }, { on := 4, ground := Ground.guard }], guard := some (4, false) }) rfl (by kernel_rfl) (by kernel_rfl) (by kernel_rfl) (fun _ _ _ h => h) (Or.inr ⟨by kernel_rfl, rfl⟩) (by assumption) ?_
          try simp only [Act.put, List.setIfInBounds_toArray, List.set_cons_zero, List.set_cons_succ]
          refine wpAnyH_take (i := 8) (oi := { dst := some 95, op := Op.pick (Operand.tmp 91) (Operand.const (Value.bool true)) (Operand.tmp 94), type := 4, pos := "law.go:195", after := #[{ on := 4, ground := Ground.data }, { on := 7, ground := Ground.data }, { on := 1, ground := Ground.guard }], guard := some (1, true) }) (v := ?_) rfl (by kernel_rfl) (by kernel_rfl) (by kernel_rfl) (fun _ _ _ h => h) (Or.inl ⟨by kernel_rfl, ?_⟩) (by assumption) ?_
          rotate_left 1
          focus (intro w hSw; (try dsimp only at hSw); go_simp; (try with_reducible rfl))
          try simp only [Act.put, List.setIfInBounds_toArray, List.set_cons_zero, List.set_cons_succ]
          refine wpAnyH_take (i := 9) (oi := { dst := some 96, op := Op.pick (Operand.tmp 88) (Operand.tmp 95) (Operand.const (Value.bool false)), type := 4, pos := "law.go:195", after := #[{ on := 1, ground := Ground.data }, { on := 8, ground := Ground.data }], guard := none }) (v := ?_) rfl (by kernel_rfl) (by kernel_rfl) (by kernel_rfl) (fun _ _ _ h => h) (Or.inl ⟨by kernel_rfl, ?_⟩) (by assumption) ?_
          rotate_left 1
          focus (intro w hSw; (try dsimp only at hSw); go_simp; (try with_reducible rfl))
          try simp only [Act.put, List.setIfInBounds_toArray, List.set_cons_zero, List.set_cons_succ]
          refine wpAnyH_take (i := 10) (oi := { dst := some 97, op := Op.move (Operand.tmp 96), type := 4, pos := "law.go:195", after := #[{ on := 9, ground := Ground.data }, { on := 4, ground := Ground.chain }], guard := none }) (v := ?_) rfl (by kernel_rfl) (by kernel_rfl) (by kernel_rfl) (fun _ _ _ h => h) (Or.inl ⟨by kernel_rfl, ?_⟩) (by assumption) ?_
          rotate_left 1
          focus (intro w hSw; (try dsimp only at hSw); go_simp; (try with_reducible rfl))
          try simp only [Act.put, List.setIfInBounds_toArray, List.set_cons_zero, List.set_cons_succ]
          refine wpAnyH_take (i := 11) (oi := { dst := some 98, op := Op.load 34 (Operand.tmp 5), type := 34, pos := "law.go:195", after := #[{ on := 10, ground := Ground.guard }], guard := some (10, true) }) (v := ?_) rfl (by kernel_rfl) (by kernel_rfl) (by kernel_rfl) (fun _ _ _ h => h) (Or.inl ⟨by kernel_rfl, ?_⟩) (by assumption) ?_
          rotate_left 1
          focus (intro w hSw; (try dsimp only at hSw); go_simp; (try with_reducible rfl))
          try simp only [Act.put, List.setIfInBounds_toArray, List.set_cons_zero, List.set_cons_succ]
          refine wpAnyH_take (i := 13) (oi := { dst := some 100, op := Op.load 34 (Operand.tmp 5), type := 34, pos := "law.go:195", after := #[{ on := 10, ground := Ground.guard }], guard := some (10, true) }) (v := ?_) rfl (by kernel_rfl) (by kernel_rfl) (by kernel_rfl) (fun _ _ _ h => h) (Or.inl ⟨by kernel_rfl, ?_⟩) (by assumption) ?_
          rotate_left 1
          focus (intro w hSw; (try dsimp only at hSw); go_simp; (try with_reducible rfl))
          try simp only [Act.put, List.setIfInBounds_toArray, List.set_cons_zero, List.set_cons_succ]
          refine wpAnyH_ready (rs := [12]) (by kernel_rfl) (by simp) (AllReadyH.cons (o := { dst := some 99, op := Op.call { callee := Callee.value (Operand.func 24), args := #[Operand.tmp 98], argTypes := #[34] }, type := 34, pos := "law.go:195", after := #[{ on := 11, ground := Ground.data }, { on := 10, ground := Ground.chain }, { on := 10, ground := Ground.guard }], guard := some (10, true) }) rfl (fun K hK => ?_) AllReadyH.nil)
          (go_simp; (go_at_call 24; (refine (St.call (W := w) (L := [(g, ac y0 y1 y2), (f, ac x0 x1 x2)]) ?_ (HC2.out _)).mono ?_); (focus assumption); rintro e w8 ⟨rfl, h8⟩))
          refine hK.out _ _ ?_ (fun hHeld => ?_)
          · (refine HP.out _ ?_; assumption)
          clear hK K
          try simp only [Act.put, List.setIfInBounds_toArray, List.set_cons_zero, List.set_cons_succ]
          refine wpAnyH_take (i := 14) (oi := { dst := some 101, op := Op.binOp BinOp.eql 34 (Operand.tmp 99) (Operand.tmp 100) 34, type := 4, pos := "law.go:195", after := #[{ on := 12, ground := Ground.data }, { on := 13, ground := Ground.data }, { on := 10, ground := Ground.guard }], guard := some (10, true) }) (v := ?_) rfl (by kernel_rfl) (by kernel_rfl) (by kernel_rfl) (fun _ _ _ h => h) (Or.inl ⟨by kernel_rfl, ?_⟩) (by assumption) ?_
          rotate_left 1
          focus (intro w hSw; (try dsimp only at hSw); go_simp; (try with_reducible rfl))
          try simp only [Act.put, List.setIfInBounds_toArray, List.set_cons_zero, List.set_cons_succ]
          refine wpAnyH_take (i := 15) (oi := { dst := some 102, op := Op.pick (Operand.tmp 97) (Operand.tmp 101) (Operand.const (Value.bool false)), type := 4, pos := "law.go:195", after := #[{ on := 10, ground := Ground.data }, { on := 14, ground := Ground.data }], guard := none }) (v := ?_) rfl (by kernel_rfl) (by kernel_rfl) (by kernel_rfl) (fun _ _ _ h => h) (Or.inl ⟨by kernel_rfl, ?_⟩) (by assumption) ?_
          rotate_left 1
          focus (intro w hSw; (try dsimp only at hSw); go_simp; (try with_reducible rfl))
          try simp only [Act.put, List.setIfInBounds_toArray, List.set_cons_zero, List.set_cons_succ]
          refine wpAnyH_take (i := 16) (oi := { dst := some 2, op := Op.assign (Operand.tmp 102), type := 4, pos := "law.go:195", after := #[{ on := 15, ground := Ground.data }, { on := 12, ground := Ground.chain }, { on := 0, ground := Ground.phase }, { on := 1, ground := Ground.phase }, { on := 2, ground := Ground.phase }, { on := 3, ground := Ground.phase }, { on := 4, ground := Ground.phase }, { on := 5, ground := Ground.phase }, { on := 6, ground := Ground.phase }, { on := 7, ground := Ground.phase }, { on := 8, ground := Ground.phase }, { on := 9, ground := Ground.phase }, { on := 10, ground := Ground.phase }, { on := 11, ground := Ground.phase }, { on := 12, ground := Ground.phase }, { on := 13, ground := Ground.phase }, { on := 14, ground := Ground.phase }, { on := 15, ground := Ground.phase }], guard := none }) (v := ?_) rfl (by kernel_rfl) (by kernel_rfl) (by kernel_rfl) (fun _ _ _ h => h) (Or.inl ⟨by kernel_rfl, ?_⟩) (by assumption) ?_
          rotate_left 1
          focus (intro w hSw; (try dsimp only at hSw); go_simp; (try with_reducible rfl))
          try simp only [Act.put, List.setIfInBounds_toArray, List.set_cons_zero, List.set_cons_succ]
          refine wpAnyH_done (by kernel_rfl) ?_ _
          rename_i hHeld; obtain ⟨hX, _⟩ := hHeld
          go_wp2_with fail
          go_ret
          exact ⟨rfl, hX.below⟩
        · have hxy := HX.out ⟨(HQ.out rfl).1 (by omega), (HQ.out rfl).2.1 (by omega), (HQ.out rfl).2.2 (by omega)⟩
          injection hxy with g1 g2 g3
          subst g1 g2 g3
          clear HX HQ
          (first | (go_region_held3 (fun V => St w [(g, ac y0 y1 y2), (f, ac y0 y1 y2)] V ∧ CB V g y0 y1 y2 ∧ CB V f y0 y1 y2) ((refine HP.out _ ?_; assumption)) ((go_at_call 24; (refine (St.call (W := w) (L := [(g, ac y0 y1 y2), (f, ac y0 y1 y2)]) ?_ (HC2.out _)).mono ?_); (focus assumption); rintro e w8 ⟨rfl, h8⟩))) | fail)
          rename_i hHeld; obtain ⟨hX, _⟩ := hHeld
          go_wp2_with fail
          go_ret
          exact ⟨rfl, hX.below⟩
  · have hm : min (s.tdiv 3) 65535 = l := by rw [Int.tdiv_eq_ediv_of_nonneg (by omega)]; omega
    clear hq hl
    go_upto_region 9 with fail
    clear hm e5 e6
    go_upto_region 11 with fail
    have HS := Lib.hid h6
    clear h6 m0 m1 m2 l0 l1 l2
    go_loopw [9, 8] (fun v9 v8 wr => ∃ k : Nat, ∃ q : Bool, k ≤ 3 ∧ v9 = .int .i64 k ∧ v8 = .bool q ∧ Hid (q = true → (0 < k → Gm x0) ∧ (1 < k → Gm x1) ∧ (2 < k → Gm x2)) ∧ Hid (St w [(g, ac y0 y1 y2), (f, ac x0 x1 x2)] wr)) (fun i _ _ => 3 - (intOf i).toNat)
    case atStart => exact ⟨0, true, by omega, rfl, rfl, fun _ => ⟨by omega, by omega, by omega⟩, HS.out⟩
    case round =>
      obtain ⟨k, q, hk, rfl, rfl, HQ, HT⟩ := hrel
      obtain ⟨⟨m0, m1, m2⟩, l0, l1, l2⟩ := HXY.out _ HT.out
      obtain rfl | rfl | rfl | rfl : k = 0 ∨ k = 1 ∨ k = 2 ∨ k = 3 := by omega
      · obtain ⟨a1, a2, a3, a4⟩ := HM.out.1
        have f1 : decide (y0 < 0) = false := by simp; omega
        have f2 : decide ((65535 : Int) < y0) = false := by simp; omega
        have f3 : decide (y0 < min l x0) = false := by simp; omega
        have f4 : decide (max l x0 < y0) = false := by simp; omega
        clear a1 a2 a3 a4
        go_upto_region 14 with fail
        all_goals (
          try generalize hq2 : decide (x0 ≤ 65535) = q2
          have HZ := Lib.hid HT.out
          clear HT
          go_quiet (fail)
          have HZ2 := Lib.hid (HZ.out.drewN nq)
          clear HZ m0 m1 m2 l0 l1 l2 f1 f2 f3 f4
          generalize wr.drewN nq = wz at HZ2 ⊢
          go_wp2_with fail
          go_roundw
          case rel => exact ⟨0 + 1, _, by omega, by go_num, rfl, fun h => by
            first
              | exact absurd h (by decide)
              | exact absurd h (by assumption)
              | (have h1 := HQ.out (by assumption)
                 rw [← hq2] at h
                 have h2 := of_decide_eq_true h
                 have h3 : 0 ≤ x0 := by assumption
                 unfold Gm at *
                 omega), HZ2⟩
          case measure => simp [intOf])
      · obtain ⟨a1, a2, a3, a4⟩ := HM.out.2.1
        have f1 : decide (y1 < 0) = false := by simp; omega
        have f2 : decide ((65535 : Int) < y1) = false := by simp; omega
        have f3 : decide (y1 < min l x1) = false := by simp; omega
        have f4 : decide (max l x1 < y1) = false := by simp; omega
        clear a1 a2 a3 a4
        go_upto_region 14 with fail
        all_goals (
          try generalize hq2 : decide (x1 ≤ 65535) = q2
          have HZ := Lib.hid HT.out
          clear HT
          go_quiet (fail)
          have HZ2 := Lib.hid (HZ.out.drewN nq)
          clear HZ m0 m1 m2 l0 l1 l2 f1 f2 f3 f4
          generalize wr.drewN nq = wz at HZ2 ⊢
          go_wp2_with fail
          go_roundw
          case rel => exact ⟨1 + 1, _, by omega, by go_num, rfl, fun h => by
            first
              | exact absurd h (by decide)
              | exact absurd h (by assumption)
              | (have h1 := HQ.out (by assumption)
                 rw [← hq2] at h
                 have h2 := of_decide_eq_true h
                 have h3 : 0 ≤ x1 := by assumption
                 unfold Gm at *
                 omega), HZ2⟩
          case measure => simp [intOf])
      · obtain ⟨a1, a2, a3, a4⟩ := HM.out.2.2
        have f1 : decide (y2 < 0) = false := by simp; omega
        have f2 : decide ((65535 : Int) < y2) = false := by simp; omega
        have f3 : decide (y2 < min l x2) = false := by simp; omega
        have f4 : decide (max l x2 < y2) = false := by simp; omega
        clear a1 a2 a3 a4
        go_upto_region 14 with fail
        all_goals (
          try generalize hq2 : decide (x2 ≤ 65535) = q2
          have HZ := Lib.hid HT.out
          clear HT
          go_quiet (fail)
          have HZ2 := Lib.hid (HZ.out.drewN nq)
          clear HZ m0 m1 m2 l0 l1 l2 f1 f2 f3 f4
          generalize wr.drewN nq = wz at HZ2 ⊢
          go_wp2_with fail
          go_roundw
          case rel => exact ⟨2 + 1, _, by omega, by go_num, rfl, fun h => by
            first
              | exact absurd h (by decide)
              | exact absurd h (by assumption)
              | (have h1 := HQ.out (by assumption)
                 rw [← hq2] at h
                 have h2 := of_decide_eq_true h
                 have h3 : 0 ≤ x2 := by assumption
                 unfold Gm at *
                 omega), HZ2⟩
          case measure => simp [intOf])
      · have h3 := HT.out
        clear HT m0 m1 m2 l0 l1 l2
        go_upto_region 16 with fail
        have hd := h3.drew
        have HP : Hid (∀ V, St w [(g, ac y0 y1 y2), (f, ac x0 x1 x2)] V → St w [(g, ac y0 y1 y2), (f, ac x0 x1 x2)] V ∧ CB V g y0 y1 y2 ∧ CB V f x0 x1 x2) := fun V hV => ⟨hV, HXY.out V hV⟩
        have he := eql_col y0 y1 y2 y0 y1 y2
        cases q
        · clear HX HQ
          refine wp_region_held_drew (S := fun V => St w [(g, ac y0 y1 y2), (f, ac x0 x1 x2)] V ∧ CB V g y0 y1 y2 ∧ CB V f x0 x1 x2) (by kernel_rfl) ?_ (fun hHeld => ?_)
          · (refine HP.out _ ?_; assumption)
          refine wpAnyH_take (i := 0) (oi := { dst := some 87, op := Op.move (Operand.tmp 3), type := 4, pos := "law.go:195", after := #[], guard := none }) (v := ?_) rfl (by kernel_rfl) (by kernel_rfl) (by kernel_rfl) (fun _ _ _ h => h) (Or.inl ⟨by kernel_rfl, ?_⟩) (by assumption) ?_
          rotate_left 1
          focus (intro w hSw; (try dsimp only at hSw); go_simp; (try with_reducible rfl))
          try simp only [Act.put, List.setIfInBounds_toArray, List.set_cons_zero, List.set_cons_succ]
          refine wpAnyH_take (i := 1) (oi := { dst := some 88, op := Op.move (Operand.tmp 87), type := 4, pos := "law.go:195", after := #[{ on := 0, ground := Ground.data }], guard := none }) (v := ?_) rfl (by kernel_rfl) (by kernel_rfl) (by kernel_rfl) (fun _ _ _ h => h) (Or.inl ⟨by kernel_rfl, ?_⟩) (by assumption) ?_
          rotate_left 1
          focus (intro w hSw; (try dsimp only at hSw); go_simp; (try with_reducible rfl))
          try simp only [Act.put, List.setIfInBounds_toArray, List.set_cons_zero, List.set_cons_succ]
          refine wpAnyH_take (i := 2) (oi := { dst := some 89, op := Op.move (Operand.tmp 8), type := 4, pos := "law.go:195", after := #[{ on := 1, ground := Ground.guard }], guard := some (1, true) }) (v := ?_) rfl (by kernel_rfl) (by kernel_rfl) (by kernel_rfl) (fun _ _ _ h => h) (Or.inl ⟨by kernel_rfl, ?_⟩) (by assumption) ?_
          rotate_left 1
          focus (intro w hSw; (try dsimp only at hSw); go_simp; (try with_reducible rfl))
          try simp only [Act.put, List.setIfInBounds_toArray, List.set_cons_zero, List.set_cons_succ]
          refine wpAnyH_take (i := 3) (oi := { dst := some 90, op := Op.unOp UnOp.not 4 (Operand.tmp 89), type := 4, pos := "law.go:195", after := #[{ on := 2, ground := Ground.data }, { on := 1, ground := Ground.guard }], guard := some (1, true) }) (v := ?_) rfl (by kernel_rfl) (by kernel_rfl) (by kernel_rfl) (fun _ _ _ h => h) (Or.inl ⟨by kernel_rfl, ?_⟩) (by assumption) ?_
          rotate_left 1
          focus (intro w hSw; (try dsimp only at hSw); go_simp; (try with_reducible rfl))
          try simp only [Act.put, List.setIfInBounds_toArray, List.set_cons_zero, List.set_cons_succ]
          refine wpAnyH_take (i := 4) (oi := { dst := some 91, op := Op.move (Operand.tmp 90), type := 4, pos := "law.go:195", after := #[{ on := 3, ground := Ground.data }, { on := 1, ground := Ground.chain }, { on := 1, ground := Ground.guard }], guard := some (1, true) }) (v := ?_) rfl (by kernel_rfl) (by kernel_rfl) (by kernel_rfl) (fun _ _ _ h => h) (Or.inl ⟨by kernel_rfl, ?_⟩) (by assumption) ?_
          rotate_left 1
          focus (intro w hSw; (try dsimp only at hSw); go_simp; (try with_reducible rfl))
          try simp only [Act.put, List.setIfInBounds_toArray, List.set_cons_zero, List.set_cons_succ]
          refine wpAnyH_take (i := 5) (oi := { dst := some 92, op := Op.load 34 (Operand.tmp 5), type := 34, pos := "law.go:195", after := #[{ on := 4, ground := Ground.guard }], guard := some (4, false) }) rfl (by kernel_rfl) (by kernel_rfl) (by kernel_rfl) (fun _ _ _ h => h) (Or.inr ⟨by kernel_rfl, rfl⟩) (by assumption) ?_
          try simp only [Act.put, List.setIfInBounds_toArray, List.set_cons_zero, List.set_cons_succ]
          refine wpAnyH_take (i := 6) (oi := { dst := some 93, op := Op.load 34 (Operand.tmp 4), type := 34, pos := "law.go:195", after := #[{ on := 4, ground := Ground.guard }], guard := some (4, false) }) rfl (by kernel_rfl) (by kernel_rfl) (by kernel_rfl) (fun _ _ _ h => h) (Or.inr ⟨by kernel_rfl, rfl⟩) (by assumption) ?_
          try simp only [Act.put, List.setIfInBounds_toArray, List.set_cons_zero, List.set_cons_succ]
          refine wpAnyH_take (i := 7) (oi := { dst := some 94, op := Op.binOp BinOp.eql 34 (Operand.tmp 92) (Operand.tmp 93) 34, type := 4, pos := "law.go:195", after := #[{ on := 5, ground := Ground.data }, { on := 6, ground := Ground.data }, { on := 4, ground := Ground.guard }], guard := some (4, false) }) rfl (by kernel_rfl) (by kernel_rfl) (by kernel_rfl) (fun _ _ _ h => h) (Or.inr ⟨by kernel_rfl, rfl⟩) (by assumption) ?_
          try simp only [Act.put, List.setIfInBounds_toArray, List.set_cons_zero, List.set_cons_succ]
          refine wpAnyH_take (i := 8) (oi := { dst := some 95, op := Op.pick (Operand.tmp 91) (Operand.const (Value.bool true)) (Operand.tmp 94), type := 4, pos := "law.go:195", after := #[{ on := 4, ground := Ground.data }, { on := 7, ground := Ground.data }, { on := 1, ground := Ground.guard }], guard := some (1, true) }) (v := ?_) rfl (by kernel_rfl) (by kernel_rfl) (by kernel_rfl) (fun _ _ _ h => h) (Or.inl ⟨by kernel_rfl, ?_⟩) (by assumption) ?_
          rotate_left 1
          focus (intro w hSw; (try dsimp only at hSw); go_simp; (try with_reducible rfl))
          try simp only [Act.put, List.setIfInBounds_toArray, List.set_cons_zero, List.set_cons_succ]
          refine wpAnyH_take (i := 9) (oi := { dst := some 96, op := Op.pick (Operand.tmp 88) (Operand.tmp 95) (Operand.const (Value.bool false)), type := 4, pos := "law.go:195", after := #[{ on := 1, ground := Ground.data }, { on := 8, ground := Ground.data }], guard := none }) (v := ?_) rfl (by kernel_rfl) (by kernel_rfl) (by kernel_rfl) (fun _ _ _ h => h) (Or.inl ⟨by kernel_rfl, ?_⟩) (by assumption) ?_
          rotate_left 1
          focus (intro w hSw; (try dsimp only at hSw); go_simp; (try with_reducible rfl))
          try simp only [Act.put, List.setIfInBounds_toArray, List.set_cons_zero, List.set_cons_succ]
          refine wpAnyH_take (i := 10) (oi := { dst := some 97, op := Op.move (Operand.tmp 96), type := 4, pos := "law.go:195", after := #[{ on := 9, ground := Ground.data }, { on := 4, ground := Ground.chain }], guard := none }) (v := ?_) rfl (by kernel_rfl) (by kernel_rfl) (by kernel_rfl) (fun _ _ _ h => h) (Or.inl ⟨by kernel_rfl, ?_⟩) (by assumption) ?_
          rotate_left 1
          focus (intro w hSw; (try dsimp only at hSw); go_simp; (try with_reducible rfl))
          try simp only [Act.put, List.setIfInBounds_toArray, List.set_cons_zero, List.set_cons_succ]
          refine wpAnyH_take (i := 11) (oi := { dst := some 98, op := Op.load 34 (Operand.tmp 5), type := 34, pos := "law.go:195", after := #[{ on := 10, ground := Ground.guard }], guard := some (10, true) }) (v := ?_) rfl (by kernel_rfl) (by kernel_rfl) (by kernel_rfl) (fun _ _ _ h => h) (Or.inl ⟨by kernel_rfl, ?_⟩) (by assumption) ?_
          rotate_left 1
          focus (intro w hSw; (try dsimp only at hSw); go_simp; (try with_reducible rfl))
          try simp only [Act.put, List.setIfInBounds_toArray, List.set_cons_zero, List.set_cons_succ]
          refine wpAnyH_take (i := 13) (oi := { dst := some 100, op := Op.load 34 (Operand.tmp 5), type := 34, pos := "law.go:195", after := #[{ on := 10, ground := Ground.guard }], guard := some (10, true) }) (v := ?_) rfl (by kernel_rfl) (by kernel_rfl) (by kernel_rfl) (fun _ _ _ h => h) (Or.inl ⟨by kernel_rfl, ?_⟩) (by assumption) ?_
          rotate_left 1
          focus (intro w hSw; (try dsimp only at hSw); go_simp; (try with_reducible rfl))
          try simp only [Act.put, List.setIfInBounds_toArray, List.set_cons_zero, List.set_cons_succ]
          refine wpAnyH_ready (rs := [12]) (by kernel_rfl) (by simp) (AllReadyH.cons (o := { dst := some 99, op := Op.call { callee := Callee.value (Operand.func 24), args := #[Operand.tmp 98], argTypes := #[34] }, type := 34, pos := "law.go:195", after := #[{ on := 11, ground := Ground.data }, { on := 10, ground := Ground.chain }, { on := 10, ground := Ground.guard }], guard := some (10, true) }) rfl (fun K hK => ?_) AllReadyH.nil)
          (go_simp; (go_at_call 24; (refine (St.call (W := w) (L := [(g, ac y0 y1 y2), (f, ac x0 x1 x2)]) ?_ (HC2.out _)).mono ?_); (focus assumption); rintro e w8 ⟨rfl, h8⟩))
          refine hK.out _ _ ?_ (fun hHeld => ?_)
          · (refine HP.out _ ?_; assumption)
          clear hK K
          try simp only [Act.put, List.setIfInBounds_toArray, List.set_cons_zero, List.set_cons_succ]
          refine wpAnyH_take (i := 14) (oi := { dst := some 101, op := Op.binOp BinOp.eql 34 (Operand.tmp 99) (Operand.tmp 100) 34, type := 4, pos := "law.go:195", after := #[{ on := 12, ground := Ground.data }, { on := 13, ground := Ground.data }, { on := 10, ground := Ground.guard }], guard := some (10, true) }) (v := ?_) rfl (by kernel_rfl) (by kernel_rfl) (by kernel_rfl) (fun _ _ _ h => h) (Or.inl ⟨by kernel_rfl, ?_⟩) (by assumption) ?_
          rotate_left 1
          focus (intro w hSw; (try dsimp only at hSw); go_simp; (try with_reducible rfl))
          try simp only [Act.put, List.setIfInBounds_toArray, List.set_cons_zero, List.set_cons_succ]
          refine wpAnyH_take (i := 15) (oi := { dst := some 102, op := Op.pick (Operand.tmp 97) (Operand.tmp 101) (Operand.const (Value.bool false)), type := 4, pos := "law.go:195", after := #[{ on := 10, ground := Ground.data }, { on := 14, ground := Ground.data }], guard := none }) (v := ?_) rfl (by kernel_rfl) (by kernel_rfl) (by kernel_rfl) (fun _ _ _ h => h) (Or.inl ⟨by kernel_rfl, ?_⟩) (by assumption) ?_
          rotate_left 1
          focus (intro w hSw; (try dsimp only at hSw); go_simp; (try with_reducible rfl))
          try simp only [Act.put, List.setIfInBounds_toArray, List.set_cons_zero, List.set_cons_succ]
          refine wpAnyH_take (i := 16) (oi := { dst := some 2, op := Op.assign (Operand.tmp 102), type := 4, pos := "law.go:195", after := #[{ on := 15, ground := Ground.data }, { on := 12, ground := Ground.chain }, { on := 0, ground := Ground.phase }, { on := 1, ground := Ground.phase }, { on := 2, ground := Ground.phase }, { on := 3, ground := Ground.phase }, { on := 4, ground := Ground.phase }, { on := 5, ground := Ground.phase }, { on := 6, ground := Ground.phase }, { on := 7, ground := Ground.phase }, { on := 8, ground := Ground.phase }, { on := 9, ground := Ground.phase }, { on := 10, ground := Ground.phase }, { on := 11, ground := Ground.phase }, { on := 12, ground := Ground.phase }, { on := 13, ground := Ground.phase }, { on := 14, ground := Ground.phase }, { on := 15, ground := Ground.phase }], guard := none }) (v := ?_) rfl (by kernel_rfl) (by kernel_rfl) (by kernel_rfl) (fun _ _ _ h => h) (Or.inl ⟨by kernel_rfl, ?_⟩) (by assumption) ?_
          rotate_left 1
          focus (intro w hSw; (try dsimp only at hSw); go_simp; (try with_reducible rfl))
          try simp only [Act.put, List.setIfInBounds_toArray, List.set_cons_zero, List.set_cons_succ]
          refine wpAnyH_done (by kernel_rfl) ?_ _
          rename_i hHeld; obtain ⟨hX, _⟩ := hHeld
          go_wp2_with fail
          go_ret
          exact ⟨rfl, hX.below⟩
        · have hxy := HX.out ⟨(HQ.out rfl).1 (by omega), (HQ.out rfl).2.1 (by omega), (HQ.out rfl).2.2 (by omega)⟩
          injection hxy with g1 g2 g3
          subst g1 g2 g3
          clear HX HQ
          (first | (go_region_held3 (fun V => St w [(g, ac y0 y1 y2), (f, ac y0 y1 y2)] V ∧ CB V g y0 y1 y2 ∧ CB V f y0 y1 y2) ((refine HP.out _ ?_; assumption)) ((go_at_call 24; (refine (St.call (W := w) (L := [(g, ac y0 y1 y2), (f, ac y0 y1 y2)]) ?_ (HC2.out _)).mono ?_); (focus assumption); rintro e w8 ⟨rfl, h8⟩))) | fail)
          rename_i hHeld; obtain ⟨hX, _⟩ := hHeld
          go_wp2_with fail
          go_ret
          exact ⟨rfl, hX.below⟩

set_option maxRecDepth 100000 in
theorem lifted (os : Os) (started : os.Started) (H : Type) (enc : TypeId × Value → H) :
    ReturnsInHanded {} Try.checked os 6 .any (Rows.colourClipsSpec.pre6 enc Try.prog Try.f6 Rows.colourClipsRow.domain false) (Rows.colourClipsSpec.post enc Try.prog Try.f6 false true false false) := by
  refine returnsInHanded_of_change_sized (C := Try.checked) own started (by kernel_rfl) Try.func6
    (ChangeSpec.witness6 (enc := enc) (C := Try.checked) false ⟨#[], #[ag 0 0 0], []⟩ 8 (by kernel_rfl) (by kernel_rfl) (by kernel_rfl) (by kernel_rfl)) ?_
  intro W base args ds gs before hval0 hW _ _ _
  have hval : ∀ (j : Nat) t v, Try.f6.params[j]? = some t → args[j]? = some v → Value.okWide Try.prog W .any base t v := hval0
  have hW' := hW
  obtain ⟨p, q, hA0, hV, rfl, hfz, hnd⟩ := hW
  have hA : DataW.TrodAll enc Try.prog W 0 (fun _ => true) true Try.f6.params.toList args.toList ds p := hA0
  rw [Try.params6] at hA hval
  obtain ⟨v0, d0, rfl, rfl, h0⟩ := trodAll_one hA
  obtain ⟨rfl, rfl⟩ := trodVars_none hV
  obtain ⟨c0, c1, c2, rfl⟩ := agg_col (hval 0 34 v0 rfl rfl)
  refine (walk c0 c1 c2 W).mono fun e W' ⟨he, hb⟩ => ?_
  subst he
  exact ⟨_, rfl, law_post hW' rfl (by kernel_rfl) rfl (by intro t ht; rw [Try.params6] at ht; simp at ht; subst ht; exact ⟨by kernel_rfl, of_decide_eq_true (by kernel_rfl)⟩) hb⟩

theorem holds : Rows.ColourClipsSaid :=
  OpenClaim.holds_of_wide 6 Try.f6 rfl rfl rfl rfl rfl rfl rfl ⟨rfl, rfl, rfl, rfl, rfl⟩ rfl rfl rfl rfl rfl (by kernel_rfl) Try.func6 (by kernel_rfl)
    (of_decide_eq_true (by kernel_rfl)) (by unfold Func.isWrapper; first | (rw [if_pos (by decide +kernel)]; kernel_rfl) | (rw [if_neg (by decide +kernel)]; exact ⟨rfl, rfl⟩))
    (fun os started H enc _ => lifted os started H enc)
end Go.Proofs.Ytgdcjpnmalnmbaa.K.KLClips
