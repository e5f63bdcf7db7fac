/-
  convert: a colour along a valid chain.
-/
import Derived.Test.YtcmplgiilcfncaaKChain
import Derived.Laws.CopyOwn
import Derived.Deep.MidRow
namespace Go.Proofs.Ytcmplgiilcfncaa.K
open Go.RowKit
variable {W w w' : World} {L : List (Nat × Obj)}

theorem Cm.one {v : Value} {c : List Int} (h : Cm w v c) : v.oneCell' = true := by
  obtain ⟨po, cap, rfl, _⟩ := h
  rfl
theorem Rep.one {s : Sp} {p : Ps} (h : Rep w s p) : s.l.toArray.all (·.oneCell') = true := by
  have h0 := Cm.one h.a
  have h1 := Cm.one h.b
  have h2 := Cm.one h.c
  unfold Sp.l
  rw [List.all_toArray, List.all_append, List.all_append, List.all_cons, List.all_cons, List.all_cons, h0, h1, h2]
  rfl
theorem run_spAt {b off : Nat} {s : Sp} (h : Has w b off s.l) : (Instr.loadAt 46 (.pointer (some ⟨b, off, none⟩))).run Try.prog w = .ok s.v w := by
  simp only [Instr.loadAt, Instr.sureAddr, Sem.run_bind, Sem.run_pure, Result.andThen_ok, run_sp h]
/-- the colour behind k steps of a chain -/
def cvk (ps : List Ps) (c : C3) : Nat → C3
  | 0 => c
  | k + 1 => fromF (psn ps (k + 1)) (toF (psn ps k) (cvk ps c k))
def cnv (ps : List Ps) (c : C3) : C3 := cvk ps c (ps.length - 1)
set_option maxRecDepth 100000 in
set_option maxHeartbeats 8000000 in
theorem conv_any (ps : List Ps) (v : Value) (c0 c1 c2 : Int) (w : World) (hc : Chn w v ps) (h0 : 0 < ps.length) (hv : AllVd ps) : Calls Try.prog 58 #[v, ag c0 c1 c2] w fun e w' => e = .returned (cnv ps ⟨c0, c1, c2⟩).v ∧ Below w.heap.size w w' := by
  obtain ⟨po, cap, rfl, h1, h2, h3⟩ := hc
  obtain ⟨n, hn⟩ : ∃ n, ps.length = n + 1 := ⟨ps.length - 1, by omega⟩
  have HE : Hid (cnv ps ⟨c0, c1, c2⟩ = cvk ps ⟨c0, c1, c2⟩ n) := by unfold Hid cnv; rw [hn]; rfl
  unfold AllVd at hv
  rw [hn] at h1 h3 hv ⊢
  obtain ⟨b, off, ss, rfl, hs⟩ := h3 (by omega)
  have HV := Lib.hid hv
  have HS := Lib.hid hs
  have hbl := hs.lt
  clear hv h3 hs hn h0
  by_cases hn0 : n = 0
  · subst hn0
    go_enter Try.func58, Try.ntmps58
    go_upto_region 1 with fail
    have hs := ((St.start w).alloc (ac c0 c1 c2)).alloc (ac 0 0 0)
    rw [World.size_alloc] at hs
    generalize (w.alloc (ac c0 c1 c2)).alloc (ac 0 0 0) = w1 at hs ⊢
    generalize hg : w.heap.size = g at hs ⊢
    have HT := Lib.hid hs.swap; clear hs
    go_upto_region 2 with fail
    all_goals
      go_loopw [10] (fun v10 wr => ∃ k : Nat, k ≤ 0 ∧ v10 = .int .i64 k ∧ Hid (St w [(g, ac (cvk ps ⟨c0, c1, c2⟩ k).r (cvk ps ⟨c0, c1, c2⟩ k).g (cvk ps ⟨c0, c1, c2⟩ k).b), (g + 1, ac 0 0 0)] wr)) (fun i _ => 0 - (intOf i).toNat)
      case atStart => exact ⟨0, by omega, rfl, HT.out⟩
      case round =>
        obtain ⟨k, hk, rfl, HW⟩ := hrel
        by_cases hlt : k < 0
        · exact absurd hlt (by omega)
        · obtain rfl : k = 0 := by omega
          have hw := HW.out
          obtain ⟨⟨x0, x1, x2⟩, hx⟩ : ∃ d, cvk ps ⟨c0, c1, c2⟩ 0 = d := ⟨_, rfl⟩
          rw [hx] at hw
          have HX := Lib.hid hx; clear hx
          obtain ⟨l0, l1, l2⟩ := hw.col (b := g) (x := x0) (y := x1) (z := x2) (t := 25) (by simp)
          obtain ⟨m0, m1, m2⟩ := hw.col (b := g + 1) (x := 0) (y := 0) (z := 0) (t := 25) (by simp)
          obtain ⟨f0, f1, f2⟩ := hw.fro (b := g + 1) (cs := #[.int .i64 0, .int .i64 0, .int .i64 0]) (t := 25) (by simp)
          have hw2 := hw.below
          clear hw HW
          go_wp2_with fail
          subst hg
          exact bodyPost_ret (v := ag x0 x1 x2) (by simp [results, Try.results58, go_sem, *]) rfl ⟨by rw [HE.out, HX.out], below_set3 hw2 (by omega) _ _ _⟩

  have g1 : ((n + 1 : Nat) : Int) - 1 = n := by omega
  have g2 : (cap = 1) = False := by simp; omega
  go_enter Try.func58, Try.ntmps58
  go_upto_region 1 with fail
  have hs := ((St.start w).alloc (ac c0 c1 c2)).alloc (ac 0 0 0)
  rw [World.size_alloc] at hs
  generalize (w.alloc (ac c0 c1 c2)).alloc (ac 0 0 0) = w1 at hs ⊢
  generalize hg : w.heap.size = g at hs ⊢
  have HT := Lib.hid hs.swap; clear hs
  go_upto_region 2 with fail
  go_loopw [10] (fun v10 wr => ∃ k : Nat, k ≤ n ∧ v10 = .int .i64 k ∧ Hid (St w [(g, ac (cvk ps ⟨c0, c1, c2⟩ k).r (cvk ps ⟨c0, c1, c2⟩ k).g (cvk ps ⟨c0, c1, c2⟩ k).b), (g + 1, ac 0 0 0)] wr)) (fun i _ => n - (intOf i).toNat)
  case atStart => exact ⟨0, by omega, rfl, HT.out⟩
  case round =>
    obtain ⟨k, hk, rfl, HW⟩ := hrel
    by_cases hlt : k < n
    · have hS1 := HS.out.later HW.out.below
      have hL1 := run_sp (hS1.has (k + 1) (by omega))
      rw [show off + (k + 1) * 21 = off + 21 + k * 21 by omega] at hL1
      have HL1 := Lib.hid hL1; clear hL1
      have q1 : (0 : Int) ≤ k := by omega
      have q2 : (k : Int) < n := by omega
      have q3 : (k : Int) < (n : Int) + 1 := by omega
      have q4 : (k : Int) < ((n + 1 : Nat) : Int) := by omega
      have HO := Lib.hid (Rep.one (hS1.rep (k + 1) (by omega)))
      go_upto_region 4 with (first
        | (refine wpList_load_at rfl 46 _ rfl _ _ rfl _ HL1.out ?_)
        | (refine wpList_store_row rfl 46 _ _ rfl _ _ rfl rfl _ _ (heap_alloc_new _ _) (by kernel_rfl) rfl HO.out ?_))
      simp only [Act.put]
      have hp0 := HS.out.rep k (by omega)
      have hp1 := HS.out.rep (k + 1) (by omega)
      have hh0 := HS.out.has k (by omega)
      have hv0 := HV.out k (by omega)
      have hv1 := HV.out (k + 1) (by omega)
      have hnx : Hid (cvk ps ⟨c0, c1, c2⟩ (k + 1) = fromF (psn ps (k + 1)) (toF (psn ps k) (cvk ps ⟨c0, c1, c2⟩ k))) := rfl
      have hw := HW.out
      obtain ⟨⟨x0, x1, x2⟩, hx⟩ : ∃ d, cvk ps ⟨c0, c1, c2⟩ k = d := ⟨_, rfl⟩
      rw [hx] at hw hnx
      clear hx HO HL1
      generalize ss (k + 1) = s at hp1 ⊢
      generalize ss k = s0 at hp0 hh0
      generalize psn ps (k + 1) = p1 at hp1 hv1 hnx
      generalize psn ps k = p0 at hp0 hv0 hnx
      have h5 := (hw.alloc (.cells #[.slice none 0 0, .slice none 0 0, .slice none 0 0, .int .i64 0, .int .i64 0, .int .i64 0, .int .i64 0, .int .i64 0, .int .i64 0, .int .i64 0, .int .i64 0, .int .i64 0, .int .i64 0, .int .i64 0, .int .i64 0, .int .i64 0, .int .i64 0, .int .i64 0, .int .i64 0, .int .i64 0, .int .i64 0] 46)).row_set (ds := #[s.v0, s.v1, s.v2, .int .i64 s.mt.m0, .int .i64 s.mt.m1, .int .i64 s.mt.m2, .int .i64 s.mt.m3, .int .i64 s.mt.m4, .int .i64 s.mt.m5, .int .i64 s.mt.m6, .int .i64 s.mt.m7, .int .i64 s.mt.m8, .int .i64 s.mf.m0, .int .i64 s.mf.m1, .int .i64 s.mf.m2, .int .i64 s.mf.m3, .int .i64 s.mf.m4, .int .i64 s.mf.m5, .int .i64 s.mf.m6, .int .i64 s.mf.m7, .int .i64 s.mf.m8]) (by rw [hg]; exact hg ▸ hw.below.size) (by have h1 := hw.lt (b := g) (o := ac x0 x1 x2) (by simp); have h2 := hw.lt (b := g + 1) (o := ac 0 0 0) (by simp); simp; omega)
      have hgw := hw.lt (b := g + 1) (o := ac 0 0 0) (by simp)
      have hwr := hw.below.size
      clear HW hS1 hw
      generalize (wr.alloc (.cells #[.slice none 0 0, .slice none 0 0, .slice none 0 0, .int .i64 0, .int .i64 0, .int .i64 0, .int .i64 0, .int .i64 0, .int .i64 0, .int .i64 0, .int .i64 0, .int .i64 0, .int .i64 0, .int .i64 0, .int .i64 0, .int .i64 0, .int .i64 0, .int .i64 0, .int .i64 0, .int .i64 0, .int .i64 0] 46)).setRow wr.heap.size #[s.v0, s.v1, s.v2, .int .i64 s.mt.m0, .int .i64 s.mt.m1, .int .i64 s.mt.m2, .int .i64 s.mt.m3, .int .i64 s.mt.m4, .int .i64 s.mt.m5, .int .i64 s.mt.m6, .int .i64 s.mt.m7, .int .i64 s.mt.m8, .int .i64 s.mf.m0, .int .i64 s.mf.m1, .int .i64 s.mf.m2, .int .i64 s.mf.m3, .int .i64 s.mf.m4, .int .i64 s.mf.m5, .int .i64 s.mf.m6, .int .i64 s.mf.m7, .int .i64 s.mf.m8] = w2 at h5 ⊢
      generalize hh : wr.heap.size = h at h5 hgw hwr ⊢
      have h5 : St w [(h, so s), (g, ac x0 x1 x2), (g + 1, ac 0 0 0)] w2 := h5
      have hd := h5.drew
      have hq := hd.sub (L' := [(h, so s), (g + 1, ac 0 0 0)]) (by intro z hz; simp at hz ⊢; rcases hz with h | h <;> simp [h])
      have HSH : Hid (∀ V, St w [(h, so s), (g, ac x0 x1 x2), (g + 1, ac 0 0 0)] V → St w [(h, so s), (g + 1, ac 0 0 0)] V) := fun V h => h.sub (by intro z hz; simp at hz ⊢; rcases hz with h | h <;> simp [h])
      have HJ : Hid (∀ V, St w [(h, so s), (g + 1, ac 0 0 0)] V → St w [(h, so s), (g + 1, ac 0 0 0)] V ∧ V.rangeAt h 0 s.l ∧ V.rangeAt b (off + k * 21) s0.l) := fun V hV => ⟨hV, St.sp hV (by simp), hh0.later hbl hV.below⟩
      have HO : Hid (∀ V, St w [(h, so s), (g, ac x0 x1 x2), (g + 1, ac 0 0 0)] V → CB V g x0 x1 x2 ∧ V.frozen? ⟨g, 0, none⟩ = false ∧ V.frozen? ⟨g, 1, none⟩ = false ∧ V.frozen? ⟨g, 2, none⟩ = false) := fun V h => ⟨h.col (t := 25) (by simp), h.fro (cs := #[.int .i64 x0, .int .i64 x1, .int .i64 x2]) (t := 25) (by simp)⟩
      have HT2 : Hid (∀ V j v, St w [(h, so s), (g + 1, ac 0 0 0)] V → St w [(h, so s), (g + 1, ac 0 0 0)] (V.setCell ⟨g, j, none⟩ v)) := fun V j v hV => hV.set (by omega) (by simp; omega)
      have HM : Hid (∀ V, St w [(h, so s), (g, ac x0 x1 x2), (g + 1, ac 0 0 0)] V → Calls Try.prog 69 #[s0.v, ag x0 x1 x2] V fun e w' => e = .returned (toF p0 ⟨x0, x1, x2⟩).v ∧ St w [(h, so s), (g, ac x0 x1 x2), (g + 1, ac 0 0 0)] w') := fun V hV => St.call hV (to_any s0 p0 x0 x1 x2 V (hp0.later hV.below) hv0.ok)
      generalize toF p0 ⟨x0, x1, x2⟩ = y at HM hnx
      obtain ⟨y0, y1, y2⟩ := y
      have HU : Hid (∀ V, St w [(h, so s), (g, ac x0 x1 x2), (g + 1, ac 0 0 0)] V → Calls Try.prog 68 #[s.v, ag y0 y1 y2] V fun e w' => e = .returned (fromF p1 ⟨y0, y1, y2⟩).v ∧ St w [(h, so s), (g, ac x0 x1 x2), (g + 1, ac 0 0 0)] w') := fun V hV => St.call hV (from_any s p1 y0 y1 y2 V (hp1.later hV.below) hv1.ok)
      generalize fromF p1 ⟨y0, y1, y2⟩ = d at HU hnx
      obtain ⟨d0, d1, d2⟩ := d
      obtain ⟨⟨l0, l1, l2⟩, _⟩ := HO.out _ hd
      clear hp0 hp1 hv0 hv1 hh0
      refine wp_region_held_drew (S := fun V => St w [(h, so s), (g + 1, ac 0 0 0)] V ∧ V.rangeAt h 0 s.l ∧ V.rangeAt b (off + k * 21) s0.l) (by kernel_rfl) ?_ (fun hHeld => ?_)
      · ((refine HJ.out _ ?_; repeat' (first | assumption | refine HT2.out _ _ _ ?_)))
      refine wpAnyH_take (i := 0) (oi := { dst := some 15, op := Op.load 46 (Operand.tmp 6), type := 46, pos := "chain.go:45", after := #[], guard := none }) rfl (by kernel_rfl) (by kernel_rfl) (by kernel_rfl) (fun _ _ _ h => h) (yieldsIf_load_mid (by kernel_rfl) 46 (.tmp 6) rfl h 0 rfl s.l _ (fun V hV => hV.2.1) Try.underlying46 rfl (by kernel_rfl)) (by assumption) ?_
      try simp only [Act.put, List.setIfInBounds_toArray, List.set_cons_zero, List.set_cons_succ]
      refine wpAnyH_take (i := 1) (oi := { dst := some 16, op := Op.move (Operand.tmp 0), type := 48, pos := "chain.go:45", after := #[], guard := none }) (v := ?_) rfl (by kernel_rfl) (by kernel_rfl) (by kernel_rfl) (fun _ _ _ h => h) (Or.inl ⟨by kernel_rfl, ?_⟩) (by assumption) ?_
      rotate_left 1
      focus (intro w hSw; (try dsimp only at hSw); go_simp; (try with_reducible rfl))
      try simp only [Act.put, List.setIfInBounds_toArray, List.set_cons_zero, List.set_cons_succ]
      refine wpAnyH_take (i := 2) (oi := { dst := some 17, op := Op.move (Operand.tmp 5), type := 3, pos := "chain.go:45", after := #[], guard := none }) (v := ?_) rfl (by kernel_rfl) (by kernel_rfl) (by kernel_rfl) (fun _ _ _ h => h) (Or.inl ⟨by kernel_rfl, ?_⟩) (by assumption) ?_
      rotate_left 1
      focus (intro w hSw; (try dsimp only at hSw); go_simp; (try with_reducible rfl))
      try simp only [Act.put, List.setIfInBounds_toArray, List.set_cons_zero, List.set_cons_succ]
      refine wpAnyH_take (i := 3) (oi := { dst := some 18, op := Op.indexAddr 48 (Operand.tmp 16) (Operand.tmp 17), type := 0, pos := "chain.go:45", after := #[{ on := 1, ground := Ground.data }, { on := 2, ground := Ground.data }], guard := none }) (v := ?_) rfl (by kernel_rfl) (by kernel_rfl) (by kernel_rfl) (fun _ _ _ h => h) (Or.inl ⟨by kernel_rfl, ?_⟩) (by assumption) ?_
      rotate_left 1
      focus (intro w hSw; (try dsimp only at hSw); go_simp; (try with_reducible rfl))
      try simp only [Act.put, List.setIfInBounds_toArray, List.set_cons_zero, List.set_cons_succ]
      refine wpAnyH_take (i := 4) (oi := { dst := some 19, op := Op.load 46 (Operand.tmp 18), type := 46, pos := "chain.go:45", after := #[{ on := 3, ground := Ground.data }], guard := none }) rfl (by kernel_rfl) (by kernel_rfl) (by kernel_rfl) (fun _ _ _ h => h) (yieldsIf_load_mid (by kernel_rfl) 46 (.tmp 18) rfl b (off + k * 21) rfl s0.l _ (fun V hV => hV.2.2) Try.underlying46 rfl (by kernel_rfl)) (by assumption) ?_
      try simp only [Act.put, List.setIfInBounds_toArray, List.set_cons_zero, List.set_cons_succ]
      refine wpAnyH_ready (rs := [5]) (by kernel_rfl) (by simp) (AllReadyH.cons (o := { dst := some 20, op := Op.load 25 (Operand.tmp 3), type := 25, pos := "chain.go:45", after := #[], guard := none }) rfl (fun K hK => ?_) AllReadyH.nil)
      (go_simp)
      refine hK.out _ _ ?_ (fun hHeld => ?_)
      · ((refine HJ.out _ ?_; repeat' (first | assumption | refine HT2.out _ _ _ ?_)))
      clear hK K
      try simp only [Act.put, List.setIfInBounds_toArray, List.set_cons_zero, List.set_cons_succ]
      refine wpAnyH_ready (rs := [6]) (by kernel_rfl) (by simp) (AllReadyH.cons (o := { dst := some 21, op := Op.call { callee := Callee.value (Operand.func 69), args := #[Operand.tmp 19, Operand.tmp 20], argTypes := #[46, 25] }, type := 25, pos := "chain.go:45", after := #[{ on := 4, ground := Ground.data }, { on := 5, ground := Ground.data }], guard := none }) rfl (fun K hK => ?_) AllReadyH.nil)
      (go_simp; (go_at_call 69; (refine (HM.out _ ?_).mono ?_); (focus assumption); rintro e w4 ⟨rfl, h4⟩; have k4 := HSH.out _ h4))
      refine hK.out _ _ ?_ (fun hHeld => ?_)
      · ((refine HJ.out _ ?_; repeat' (first | assumption | refine HT2.out _ _ _ ?_)))
      clear hK K
      try simp only [Act.put, List.setIfInBounds_toArray, List.set_cons_zero, List.set_cons_succ]
      refine wpAnyH_ready (rs := [7]) (by kernel_rfl) (by simp) (AllReadyH.cons (o := { dst := some 22, op := Op.call { callee := Callee.value (Operand.func 68), args := #[Operand.tmp 15, Operand.tmp 21], argTypes := #[46, 25] }, type := 25, pos := "chain.go:45", after := #[{ on := 0, ground := Ground.data }, { on := 6, ground := Ground.data }, { on := 6, ground := Ground.chain }], guard := none }) rfl (fun K hK => ?_) AllReadyH.nil)
      (go_simp; (go_at_call 68; (refine (HU.out _ ?_).mono ?_); (focus assumption); rintro e w5 ⟨rfl, h6⟩; have k5 := HSH.out _ h6; obtain ⟨⟨m0, m1, m2⟩, f0, f1, f2⟩ := HO.out _ h6))
      refine hK.out _ _ ?_ (fun hHeld => ?_)
      · ((refine HJ.out _ ?_; repeat' (first | assumption | refine HT2.out _ _ _ ?_)))
      clear hK K
      try simp only [Act.put, List.setIfInBounds_toArray, List.set_cons_zero, List.set_cons_succ]
      refine wpAnyH_ready (rs := [8]) (by kernel_rfl) (by simp) (AllReadyH.cons (o := { dst := none, op := Op.store 25 (Operand.tmp 3) (Operand.tmp 22), type := 0, pos := "chain.go:45", after := #[{ on := 7, ground := Ground.data }, { on := 7, ground := Ground.chain }, { on := 0, ground := Ground.phase }, { on := 1, ground := Ground.phase }, { on := 2, ground := Ground.phase }, { on := 3, ground := Ground.phase }, { on := 4, ground := Ground.phase }, { on := 5, ground := Ground.phase }, { on := 6, ground := Ground.phase }, { on := 7, ground := Ground.phase }], guard := none }) rfl (fun K hK => ?_) AllReadyH.nil)
      (go_simp)
      refine hK.out _ _ ?_ (fun hHeld => ?_)
      · ((refine HJ.out _ ?_; repeat' (first | assumption | refine HT2.out _ _ _ ?_)))
      clear hK K
      try simp only [Act.put, List.setIfInBounds_toArray, List.set_cons_zero, List.set_cons_succ]
      refine wpAnyH_done (by kernel_rfl) ?_ _
      have h7 : St w [(g, ac x0 x1 x2), (g + 1, ac 0 0 0)] w5 := h6.sub (by intro z hz; simp at hz ⊢; rcases hz with h | h <;> simp [h])
      have h8 : St w [(g, ac d0 d1 d2), (g + 1, ac 0 0 0)] (((w5.setCell ⟨g, 0, none⟩ (.int .i64 d0)).setCell ⟨g, 1, none⟩ (.int .i64 d1)).setCell ⟨g, 2, none⟩ (.int .i64 d2)) := ((h7.put0 (by omega) (by simp)).put1 (by omega) (by simp)).put2 (by omega) (by simp)
      generalize ((w5.setCell ⟨g, 0, none⟩ (.int .i64 d0)).setCell ⟨g, 1, none⟩ (.int .i64 d1)).setCell ⟨g, 2, none⟩ (.int .i64 d2) = w6 at h8 ⊢
      have HZ := Lib.hid h8
      clear h8 h7 hHeld h6 k5 h4 k4 l0 l1 l2 m0 m1 m2 f0 f1 f2
      go_wp2_with fail
      go_roundw
      case rel => exact ⟨k + 1, by omega, by go_num, by rw [hnx.out]; exact HZ⟩
      case measure => simp [intOf]; omega
    · obtain rfl : k = n := by omega
      have hw := HW.out
      obtain ⟨⟨x0, x1, x2⟩, hx⟩ : ∃ d, cvk ps ⟨c0, c1, c2⟩ k = d := ⟨_, rfl⟩
      rw [hx] at hw
      have HX := Lib.hid hx; clear hx
      obtain ⟨l0, l1, l2⟩ := hw.col (b := g) (x := x0) (y := x1) (z := x2) (t := 25) (by simp)
      obtain ⟨m0, m1, m2⟩ := hw.col (b := g + 1) (x := 0) (y := 0) (z := 0) (t := 25) (by simp)
      obtain ⟨f0, f1, f2⟩ := hw.fro (b := g + 1) (cs := #[.int .i64 0, .int .i64 0, .int .i64 0]) (t := 25) (by simp)
      have hw2 := hw.below
      clear hw HW
      go_wp2_with fail
      subst hg
      exact bodyPost_ret (v := ag x0 x1 x2) (by simp [results, Try.results58, go_sem, *]) rfl ⟨by rw [HE.out, HX.out], below_set3 hw2 (by omega) _ _ _⟩

end Go.Proofs.Ytcmplgiilcfncaa.K
