/-
  The planes of a tile, and the tile of planes (contracts).
-/
import Derived.Test.YtfncldaodbfakaaGreatPPrd
namespace Go.Proofs.YtfncldaodbfakaaGreat.P
open Go.RowKit T
set_option maxRecDepth 100000
variable {W w w' : World} {L : List (Nat × Obj)}

/-- the planes of a tile -/
def pY (f : Nat → Px) (i : Nat) : Int := sY (f i).r (f i).g (f i).b
def pU (f : Nat → Px) (i : Nat) : Int := sU (f i).r (f i).b
def pV (f : Nat → Px) (i : Nat) : Int := sV (f i).r (f i).g (f i).b
def pA (f : Nat → Px) (i : Nat) : Int := (f i).a
theorem pY_ch (f : Nat → Px) (i : Nat) : Ch (pY f i) := b8_ch _
theorem pU_ch (f : Nat → Px) (i : Nat) : Ch (pU f i) := b8_ch _
theorem pV_ch (f : Nat → Px) (i : Nat) : Ch (pV f i) := b8_ch _
theorem St.same {b : Nat} {cs : Array Value} {t : TypeId} (h : St W L w) (hm : (b, .cells cs t) ∈ L) (hb : W.heap.size ≤ b) : St W L (w.setRow b cs) :=
  ⟨h.below.trans ⟨rfl, rfl, rfl, by simp [World.setRow], fun k hk => setRow_other w b k cs (by omega)⟩, fun x hx => by
    by_cases e : x.1 = b
    · have h1 := h.rows x hx
      rw [e] at h1 ⊢
      have h2 := h.row hm
      rw [h2] at h1
      rw [setRow_heap w b cs cs t (0, 0) h2, h1]
    · rw [setRow_other w b x.1 cs e]; exact h.rows x hx⟩
theorem index_tv (f : Nat → Px) (i : Nat) (hi : i < 64) {r g b a : Int} (hp : f i = ⟨r, g, b, a⟩) (w : World) : (Instr.index 38 (tv f) (.int .i64 (i : Int))).run Tryz.prog w = .ok ((Value.agg #[.int .u8 r, .int .u8 g, .int .u8 b, .int .u8 a])) w := by
  have h2 : 0 ≤ (i : Int) ∧ (i : Int) < (64 : Nat) := ⟨by omega, by omega⟩
  have hs : (sizeOf 36).run Tryz.prog w = .ok 4 w := by kernel_rfl
  have hpp := part_px f i hi w
  rw [hp] at hpp
  simp only [Instr.index, asIntOf, Sem.run_bind, Sem.run_pure, Result.andThen_ok, run_underlying Tryz.underlying38, hs, if_pos h2, Int.toNat_natCast, hpp]
theorem res4 {fn : Func} (h : fn.results = #[.cell 2 231, .cell 3 231, .cell 4 231, .cell 5 231]) (tmps : Array Value) (w : World) {b1 b2 b3 b4 : Nat} {f1 f2 f3 f4 : Nat → Int}
    (p1 : tmps.getD 2 undef = ptrB b1) (p2 : tmps.getD 3 undef = ptrB b2) (p3 : tmps.getD 4 undef = ptrB b3) (p4 : tmps.getD 5 undef = ptrB b4)
    (h1 : w.heap[b1]? = some (pob f1)) (h2 : w.heap[b2]? = some (pob f2)) (h3 : w.heap[b3]? = some (pob f3)) (h4 : w.heap[b4]? = some (pob f4)) :
    (results fn tmps).run Tryz.prog w = .ok (.tuple #[pv f1, pv f2, pv f3, pv f4]) w := by
  have q1 : tmps[2]?.getD undef = ptrB b1 := by simpa using p1
  have q2 : tmps[3]?.getD undef = ptrB b2 := by simpa using p2
  have q3 : tmps[4]?.getD undef = ptrB b3 := by simpa using p3
  have q4 : tmps[5]?.getD undef = ptrB b4 := by simpa using p4
  have l : ∀ b f, w.heap[b]? = some (pob f) → (loadVar 231 ⟨b, 0, none⟩).run Tryz.prog w = .ok (pv f) w := fun b f hb =>
    run_loadVar_row w b 231 231 (pc f) (0, 0) _ hb Tryz.underlying231 rfl (by rw [info_pl, pc_size])
  simp [results, h, q1, q2, q3, q4, asAddr, l _ _ h1, l _ _ h2, l _ _ h3, l _ _ h4]
set_option maxHeartbeats 4000000 in
theorem split_any (f : Nat → Px) (w : World) (hf : ∀ i, i < 64 → Pc (f i)) :
    Calls Tryz.prog 181 #[tv f] w fun e w' => e = .returned (.tuple #[pv (pY f), pv (pU f), pv (pV f), pv (pA f)]) ∧ Below w.heap.size w w' := by
  have hs := (((((St.start w).alloc (tob f)).alloc (pob zn)).alloc (pob zn)).alloc (pob zn)).alloc (pob zn)
  simp only [World.size_alloc] at hs
  obtain ⟨V2, hV2⟩ : ∃ V2, V2 = ((((w.alloc (tob f)).alloc (pob zn)).alloc (pob zn)).alloc (pob zn)).alloc (pob zn) := ⟨_, rfl⟩
  rw [← hV2] at hs
  obtain ⟨b0, hb0⟩ : ∃ b0, b0 = w.heap.size := ⟨_, rfl⟩
  rw [← hb0] at hs
  have HV := Lib.hid hV2
  have HB0 := Lib.hid hb0
  have HL0 := Lib.hid (load_tile b0 f V2 (hs.row (b := b0) (o := tob f) (by simp)))
  have hs' := hs.sub (L' := [(b0 + 1, pob zn), (b0 + 1 + 1, pob zn), (b0 + 1 + 1 + 1, pob zn), (b0 + 1 + 1 + 1 + 1, pob zn), (b0, tob f)]) (by simp)
  have HS := Lib.hid hs'
  clear hV2 hs hb0 hs'
  go_enter Tryz.func181, Tryz.ntmps181
  go_upto_region 1 with (refine wpList_alloc_of rfl 231 rfl _ (zero_pl _) ?_)
  try simp only [Act.put, List.setIfInBounds_toArray, List.set_cons_zero, List.set_cons_succ]
  have e1 : ((((w.alloc (tob f)).alloc (pob zn)).alloc (pob zn)).alloc (pob zn)).alloc (pob zn) = V2 := HV.out.symm
  rw [e1]
  clear e1
  try simp only [World.size_alloc]
  try rw [← HB0.out]
  clear HV
  go_wp2_with (refine wpList_load_of rfl 38 _ rfl _ HL0.out ?_)
  clear HL0
  go_loopw [9] (fun v wr => ∃ j : Nat, j ≤ 64 ∧ v = .int .i64 j ∧ Hid (St w [(b0 + 1, pob (ct zn (pY f) j)), (b0 + 1 + 1, pob (ct zn (pU f) j)), (b0 + 1 + 1 + 1, pob (ct zn (pV f) j)), (b0 + 1 + 1 + 1 + 1, pob (ct zn (pA f) j)), (b0, tob f)] wr)) (fun i _ => 64 - (intOf i).toNat)
  case atStart => exact ⟨0, by omega, rfl, by rw [ct_zero, ct_zero, ct_zero, ct_zero]; exact HS.out⟩
  case round =>
    clear HS
    obtain ⟨j, hj, rfl, HT⟩ := hrel
    by_cases hlt : j < 64
    · obtain ⟨hr, hg, hb, ha⟩ := hf j hlt
      obtain ⟨r, g, b, a, hp⟩ : ∃ r g b a, f j = ⟨r, g, b, a⟩ := ⟨_, _, _, _, rfl⟩
      rw [hp] at hr hg hb ha
      have hix := index_tv f j hlt hp
      have eY : sY r g b = pY f j := by unfold pY; rw [hp]
      have eU : sU r b = pU f j := by unfold pU; rw [hp]
      have eV : sV r g b = pV f j := by unfold pV; rw [hp]
      have eA : a = pA f j := by unfold pA; rw [hp]
      have HE := Lib.hid eY
      have HEU := Lib.hid eU
      have HEV := Lib.hid eV
      have HEA := Lib.hid eA
      clear eY eU eV eA hp
      go_upto_region 4 with fail
      have h1 := HT.out.alloc (.cells #[.int .u8 r, .int .u8 g, .int .u8 b, .int .u8 a] 36)
      have hq : b0 + 1 + 1 + 1 + 1 < wr.heap.size := HT.out.lt (b := b0 + 1 + 1 + 1 + 1) (o := pob (ct zn (pA f) j)) (by simp)
      generalize wr.heap.size = q at h1 hq ⊢
      generalize wr.alloc (.cells #[.int .u8 r, .int .u8 g, .int .u8 b, .int .u8 a] 36) = w5 at h1 ⊢
      have c0 := h1.cell (b := q) (cs := #[.int .u8 r, .int .u8 g, .int .u8 b, .int .u8 a]) (t := 36) (by simp) 0
      have c1 := h1.cell (b := q) (cs := #[.int .u8 r, .int .u8 g, .int .u8 b, .int .u8 a]) (t := 36) (by simp) 1
      have c2 := h1.cell (b := q) (cs := #[.int .u8 r, .int .u8 g, .int .u8 b, .int .u8 a]) (t := 36) (by simp) 2
      have c3 := h1.cell (b := q) (cs := #[.int .u8 r, .int .u8 g, .int .u8 b, .int .u8 a]) (t := 36) (by simp) 3
      simp only [List.getElem?_toArray, List.getElem?_cons_zero, List.getElem?_cons_succ] at c0 c1 c2 c3
      have k0 := St.pcell h1 (b := b0 + 1) (f := ct zn (pY f) j) (by simp) hlt
      have f0 := h1.frozen (b := b0 + 1) (cs := pc (ct zn (pY f) j)) (t := 231) (by simp) j
      have x0 := fun W => index_pl (b0 + 1) j hlt W
      have k1 := St.pcell h1 (b := b0 + 1 + 1) (f := ct zn (pU f) j) (by simp) hlt
      have f1 := h1.frozen (b := b0 + 1 + 1) (cs := pc (ct zn (pU f) j)) (t := 231) (by simp) j
      have x1 := fun W => index_pl (b0 + 1 + 1) j hlt W
      have k2 := St.pcell h1 (b := b0 + 1 + 1 + 1) (f := ct zn (pV f) j) (by simp) hlt
      have f2 := h1.frozen (b := b0 + 1 + 1 + 1) (cs := pc (ct zn (pV f) j)) (t := 231) (by simp) j
      have x2 := fun W => index_pl (b0 + 1 + 1 + 1) j hlt W
      have k3 := St.pcell h1 (b := b0 + 1 + 1 + 1 + 1) (f := ct zn (pA f) j) (by simp) hlt
      have f3 := h1.frozen (b := b0 + 1 + 1 + 1 + 1) (cs := pc (ct zn (pA f) j)) (t := 231) (by simp) j
      have x3 := fun W => index_pl (b0 + 1 + 1 + 1 + 1) j hlt W
      go_upto_region 5 with ((go_at_call 208; (refine (swap_any r g b _ hr hg hb).mono ?_); rintro e w6 ⟨rfl, rfl⟩))
      rw [HE.out, HEU.out, HEV.out]
      have g0 := St.setp (i := j) (pY f j) (h1.sub (L' := [(b0 + 1, pob (ct zn (pY f) j)), (q, .cells #[.int .u8 r, .int .u8 g, .int .u8 b, .int .u8 a] 36), (b0 + 1 + 1, pob (ct zn (pU f) j)), (b0 + 1 + 1 + 1, pob (ct zn (pV f) j)), (b0 + 1 + 1 + 1 + 1, pob (ct zn (pA f) j)), (b0, tob f)]) (by simp)) hlt (by have := HB0.out; omega) (by first | (simp; done) | (simp; omega))
      rw [ct_succ] at g0
      have g1 := St.setp (i := j) (pU f j) (g0.sub (L' := [(b0 + 1 + 1, pob (ct zn (pU f) j)), (q, .cells #[.int .u8 r, .int .u8 g, .int .u8 b, .int .u8 a] 36), (b0 + 1, pob (ct zn (pY f) (j + 1))), (b0 + 1 + 1 + 1, pob (ct zn (pV f) j)), (b0 + 1 + 1 + 1 + 1, pob (ct zn (pA f) j)), (b0, tob f)]) (by simp)) hlt (by have := HB0.out; omega) (by first | (simp; done) | (simp; omega))
      rw [ct_succ] at g1
      have g2 := St.setp (i := j) (pV f j) (g1.sub (L' := [(b0 + 1 + 1 + 1, pob (ct zn (pV f) j)), (q, .cells #[.int .u8 r, .int .u8 g, .int .u8 b, .int .u8 a] 36), (b0 + 1, pob (ct zn (pY f) (j + 1))), (b0 + 1 + 1, pob (ct zn (pU f) (j + 1))), (b0 + 1 + 1 + 1 + 1, pob (ct zn (pA f) j)), (b0, tob f)]) (by simp)) hlt (by have := HB0.out; omega) (by first | (simp; done) | (simp; omega))
      rw [ct_succ] at g2
      generalize (((w5.setCell ⟨b0 + 1, j, none⟩ (.int .u8 (pY f j))).setCell ⟨b0 + 1 + 1, j, none⟩ (.int .u8 (pU f j))).setCell ⟨b0 + 1 + 1 + 1, j, none⟩ (.int .u8 (pV f j))) = w6 at g2 ⊢
      have c3 := g2.cell (b := q) (cs := #[.int .u8 r, .int .u8 g, .int .u8 b, .int .u8 a]) (t := 36) (by simp) 3
      simp only [List.getElem?_toArray, List.getElem?_cons_zero, List.getElem?_cons_succ] at c3
      have k3 := St.pcell g2 (b := b0 + 1 + 1 + 1 + 1) (f := ct zn (pA f) j) (by simp) hlt
      have f3 := g2.frozen (b := b0 + 1 + 1 + 1 + 1) (cs := pc (ct zn (pA f) j)) (t := 231) (by simp) j
      have x3 := fun W => index_pl (b0 + 1 + 1 + 1 + 1) j hlt W
      rw [HEA.out] at c3
      have g3 := St.setp (i := j) (pA f j) (g2.sub (L' := [(b0 + 1 + 1 + 1 + 1, pob (ct zn (pA f) j)), (q, .cells #[.int .u8 r, .int .u8 g, .int .u8 b, .int .u8 a] 36), (b0 + 1, pob (ct zn (pY f) (j + 1))), (b0 + 1 + 1, pob (ct zn (pU f) (j + 1))), (b0 + 1 + 1 + 1, pob (ct zn (pV f) (j + 1))), (b0, tob f)]) (by simp)) hlt (by have := HB0.out; omega) (by first | (simp; done) | (simp; omega))
      rw [ct_succ] at g3
      have g4 := g3.sub (L' := [(b0 + 1, pob (ct zn (pY f) (j + 1))), (b0 + 1 + 1, pob (ct zn (pU f) (j + 1))), (b0 + 1 + 1 + 1, pob (ct zn (pV f) (j + 1))), (b0 + 1 + 1 + 1 + 1, pob (ct zn (pA f) (j + 1))), (b0, tob f)]) (by simp)
      have H4 := Lib.hid g4
      clear g0 g1 g2 g3 g4 h1 hix HT
      go_wp2
      go_roundw
      case rel => exact ⟨j + 1, by omega, by go_num, H4.out⟩
      case measure => simp [intOf]; omega
    · obtain rfl : j = 64 := by omega
      have h9 : St w [(b0 + 1, pob (pY f)), (b0 + 1 + 1, pob (pU f)), (b0 + 1 + 1 + 1, pob (pV f)), (b0 + 1 + 1 + 1 + 1, pob (pA f)), (b0, tob f)] wr := by
        have h := HT.out
        rwa [show pob (ct zn (pY f) 64) = pob (pY f) from congrArg (fun c => Obj.cells c 231) (ct_all _ _), show pob (ct zn (pU f) 64) = pob (pU f) from congrArg (fun c => Obj.cells c 231) (ct_all _ _), show pob (ct zn (pV f) 64) = pob (pV f) from congrArg (fun c => Obj.cells c 231) (ct_all _ _), show pob (ct zn (pA f) 64) = pob (pA f) from congrArg (fun c => Obj.cells c 231) (ct_all _ _)] at h
      have hbz := HB0.out
      go_upto_region 7 with fail
      refine wp_region_held_drew (S := fun V9 => St w [(b0 + 1, pob (pY f)), (b0 + 1 + 1, pob (pU f)), (b0 + 1 + 1 + 1, pob (pV f)), (b0 + 1 + 1 + 1 + 1, pob (pA f)), (b0, tob f)] V9) (by kernel_rfl) ?_ (fun hHeld => ?_)
      · first | exact h9.drew | exact h9.drew.tl
      have h90 := h9.drew
      refine wpAnyH_take (i := 0) (oi := { dst := some 35, op := Op.load 231 (Operand.tmp 2), type := 231, pos := "plane.go:19", after := #[], guard := none }) rfl (by kernel_rfl) (by kernel_rfl) (by kernel_rfl) (fun _ _ _ h => h) (yields_load (by kernel_rfl) 231 (.tmp 2) rfl (pv (pY f)) (fun V hV => load_pl (b0 + 1) (pY f) V (St.row hV (b := b0 + 1) (o := pob (pY f)) (by simp)))) (by assumption) ?_
      try simp only [Act.put, List.setIfInBounds_toArray, List.set_cons_zero, List.set_cons_succ]
      refine wpAnyH_take (i := 1) (oi := { dst := some 36, op := Op.load 231 (Operand.tmp 3), type := 231, pos := "plane.go:19", after := #[{ on := 4, ground := Ground.gcOnly Departure.lateStores }], guard := none }) rfl (by kernel_rfl) (by kernel_rfl) (by kernel_rfl) (fun _ _ _ h => h) (yields_load (by kernel_rfl) 231 (.tmp 3) rfl (pv (pU f)) (fun V hV => load_pl (b0 + 1 + 1) (pU f) V (St.row hV (b := b0 + 1 + 1) (o := pob (pU f)) (by simp)))) (by assumption) ?_
      try simp only [Act.put, List.setIfInBounds_toArray, List.set_cons_zero, List.set_cons_succ]
      refine wpAnyH_take (i := 2) (oi := { dst := some 37, op := Op.load 231 (Operand.tmp 4), type := 231, pos := "plane.go:19", after := #[{ on := 5, ground := Ground.gcOnly Departure.lateStores }], guard := none }) rfl (by kernel_rfl) (by kernel_rfl) (by kernel_rfl) (fun _ _ _ h => h) (yields_load (by kernel_rfl) 231 (.tmp 4) rfl (pv (pV f)) (fun V hV => load_pl (b0 + 1 + 1 + 1) (pV f) V (St.row hV (b := b0 + 1 + 1 + 1) (o := pob (pV f)) (by simp)))) (by assumption) ?_
      try simp only [Act.put, List.setIfInBounds_toArray, List.set_cons_zero, List.set_cons_succ]
      refine wpAnyH_take (i := 3) (oi := { dst := some 38, op := Op.load 231 (Operand.tmp 5), type := 231, pos := "plane.go:19", after := #[{ on := 6, ground := Ground.gcOnly Departure.lateStores }], guard := none }) rfl (by kernel_rfl) (by kernel_rfl) (by kernel_rfl) (fun _ _ _ h => h) (yields_load (by kernel_rfl) 231 (.tmp 5) rfl (pv (pA f)) (fun V hV => load_pl (b0 + 1 + 1 + 1 + 1) (pA f) V (St.row hV (b := b0 + 1 + 1 + 1 + 1) (o := pob (pA f)) (by simp)))) (by assumption) ?_
      try simp only [Act.put, List.setIfInBounds_toArray, List.set_cons_zero, List.set_cons_succ]
      refine wpAnyH_ready (rs := [4]) (by kernel_rfl) (by simp) (AllReadyH.cons (o := { dst := none, op := Op.store 231 (Operand.tmp 2) (Operand.tmp 35), type := 0, pos := "plane.go:19", after := #[{ on := 0, ground := Ground.data }, { on := 0, ground := Ground.phase }, { on := 1, ground := Ground.textOnly Departure.lateStores }, { on := 2, ground := Ground.textOnly Departure.lateStores }, { on := 3, ground := Ground.textOnly Departure.lateStores }], guard := none }) rfl (fun K hK => ?_) AllReadyH.nil)
      have h91r7 := St.same (b := b0 + 1) (cs := pc (pY f)) (t := 231) h90 (by simp) (by omega)
      refine wp_store_of 231 _ _ rfl (store_pl (b0 + 1) (pY f) (pY f) _ (St.row h90 (b := b0 + 1) (o := pob (pY f)) (by simp))) ?_
      refine hK.out _ _ ?_ (fun hHeld => ?_)
      · (first | exact h91r7 | exact h91r7.tl)
      clear hK K
      try simp only [Act.put]
      refine wpAnyH_ready (rs := [5]) (by kernel_rfl) (by simp) (AllReadyH.cons (o := { dst := none, op := Op.store 231 (Operand.tmp 3) (Operand.tmp 36), type := 0, pos := "plane.go:19", after := #[{ on := 1, ground := Ground.data }, { on := 4, ground := Ground.chain }, { on := 0, ground := Ground.phase }, { on := 1, ground := Ground.phase }, { on := 2, ground := Ground.textOnly Departure.lateStores }, { on := 3, ground := Ground.textOnly Departure.lateStores }, { on := 4, ground := Ground.phase }], guard := none }) rfl (fun K hK => ?_) AllReadyH.nil)
      have h92r7 := St.same (b := b0 + 1 + 1) (cs := pc (pU f)) (t := 231) h91r7 (by simp) (by omega)
      refine wp_store_of 231 _ _ rfl (store_pl (b0 + 1 + 1) (pU f) (pU f) _ (St.row h91r7 (b := b0 + 1 + 1) (o := pob (pU f)) (by simp))) ?_
      refine hK.out _ _ ?_ (fun hHeld => ?_)
      · (first | exact h92r7 | exact h92r7.tl)
      clear hK K
      try simp only [Act.put]
      refine wpAnyH_ready (rs := [6]) (by kernel_rfl) (by simp) (AllReadyH.cons (o := { dst := none, op := Op.store 231 (Operand.tmp 4) (Operand.tmp 37), type := 0, pos := "plane.go:19", after := #[{ on := 2, ground := Ground.data }, { on := 5, ground := Ground.chain }, { on := 0, ground := Ground.phase }, { on := 1, ground := Ground.phase }, { on := 2, ground := Ground.phase }, { on := 3, ground := Ground.textOnly Departure.lateStores }, { on := 4, ground := Ground.phase }, { on := 5, ground := Ground.phase }], guard := none }) rfl (fun K hK => ?_) AllReadyH.nil)
      have h93r7 := St.same (b := b0 + 1 + 1 + 1) (cs := pc (pV f)) (t := 231) h92r7 (by simp) (by omega)
      refine wp_store_of 231 _ _ rfl (store_pl (b0 + 1 + 1 + 1) (pV f) (pV f) _ (St.row h92r7 (b := b0 + 1 + 1 + 1) (o := pob (pV f)) (by simp))) ?_
      refine hK.out _ _ ?_ (fun hHeld => ?_)
      · (first | exact h93r7 | exact h93r7.tl)
      clear hK K
      try simp only [Act.put]
      refine wpAnyH_ready (rs := [7]) (by kernel_rfl) (by simp) (AllReadyH.cons (o := { dst := none, op := Op.store 231 (Operand.tmp 5) (Operand.tmp 38), type := 0, pos := "plane.go:19", after := #[{ on := 3, ground := Ground.data }, { on := 6, ground := Ground.chain }, { on := 0, ground := Ground.phase }, { on := 1, ground := Ground.phase }, { on := 2, ground := Ground.phase }, { on := 3, ground := Ground.phase }, { on := 4, ground := Ground.phase }, { on := 5, ground := Ground.phase }, { on := 6, ground := Ground.phase }], guard := none }) rfl (fun K hK => ?_) AllReadyH.nil)
      have h94r7 := St.same (b := b0 + 1 + 1 + 1 + 1) (cs := pc (pA f)) (t := 231) h93r7 (by simp) (by omega)
      refine wp_store_of 231 _ _ rfl (store_pl (b0 + 1 + 1 + 1 + 1) (pA f) (pA f) _ (St.row h93r7 (b := b0 + 1 + 1 + 1 + 1) (o := pob (pA f)) (by simp))) ?_
      refine hK.out _ _ ?_ (fun hHeld => ?_)
      · (first | exact h94r7 | exact h94r7.tl)
      clear hK K
      try simp only [Act.put]
      refine wpAnyH_done (by kernel_rfl) ?_ _
      have HR := fun (b : Nat) (o : Obj) (hm : (b, o) ∈ [(b0 + 1, pob (pY f)), (b0 + 1 + 1, pob (pU f)), (b0 + 1 + 1 + 1, pob (pV f)), (b0 + 1 + 1 + 1 + 1, pob (pA f)), (b0, tob f)]) => h94r7.row hm
      go_wp2
      clear hHeld
      refine bodyPost_ret (v := .tuple #[pv (pY f), pv (pU f), pv (pV f), pv (pA f)]) ?_ rfl ⟨rfl, h94r7.below⟩
      exact res4 rfl _ _ rfl rfl rfl rfl (HR _ _ (by simp)) (HR _ _ (by simp)) (HR _ _ (by simp)) (HR _ _ (by simp))
end Go.Proofs.YtfncldaodbfakaaGreat.P
