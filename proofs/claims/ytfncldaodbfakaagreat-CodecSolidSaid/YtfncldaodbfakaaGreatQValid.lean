/-
  Valid rasters (contracts of validTile, Valid, validTiles).
-/
import Derived.Test.YtfncldaodbfakaaGreatQCmp
import Derived.Test.YtfncldaodbfakaaGreatTZero
namespace Go.Proofs.YtfncldaodbfakaaGreat.Q
open Go.RowKit T Go.Shelf
set_option maxRecDepth 100000
variable {V W w : World} {L : List (Nat × Obj)}

/-- a tile of a valid raster: clean, and something is to be seen -/
def vtile (f : Nat → Px) : Bool := ((List.range 64).all fun i => peq (cln (f i)) (f i)) && !(teq f z0)
theorem vtile_iff (f : Nat → Px) : vtile f = true ↔ (∀ i, i < 64 → cln (f i) = f i) ∧ ∃ i, i < 64 ∧ (f i).a ≠ 0 := by
  unfold vtile
  rw [Bool.and_eq_true, List.all_eq_true]
  simp only [List.mem_range, peq_iff, Bool.not_eq_true']
  constructor
  · rintro ⟨h1, h2⟩
    refine ⟨h1, ?_⟩
    rw [← Bool.not_eq_true, teq_iff] at h2
    obtain ⟨i, hi⟩ := Classical.not_forall.1 h2
    obtain ⟨h3, h4⟩ := Classical.not_imp.1 hi
    refine ⟨i, h3, fun h => h4 ?_⟩
    have := h1 i h3
    unfold cln at this
    rw [if_pos h] at this
    exact this.symm
  · rintro ⟨h1, i, hi, h2⟩
    refine ⟨h1, ?_⟩
    rw [← Bool.not_eq_true, teq_iff]
    intro h
    rw [h i hi] at h2
    exact h2 rfl
set_option maxHeartbeats 4000000 in
theorem vtile_any (b o : Nat) (f : Nat → Px) (w : World) (hT : Til w b o f) : Calls Tryz.prog 104 #[.pointer (some ⟨b, o, none⟩)] w fun e w' => e = .returned (.bool (vtile f)) ∧ Below w.heap.size w w' := by
  have HLT := Lib.hid hT.lt
  have HT := Lib.hid hT
  clear hT
  go_enter Tryz.func104, Tryz.ntmps104
  go_wp2_with fail
  go_loopw [6] (fun i wr => ∃ k : Nat, k ≤ 64 ∧ i = .int .i64 k ∧ Hid (∀ i, i < k → cln (f i) = f i) ∧ Hid (St w [] wr)) (fun i _ => 64 - (intOf i).toNat)
  case atStart => exact ⟨0, by omega, rfl, fun i hi => by omega, St.start w⟩
  case round =>
    obtain ⟨k, hk, rfl, HC, HW⟩ := hrel
    by_cases hlt : k < 64
    · have hix := index_til b o k hlt
      have hl := (HT.out.later HLT.out HW.out.below).px hlt
      have HL := Lib.hid hl
      have hA := World.alloc_heap_new wr (pxo zp)
      have h2 := St.rowset (ds := (pl (f k)).toArray) (HW.out.alloc (pxo zp)) HW.out.below.size HW.out.ne
      have HA := Lib.hid hA
      have H2 := Lib.hid h2
      clear hl hA h2
      go_upto_region 4 with (first
        | (refine wpList_load_of rfl 36 (.tmp 9) rfl _ HL.out ?_)
        | (refine wpList_store_of rfl 36 _ _ rfl (store_px0 _ zp (f k) _ HA.out) ?_))
      generalize wr.heap.size = b4 at *
      have H2 : Hid (St w [(b4, pxo (f k))] ((wr.alloc (.cells #[.int .u8 0, .int .u8 0, .int .u8 0, .int .u8 0] 36)).setRow b4 (pl (f k)).toArray)) := H2
      generalize (wr.alloc (.cells #[.int .u8 0, .int .u8 0, .int .u8 0, .int .u8 0] 36)).setRow b4 (pl (f k)).toArray = X4 at H2 ⊢
      clear HA HL hix
      have h1 := H2.out
      try simp only [Act.put]
      refine wp_region_held_drew (S := fun V9 => St w [(b4, pxo (f k))] V9) (by kernel_rfl) ?_ (fun hHeld => ?_)
      · first | exact h1.drew | exact h1.drew.tl
      have h10 := h1.drew
      refine wpAnyH_take (i := 0) (oi := { dst := some 11, op := Op.load 36 (Operand.tmp 4), type := 36, pos := "raster.go:80", after := #[], guard := none }) rfl (by kernel_rfl) (by kernel_rfl) (by kernel_rfl) (fun _ _ _ h => h) (yields_load (by kernel_rfl) 36 (.tmp 4) rfl (f k).v (fun V hV => ldp (b := b4) (p := f k) hV (by simp))) (by assumption) ?_
      try simp only [Act.put, List.setIfInBounds_toArray, List.set_cons_zero, List.set_cons_succ]
      refine wpAnyH_take (i := 2) (oi := { dst := some 13, op := Op.load 36 (Operand.tmp 4), type := 36, pos := "raster.go:80", after := #[], guard := none }) rfl (by kernel_rfl) (by kernel_rfl) (by kernel_rfl) (fun _ _ _ h => h) (yields_load (by kernel_rfl) 36 (.tmp 4) rfl (f k).v (fun V hV => ldp (b := b4) (p := f k) hV (by simp))) (by assumption) ?_
      try simp only [Act.put, List.setIfInBounds_toArray, List.set_cons_zero, List.set_cons_succ]
      refine wpAnyH_ready (rs := [1]) (by kernel_rfl) (by simp) (AllReadyH.cons (o := { dst := some 12, op := Op.call { callee := Callee.value (Operand.func 131), args := #[Operand.tmp 11], argTypes := #[36] }, type := 36, pos := "raster.go:80", after := #[{ on := 0, ground := Ground.data }], guard := none }) rfl (fun K hK => ?_) AllReadyH.nil)
      (go_simp; (go_at_call 131; (refine (St.call h10 (clean_any _ _ _ _ _)).mono ?_); rintro e V1r4 ⟨rfl, h11r4⟩))
      refine hK.out _ _ ?_ (fun hHeld => ?_)
      · (first | exact h11r4 | exact h11r4.tl)
      clear hK K
      try simp only [Act.put, List.setIfInBounds_toArray, List.set_cons_zero, List.set_cons_succ]
      refine wpAnyH_take (i := 3) (oi := { dst := some 14, op := Op.binOp BinOp.neq 36 (Operand.tmp 12) (Operand.tmp 13) 36, type := 4, pos := "raster.go:80", after := #[{ on := 1, ground := Ground.data }, { on := 2, ground := Ground.data }], guard := none }) rfl (by kernel_rfl) (by kernel_rfl) (by kernel_rfl) (fun _ _ _ h => h) (yields_bin (by kernel_rfl) .neq 36 (.tmp 12) (.tmp 13) 36 rfl _ _ rfl rfl guard_px (.bool (!(peq (cln (f k)) (f k)))) (fun V => neq_px _ _ V)) (by assumption) ?_
      try simp only [Act.put, List.setIfInBounds_toArray, List.set_cons_zero, List.set_cons_succ]
      refine wpAnyH_done (by kernel_rfl) ?_ _
      have h5 := h11r4
      have H5 := Lib.hid h5.tl
      clear h1 h5 H2
      by_cases he : cln (f k) = f k
      · have hp : peq (cln (f k)) (f k) = true := (peq_iff _ _).2 he
        rw [hp]
        have HC2 : Hid (∀ i, i < k + 1 → cln (f i) = f i) := fun i hi => by
          rcases Nat.lt_or_ge i k with q | q
          · exact HC.out i q
          · have : i = k := by omega
            subst this; exact he
        clear he hp
        go_wp2
        go_roundw
        case rel => exact ⟨k + 1, by omega, by go_num, HC2, H5⟩
        case measure => simp [intOf]; omega
      · have hp : peq (cln (f k)) (f k) = false := by rw [← Bool.not_eq_true, peq_iff]; exact he
        rw [hp]
        have HV : Hid (vtile f = false) := by
          unfold Hid
          rw [← Bool.not_eq_true, vtile_iff]
          rintro ⟨h, _⟩
          exact he (h k hlt)
        clear he hp
        go_wp2
        go_ret
        exact ⟨by rw [HV.out]; rfl, H5.out.below⟩
    · obtain rfl : k = 64 := by omega
      have hl := (HT.out.later HLT.out HW.out.below).all
      have HL := Lib.hid hl
      have HV : Hid (vtile f = !(teq f z0)) := by
        unfold Hid vtile
        have : ((List.range 64).all fun i => peq (cln (f i)) (f i)) = true := by
          rw [List.all_eq_true]; intro i hi; exact (peq_iff _ _).2 (HC.out i (by simpa using hi))
        rw [this, Bool.true_and]
      have HN := Lib.hid (fun V => neq_tile f z0 V)
      clear hl
      generalize teq f z0 = z at *
      go_wp2_with (first
        | (refine wpList_load_of rfl 38 (.tmp 17) rfl _ HL.out ?_)
        | (refine wpList_build0 rfl 38 rfl _ (built0 _) ?_)
        | (refine wpList_bin_of rfl .neq 38 (.tmp 18) (.tmp 19) 38 rfl _ _ rfl rfl guard_tile _ (HN.out _) ?_))
      go_ret
      exact ⟨by rw [HV.out]; rfl, HW.out.below⟩
/-- the element ahead of number k comes before a -/
def prevOk (l : List TA) (k : Nat) (a : TA) : Bool := match k with
  | 0 => true
  | j + 1 => match l[j]? with
    | some d => decide (cmpP d.x d.y a.x a.y < 0)
    | none => true
/-- the element number i is as in a valid raster -/
def okA (l : List TA) (i : Nat) : Bool := match l[i]? with
  | none => true
  | some a => wth 8192 a.x a.y && vtile a.t && prevOk l i a
def vldR (l : List TA) : Bool := decide (l.length ≤ 1024) && (List.range l.length).all (okA l)
theorem vldR_no {l : List TA} {i : Nat} (h : okA l i = false) (hi : i < l.length) : vldR l = false := by
  unfold vldR
  rw [show (List.range l.length).all (okA l) = false from by
    rw [← Bool.not_eq_true, List.all_eq_true]
    intro k
    have := k i (by simpa using hi)
    rw [h] at this; cases this]
  simp
set_option maxHeartbeats 8000000 in
theorem valid_any (p : Option Addr) (n c : Nat) (l : List TA) (w : World) (hr : RS w p n c l) : Calls Tryz.prog 49 #[rv1 p n c] w fun e w' => e = .returned (.bool (vldR l)) ∧ Below w.heap.size w w' := by
  have hs := (St.start w).alloc (rob p n c)
  have HN := Lib.hid hr.len
  have HM := Lib.hid hr.sml
  have HR := Lib.hid hr
  have H1 := Lib.hid hs
  have HC : Hid (∀ V, St w [(w.heap.size, rob p n c)] V → V.cell? ⟨w.heap.size, 0, none⟩ = some (.slice p n c)) := fun V hV => hV.cell (b := w.heap.size) (cs := #[.slice p n c]) (t := 26) (by simp) 0
  have hc := HC.out _ hs
  have hsz := hr.sml
  clear hr hs
  go_enter Tryz.func49, Tryz.ntmps49
  by_cases hbig : (1024 : Int) < (n : Int)
  · have hb2 : decide ((1024 : Int) < (n : Int)) = true := decide_eq_true hbig
    have HV : Hid (vldR l = false) := by
      unfold Hid vldR
      rw [HN.out, decide_eq_false (by omega)]; rfl
    go_wp2
    go_ret
    exact ⟨by rw [HV.out]; rfl, H1.out.below⟩
  · have hb2 : decide ((1024 : Int) < (n : Int)) = false := decide_eq_false hbig
    have HL : Hid (vldR l = (List.range n).all (okA l)) := by
      unfold Hid vldR
      rw [HN.out, decide_eq_true (by omega), Bool.true_and]
    go_upto_region 4 with fail
    have e1 : w.alloc (.cells #[.slice p n c] 26) = w.alloc (rob p n c) := rfl
    try rw [e1]
    clear e1 hc
    generalize w.alloc (rob p n c) = V1 at H1 ⊢
    clear hb2
    go_loopw [11] (fun i wr => ∃ k : Nat, k ≤ n ∧ i = .int .i64 k ∧ Hid (∀ i, i < k → okA l i = true) ∧ Hid (St w [(w.heap.size, rob p n c)] wr)) (fun i _ => n - (intOf i).toNat)
    case atStart => exact ⟨0, by omega, rfl, fun i hi => by omega, H1⟩
    case round =>
      obtain ⟨k, hk, rfl, HO, HT⟩ := hrel
      by_cases hlt : k < n
      · obtain ⟨a, ha⟩ : ∃ a, l[k]? = some a := ⟨l[k]'(by have := HN.out; omega), List.getElem?_eq_getElem _⟩
        have hix := index_ta HR.out hlt
        have hc := HC.out _ HT.out
        have HP := Lib.hid (load_pos (HR.out.later HT.out.below) ha)
        have HK : Hid (okA l k = (wth 8192 a.x a.y && vtile a.t && prevOk l k a)) := by
          unfold Hid okA; rw [ha]
        have HAA := Lib.hid ha
        have HVP : Hid (∀ V, St w [(w.heap.size, rob p n c)] V → Calls Tryz.prog 103 #[pv2 a.x a.y] V fun e w' => e = .returned (.bool (wth 8192 a.x a.y)) ∧ St w [(w.heap.size, rob p n c)] w') := fun V hV => hV.call (vpos_any _ _ V)
        have HVT : Hid (∀ V, St w [(w.heap.size, rob p n c)] V → Calls Tryz.prog 104 #[.pointer (some (pt2 p k))] V fun e w' => e = .returned (.bool (vtile a.t)) ∧ St w [(w.heap.size, rob p n c)] w') := fun V hV => hV.call (vtile_any _ _ _ V ((HR.out.later hV.below).til HAA.out))
        clear ha
        generalize wth 8192 a.x a.y = z1 at HK HVP
        generalize vtile a.t = z2 at HK HVT
        cases z1 with
        | false =>
          have HV := Lib.hid (vldR_no (l := l) (i := k) (by rw [HK.out]; rfl) (by have := HN.out; omega))
          go_wp2_with (first
            | (refine wpList_load_of rfl 40 (.tmp 18) rfl _ HP.out ?_)
            | (go_at_call 103; (refine (HVP.out _ HT.out).mono ?_); rintro e w3 ⟨rfl, h3⟩))
          go_ret
          exact ⟨by rw [HV.out]; rfl, h3.below⟩
        | true =>
          cases z2 with
          | false =>
            have HV := Lib.hid (vldR_no (l := l) (i := k) (by rw [HK.out]; rfl) (by have := HN.out; omega))
            go_wp2_with (first
              | (refine wpList_load_of rfl 40 (.tmp 18) rfl _ HP.out ?_)
              | (go_at_call 103; (refine (HVP.out _ HT.out).mono ?_); rintro e w3 ⟨rfl, h3⟩; have hc3 := HC.out _ h3)
              | (go_at_call 104; (refine (HVT.out _ h3).mono ?_); rintro e w4 ⟨rfl, h4⟩))
            go_ret
            exact ⟨by rw [HV.out]; rfl, h4.below⟩
          | true =>
            go_upto_region 8 with (first
              | (refine wpList_load_of rfl 40 (.tmp 18) rfl _ HP.out ?_)
              | (go_at_call 103; (refine (HVP.out _ HT.out).mono ?_); rintro e w3 ⟨rfl, h3⟩; have hc3 := HC.out _ h3)
              | (go_at_call 104; (refine (HVT.out _ h3).mono ?_); rintro e w4 ⟨rfl, h4⟩; clear h3 hc3))
            have h3 := h4
            clear hc hix HVP HVT HP h4
            have hn1 := HAA.out
            cases k with
            | zero =>
              have HO2 : Hid (∀ i, i < 0 + 1 → okA l i = true) := fun i hi => by
                obtain rfl : i = 0 := by omega
                rw [HK.out]; rfl
              have ha := HAA.out
              clear HK hn1
              refine wp_region_held_drew (S := fun V9 => St w [(w.heap.size, rob p n c)] V9) (by kernel_rfl) ?_ (fun hHeld => ?_)
              · first | exact h3.drew | exact h3.drew.tl
              have h30 := h3.drew
              refine wpAnyH_take (i := 0) (oi := { dst := some 31, op := Op.move (Operand.tmp 3), type := 3, pos := "raster.go:24", after := #[], guard := none }) (v := ?_) rfl (by kernel_rfl) (by kernel_rfl) (by kernel_rfl) (fun _ _ _ h => h) (Or.inl ⟨by kernel_rfl, ?_⟩) (by assumption) ?_
              rotate_left 1
              focus (intro w hSw; (try dsimp only at hSw); go_simp; (try with_reducible rfl))
              try simp only [Act.put, List.setIfInBounds_toArray, List.set_cons_zero, List.set_cons_succ]
              refine wpAnyH_take (i := 1) (oi := { dst := some 32, op := Op.binOp BinOp.gtr 3 (Operand.tmp 31) (Operand.const (Value.int IntKind.i64 0)) 3, type := 4, pos := "raster.go:24", after := #[{ on := 0, ground := Ground.data }], guard := none }) (v := ?_) rfl (by kernel_rfl) (by kernel_rfl) (by kernel_rfl) (fun _ _ _ h => h) (Or.inl ⟨by kernel_rfl, ?_⟩) (by assumption) ?_
              rotate_left 1
              focus (intro w hSw; (try dsimp only at hSw); go_simp; (try with_reducible rfl))
              try simp only [Act.put, List.setIfInBounds_toArray, List.set_cons_zero, List.set_cons_succ]
              refine wpAnyH_take (i := 2) (oi := { dst := some 33, op := Op.move (Operand.tmp 32), type := 4, pos := "raster.go:24", after := #[{ on := 1, ground := Ground.data }], guard := none }) (v := ?_) rfl (by kernel_rfl) (by kernel_rfl) (by kernel_rfl) (fun _ _ _ h => h) (Or.inl ⟨by kernel_rfl, ?_⟩) (by assumption) ?_
              rotate_left 1
              focus (intro w hSw; (try dsimp only at hSw); go_simp; (try with_reducible rfl))
              try simp only [Act.put, List.setIfInBounds_toArray, List.set_cons_zero, List.set_cons_succ]
              refine wpAnyH_take (i := 3) (oi := { dst := some 34, op := Op.fieldAddr 26 (Operand.tmp 1) 0, type := 0, pos := "raster.go:24", after := #[{ on := 2, ground := Ground.guard }], guard := some (2, true) }) rfl (by kernel_rfl) (by kernel_rfl) (by kernel_rfl) (fun _ _ _ h => h) (Or.inr ⟨by kernel_rfl, rfl⟩) (by assumption) ?_
              try simp only [Act.put, List.setIfInBounds_toArray, List.set_cons_zero, List.set_cons_succ]
              refine wpAnyH_take (i := 4) (oi := { dst := some 35, op := Op.load 24 (Operand.tmp 34), type := 24, pos := "raster.go:24", after := #[{ on := 3, ground := Ground.data }, { on := 2, ground := Ground.guard }], guard := some (2, true) }) rfl (by kernel_rfl) (by kernel_rfl) (by kernel_rfl) (fun _ _ _ h => h) (Or.inr ⟨by kernel_rfl, rfl⟩) (by assumption) ?_
              try simp only [Act.put, List.setIfInBounds_toArray, List.set_cons_zero, List.set_cons_succ]
              refine wpAnyH_take (i := 5) (oi := { dst := some 36, op := Op.move (Operand.tmp 3), type := 3, pos := "raster.go:24", after := #[{ on := 2, ground := Ground.guard }], guard := some (2, true) }) rfl (by kernel_rfl) (by kernel_rfl) (by kernel_rfl) (fun _ _ _ h => h) (Or.inr ⟨by kernel_rfl, rfl⟩) (by assumption) ?_
              try simp only [Act.put, List.setIfInBounds_toArray, List.set_cons_zero, List.set_cons_succ]
              refine wpAnyH_take (i := 6) (oi := { dst := some 37, op := Op.binOp BinOp.sub 3 (Operand.tmp 36) (Operand.const (Value.int IntKind.i64 1)) 3, type := 3, pos := "raster.go:24", after := #[{ on := 5, ground := Ground.data }, { on := 2, ground := Ground.guard }], guard := some (2, true) }) rfl (by kernel_rfl) (by kernel_rfl) (by kernel_rfl) (fun _ _ _ h => h) (Or.inr ⟨by kernel_rfl, rfl⟩) (by assumption) ?_
              try simp only [Act.put, List.setIfInBounds_toArray, List.set_cons_zero, List.set_cons_succ]
              refine wpAnyH_take (i := 7) (oi := { dst := some 38, op := Op.indexAddr 24 (Operand.tmp 35) (Operand.tmp 37), type := 0, pos := "raster.go:24", after := #[{ on := 4, ground := Ground.data }, { on := 6, ground := Ground.data }, { on := 2, ground := Ground.guard }], guard := some (2, true) }) rfl (by kernel_rfl) (by kernel_rfl) (by kernel_rfl) (fun _ _ _ h => h) (Or.inr ⟨by kernel_rfl, rfl⟩) (by assumption) ?_
              try simp only [Act.put, List.setIfInBounds_toArray, List.set_cons_zero, List.set_cons_succ]
              refine wpAnyH_take (i := 8) (oi := { dst := some 39, op := Op.fieldAddr 42 (Operand.tmp 38) 0, type := 0, pos := "raster.go:24", after := #[{ on := 7, ground := Ground.data }, { on := 2, ground := Ground.guard }], guard := some (2, true) }) rfl (by kernel_rfl) (by kernel_rfl) (by kernel_rfl) (fun _ _ _ h => h) (Or.inr ⟨by kernel_rfl, rfl⟩) (by assumption) ?_
              try simp only [Act.put, List.setIfInBounds_toArray, List.set_cons_zero, List.set_cons_succ]
              refine wpAnyH_take (i := 9) (oi := { dst := some 40, op := Op.load 40 (Operand.tmp 39), type := 40, pos := "raster.go:24", after := #[{ on := 8, ground := Ground.data }, { on := 2, ground := Ground.guard }], guard := some (2, true) }) rfl (by kernel_rfl) (by kernel_rfl) (by kernel_rfl) (fun _ _ _ h => h) (Or.inr ⟨by kernel_rfl, rfl⟩) (by assumption) ?_
              try simp only [Act.put, List.setIfInBounds_toArray, List.set_cons_zero, List.set_cons_succ]
              refine wpAnyH_take (i := 10) (oi := { dst := some 41, op := Op.fieldAddr 26 (Operand.tmp 1) 0, type := 0, pos := "raster.go:24", after := #[{ on := 2, ground := Ground.guard }], guard := some (2, true) }) rfl (by kernel_rfl) (by kernel_rfl) (by kernel_rfl) (fun _ _ _ h => h) (Or.inr ⟨by kernel_rfl, rfl⟩) (by assumption) ?_
              try simp only [Act.put, List.setIfInBounds_toArray, List.set_cons_zero, List.set_cons_succ]
              refine wpAnyH_take (i := 11) (oi := { dst := some 42, op := Op.load 24 (Operand.tmp 41), type := 24, pos := "raster.go:24", after := #[{ on := 10, ground := Ground.data }, { on := 2, ground := Ground.guard }], guard := some (2, true) }) rfl (by kernel_rfl) (by kernel_rfl) (by kernel_rfl) (fun _ _ _ h => h) (Or.inr ⟨by kernel_rfl, rfl⟩) (by assumption) ?_
              try simp only [Act.put, List.setIfInBounds_toArray, List.set_cons_zero, List.set_cons_succ]
              refine wpAnyH_take (i := 12) (oi := { dst := some 43, op := Op.move (Operand.tmp 3), type := 3, pos := "raster.go:24", after := #[{ on := 2, ground := Ground.guard }], guard := some (2, true) }) rfl (by kernel_rfl) (by kernel_rfl) (by kernel_rfl) (fun _ _ _ h => h) (Or.inr ⟨by kernel_rfl, rfl⟩) (by assumption) ?_
              try simp only [Act.put, List.setIfInBounds_toArray, List.set_cons_zero, List.set_cons_succ]
              refine wpAnyH_take (i := 13) (oi := { dst := some 44, op := Op.indexAddr 24 (Operand.tmp 42) (Operand.tmp 43), type := 0, pos := "raster.go:24", after := #[{ on := 11, ground := Ground.data }, { on := 12, ground := Ground.data }, { on := 2, ground := Ground.guard }], guard := some (2, true) }) rfl (by kernel_rfl) (by kernel_rfl) (by kernel_rfl) (fun _ _ _ h => h) (Or.inr ⟨by kernel_rfl, rfl⟩) (by assumption) ?_
              try simp only [Act.put, List.setIfInBounds_toArray, List.set_cons_zero, List.set_cons_succ]
              refine wpAnyH_take (i := 14) (oi := { dst := some 45, op := Op.fieldAddr 42 (Operand.tmp 44) 0, type := 0, pos := "raster.go:24", after := #[{ on := 13, ground := Ground.data }, { on := 2, ground := Ground.guard }], guard := some (2, true) }) rfl (by kernel_rfl) (by kernel_rfl) (by kernel_rfl) (fun _ _ _ h => h) (Or.inr ⟨by kernel_rfl, rfl⟩) (by assumption) ?_
              try simp only [Act.put, List.setIfInBounds_toArray, List.set_cons_zero, List.set_cons_succ]
              refine wpAnyH_take (i := 15) (oi := { dst := some 46, op := Op.load 40 (Operand.tmp 45), type := 40, pos := "raster.go:24", after := #[{ on := 14, ground := Ground.data }, { on := 2, ground := Ground.guard }], guard := some (2, true) }) rfl (by kernel_rfl) (by kernel_rfl) (by kernel_rfl) (fun _ _ _ h => h) (Or.inr ⟨by kernel_rfl, rfl⟩) (by assumption) ?_
              try simp only [Act.put, List.setIfInBounds_toArray, List.set_cons_zero, List.set_cons_succ]
              refine wpAnyH_take (i := 16) (oi := { dst := some 47, op := Op.call { callee := Callee.value (Operand.func 105), args := #[Operand.tmp 40, Operand.tmp 46], argTypes := #[40, 40] }, type := 3, pos := "raster.go:24", after := #[{ on := 9, ground := Ground.data }, { on := 15, ground := Ground.data }, { on := 2, ground := Ground.chain }, { on := 2, ground := Ground.guard }], guard := some (2, true) }) rfl (by kernel_rfl) (by kernel_rfl) (by kernel_rfl) (fun _ _ _ h => h) (Or.inr ⟨by kernel_rfl, rfl⟩) (by assumption) ?_
              try simp only [Act.put, List.setIfInBounds_toArray, List.set_cons_zero, List.set_cons_succ]
              refine wpAnyH_take (i := 17) (oi := { dst := some 48, op := Op.binOp BinOp.geq 3 (Operand.tmp 47) (Operand.const (Value.int IntKind.i64 0)) 3, type := 4, pos := "raster.go:24", after := #[{ on := 16, ground := Ground.data }, { on := 2, ground := Ground.guard }], guard := some (2, true) }) rfl (by kernel_rfl) (by kernel_rfl) (by kernel_rfl) (fun _ _ _ h => h) (Or.inr ⟨by kernel_rfl, rfl⟩) (by assumption) ?_
              try simp only [Act.put, List.setIfInBounds_toArray, List.set_cons_zero, List.set_cons_succ]
              refine wpAnyH_take (i := 18) (oi := { dst := some 49, op := Op.pick (Operand.tmp 33) (Operand.tmp 48) (Operand.const (Value.bool false)), type := 4, pos := "raster.go:24", after := #[{ on := 2, ground := Ground.data }, { on := 17, ground := Ground.data }], guard := none }) (v := ?_) rfl (by kernel_rfl) (by kernel_rfl) (by kernel_rfl) (fun _ _ _ h => h) (Or.inl ⟨by kernel_rfl, ?_⟩) (by assumption) ?_
              rotate_left 1
              focus (intro w hSw; (try dsimp only at hSw); go_simp; (try with_reducible rfl))
              try simp only [Act.put, List.setIfInBounds_toArray, List.set_cons_zero, List.set_cons_succ]
              refine wpAnyH_done (by kernel_rfl) ?_ _
              have h5 := h30
              have H5 := Lib.hid h5
              clear h3 h5
              go_wp2
              go_roundw
              case rel => exact ⟨0 + 1, by omega, by go_num, HO2, H5⟩
              case measure => simp [intOf]; omega
            | succ j =>
              obtain ⟨d, hd⟩ : ∃ d, l[j]? = some d := ⟨l[j]'(by have := HN.out; omega), List.getElem?_eq_getElem _⟩
              have ha := HAA.out
              have hjx := index_ta HR.out (i := j) (by omega)
              have hkx : ∀ w, (Instr.indexAt 24 (.slice p n c) (.int .i64 ((j : Int) + 1))).run Tryz.prog w = .ok (.pointer (some (pe p (258 * (j + 1))))) w := fun w => index_ta HR.out (i := j + 1) (by omega) w
              have hsub : wrap64 (((j + 1 : Nat) : Int) - 1) = (j : Int) := by unfold wrap64; omega
              have HQ : Hid (okA l (j + 1) = decide (cmpP d.x d.y a.x a.y < 0)) := by
                unfold Hid
                rw [HK.out]
                show (true && true && (match l[j]? with | some d => decide (cmpP d.x d.y a.x a.y < 0) | none => true)) = _
                rw [hd]; rfl
              clear HK hn1
              refine wp_region_held_drew (S := fun V9 => St w [(w.heap.size, rob p n c)] V9) (by kernel_rfl) ?_ (fun hHeld => ?_)
              · first | exact h3.drew | exact h3.drew.tl
              have h30 := h3.drew
              refine wpAnyH_take (i := 0) (oi := { dst := some 31, op := Op.move (Operand.tmp 3), type := 3, pos := "raster.go:24", after := #[], guard := none }) (v := ?_) rfl (by kernel_rfl) (by kernel_rfl) (by kernel_rfl) (fun _ _ _ h => h) (Or.inl ⟨by kernel_rfl, ?_⟩) (by assumption) ?_
              rotate_left 1
              focus (intro w hSw; (try dsimp only at hSw); go_simp; (try with_reducible rfl))
              try simp only [Act.put, List.setIfInBounds_toArray, List.set_cons_zero, List.set_cons_succ]
              refine wpAnyH_take (i := 1) (oi := { dst := some 32, op := Op.binOp BinOp.gtr 3 (Operand.tmp 31) (Operand.const (Value.int IntKind.i64 0)) 3, type := 4, pos := "raster.go:24", after := #[{ on := 0, ground := Ground.data }], guard := none }) (v := ?_) rfl (by kernel_rfl) (by kernel_rfl) (by kernel_rfl) (fun _ _ _ h => h) (Or.inl ⟨by kernel_rfl, ?_⟩) (by assumption) ?_
              rotate_left 1
              focus (intro w hSw; (try dsimp only at hSw); go_simp; (try with_reducible rfl))
              try simp only [Act.put, List.setIfInBounds_toArray, List.set_cons_zero, List.set_cons_succ]
              refine wpAnyH_take (i := 2) (oi := { dst := some 33, op := Op.move (Operand.tmp 32), type := 4, pos := "raster.go:24", after := #[{ on := 1, ground := Ground.data }], guard := none }) (v := ?_) rfl (by kernel_rfl) (by kernel_rfl) (by kernel_rfl) (fun _ _ _ h => h) (Or.inl ⟨by kernel_rfl, ?_⟩) (by assumption) ?_
              rotate_left 1
              focus (intro w hSw; (try dsimp only at hSw); go_simp; (try with_reducible rfl))
              try simp only [Act.put, List.setIfInBounds_toArray, List.set_cons_zero, List.set_cons_succ]
              refine wpAnyH_take (i := 3) (oi := { dst := some 34, op := Op.fieldAddr 26 (Operand.tmp 1) 0, type := 0, pos := "raster.go:24", after := #[{ on := 2, ground := Ground.guard }], guard := some (2, true) }) (v := ?_) rfl (by kernel_rfl) (by kernel_rfl) (by kernel_rfl) (fun _ _ _ h => h) (Or.inl ⟨by kernel_rfl, ?_⟩) (by assumption) ?_
              rotate_left 1
              focus (intro w hSw; (try dsimp only at hSw); go_simp; (try with_reducible rfl))
              try simp only [Act.put, List.setIfInBounds_toArray, List.set_cons_zero, List.set_cons_succ]
              refine wpAnyH_take (i := 4) (oi := { dst := some 35, op := Op.load 24 (Operand.tmp 34), type := 24, pos := "raster.go:24", after := #[{ on := 3, ground := Ground.data }, { on := 2, ground := Ground.guard }], guard := some (2, true) }) rfl (by kernel_rfl) (by kernel_rfl) (by kernel_rfl) (fun _ _ _ h => h) (yields_load (by kernel_rfl) 24 (.tmp 34) rfl (.slice p n c) (fun V9 hV => ld_slc (hV.row (b := w.heap.size) (o := rob p n c) (by simp)))) (by assumption) ?_
              try simp only [Act.put, List.setIfInBounds_toArray, List.set_cons_zero, List.set_cons_succ]
              refine wpAnyH_take (i := 5) (oi := { dst := some 36, op := Op.move (Operand.tmp 3), type := 3, pos := "raster.go:24", after := #[{ on := 2, ground := Ground.guard }], guard := some (2, true) }) (v := ?_) rfl (by kernel_rfl) (by kernel_rfl) (by kernel_rfl) (fun _ _ _ h => h) (Or.inl ⟨by kernel_rfl, ?_⟩) (by assumption) ?_
              rotate_left 1
              focus (intro w hSw; (try dsimp only at hSw); go_simp; (try with_reducible rfl))
              try simp only [Act.put, List.setIfInBounds_toArray, List.set_cons_zero, List.set_cons_succ]
              refine wpAnyH_take (i := 6) (oi := { dst := some 37, op := Op.binOp BinOp.sub 3 (Operand.tmp 36) (Operand.const (Value.int IntKind.i64 1)) 3, type := 3, pos := "raster.go:24", after := #[{ on := 5, ground := Ground.data }, { on := 2, ground := Ground.guard }], guard := some (2, true) }) (v := .int .i64 (j : Int)) rfl (by kernel_rfl) (by kernel_rfl) (by kernel_rfl) (fun _ _ _ h => h) (Or.inl ⟨by kernel_rfl, ?_⟩) (by assumption) ?_
              focus (intro w hSw; (try dsimp only at hSw); go_simp; (rw [IntKind.wrap_i64]; omega))
              try simp only [Act.put, List.setIfInBounds_toArray, List.set_cons_zero, List.set_cons_succ]
              refine wpAnyH_take (i := 7) (oi := { dst := some 38, op := Op.indexAddr 24 (Operand.tmp 35) (Operand.tmp 37), type := 0, pos := "raster.go:24", after := #[{ on := 4, ground := Ground.data }, { on := 6, ground := Ground.data }, { on := 2, ground := Ground.guard }], guard := some (2, true) }) (v := ?_) rfl (by kernel_rfl) (by kernel_rfl) (by kernel_rfl) (fun _ _ _ h => h) (Or.inl ⟨by kernel_rfl, ?_⟩) (by assumption) ?_
              rotate_left 1
              focus (intro w hSw; (try dsimp only at hSw); go_simp; (try with_reducible rfl))
              try simp only [Act.put, List.setIfInBounds_toArray, List.set_cons_zero, List.set_cons_succ]
              refine wpAnyH_take (i := 8) (oi := { dst := some 39, op := Op.fieldAddr 42 (Operand.tmp 38) 0, type := 0, pos := "raster.go:24", after := #[{ on := 7, ground := Ground.data }, { on := 2, ground := Ground.guard }], guard := some (2, true) }) (v := ?_) rfl (by kernel_rfl) (by kernel_rfl) (by kernel_rfl) (fun _ _ _ h => h) (Or.inl ⟨by kernel_rfl, ?_⟩) (by assumption) ?_
              rotate_left 1
              focus (intro w hSw; (try dsimp only at hSw); go_simp; (try with_reducible rfl))
              try simp only [Act.put, List.setIfInBounds_toArray, List.set_cons_zero, List.set_cons_succ]
              refine wpAnyH_take (i := 9) (oi := { dst := some 40, op := Op.load 40 (Operand.tmp 39), type := 40, pos := "raster.go:24", after := #[{ on := 8, ground := Ground.data }, { on := 2, ground := Ground.guard }], guard := some (2, true) }) rfl (by kernel_rfl) (by kernel_rfl) (by kernel_rfl) (fun _ _ _ h => h) (yields_load (by kernel_rfl) 40 (.tmp 39) rfl (pv2 d.x d.y) (fun V9 hV => load_pos (HR.out.later hV.below) hd)) (by assumption) ?_
              try simp only [Act.put, List.setIfInBounds_toArray, List.set_cons_zero, List.set_cons_succ]
              refine wpAnyH_take (i := 10) (oi := { dst := some 41, op := Op.fieldAddr 26 (Operand.tmp 1) 0, type := 0, pos := "raster.go:24", after := #[{ on := 2, ground := Ground.guard }], guard := some (2, true) }) (v := ?_) rfl (by kernel_rfl) (by kernel_rfl) (by kernel_rfl) (fun _ _ _ h => h) (Or.inl ⟨by kernel_rfl, ?_⟩) (by assumption) ?_
              rotate_left 1
              focus (intro w hSw; (try dsimp only at hSw); go_simp; (try with_reducible rfl))
              try simp only [Act.put, List.setIfInBounds_toArray, List.set_cons_zero, List.set_cons_succ]
              refine wpAnyH_take (i := 11) (oi := { dst := some 42, op := Op.load 24 (Operand.tmp 41), type := 24, pos := "raster.go:24", after := #[{ on := 10, ground := Ground.data }, { on := 2, ground := Ground.guard }], guard := some (2, true) }) rfl (by kernel_rfl) (by kernel_rfl) (by kernel_rfl) (fun _ _ _ h => h) (yields_load (by kernel_rfl) 24 (.tmp 41) rfl (.slice p n c) (fun V9 hV => ld_slc (hV.row (b := w.heap.size) (o := rob p n c) (by simp)))) (by assumption) ?_
              try simp only [Act.put, List.setIfInBounds_toArray, List.set_cons_zero, List.set_cons_succ]
              refine wpAnyH_take (i := 12) (oi := { dst := some 43, op := Op.move (Operand.tmp 3), type := 3, pos := "raster.go:24", after := #[{ on := 2, ground := Ground.guard }], guard := some (2, true) }) (v := ?_) rfl (by kernel_rfl) (by kernel_rfl) (by kernel_rfl) (fun _ _ _ h => h) (Or.inl ⟨by kernel_rfl, ?_⟩) (by assumption) ?_
              rotate_left 1
              focus (intro w hSw; (try dsimp only at hSw); go_simp; (try with_reducible rfl))
              try simp only [Act.put, List.setIfInBounds_toArray, List.set_cons_zero, List.set_cons_succ]
              refine wpAnyH_take (i := 13) (oi := { dst := some 44, op := Op.indexAddr 24 (Operand.tmp 42) (Operand.tmp 43), type := 0, pos := "raster.go:24", after := #[{ on := 11, ground := Ground.data }, { on := 12, ground := Ground.data }, { on := 2, ground := Ground.guard }], guard := some (2, true) }) (v := ?_) rfl (by kernel_rfl) (by kernel_rfl) (by kernel_rfl) (fun _ _ _ h => h) (Or.inl ⟨by kernel_rfl, ?_⟩) (by assumption) ?_
              rotate_left 1
              focus (intro w hSw; (try dsimp only at hSw); go_simp; (try with_reducible rfl))
              try simp only [Act.put, List.setIfInBounds_toArray, List.set_cons_zero, List.set_cons_succ]
              refine wpAnyH_take (i := 14) (oi := { dst := some 45, op := Op.fieldAddr 42 (Operand.tmp 44) 0, type := 0, pos := "raster.go:24", after := #[{ on := 13, ground := Ground.data }, { on := 2, ground := Ground.guard }], guard := some (2, true) }) (v := ?_) rfl (by kernel_rfl) (by kernel_rfl) (by kernel_rfl) (fun _ _ _ h => h) (Or.inl ⟨by kernel_rfl, ?_⟩) (by assumption) ?_
              rotate_left 1
              focus (intro w hSw; (try dsimp only at hSw); go_simp; (try with_reducible rfl))
              try simp only [Act.put, List.setIfInBounds_toArray, List.set_cons_zero, List.set_cons_succ]
              refine wpAnyH_take (i := 15) (oi := { dst := some 46, op := Op.load 40 (Operand.tmp 45), type := 40, pos := "raster.go:24", after := #[{ on := 14, ground := Ground.data }, { on := 2, ground := Ground.guard }], guard := some (2, true) }) rfl (by kernel_rfl) (by kernel_rfl) (by kernel_rfl) (fun _ _ _ h => h) (yields_load (by kernel_rfl) 40 (.tmp 45) rfl (pv2 a.x a.y) (fun V9 hV => load_pos (HR.out.later hV.below) ha)) (by assumption) ?_
              try simp only [Act.put, List.setIfInBounds_toArray, List.set_cons_zero, List.set_cons_succ]
              refine wpAnyH_ready (rs := [16]) (by kernel_rfl) (by simp) (AllReadyH.cons (o := { dst := some 47, op := Op.call { callee := Callee.value (Operand.func 105), args := #[Operand.tmp 40, Operand.tmp 46], argTypes := #[40, 40] }, type := 3, pos := "raster.go:24", after := #[{ on := 9, ground := Ground.data }, { on := 15, ground := Ground.data }, { on := 2, ground := Ground.chain }, { on := 2, ground := Ground.guard }], guard := some (2, true) }) rfl (fun K hK => ?_) AllReadyH.nil)
              (go_simp; (go_at_call 105; (refine (St.call h30 (cmpP_any _ _ _ _ _)).mono ?_); rintro e V1r8 ⟨rfl, h31r8⟩))
              refine hK.out _ _ ?_ (fun hHeld => ?_)
              · (first | exact h31r8 | exact h31r8.tl)
              clear hK K
              try simp only [Act.put, List.setIfInBounds_toArray, List.set_cons_zero, List.set_cons_succ]
              refine wpAnyH_take (i := 17) (oi := { dst := some 48, op := Op.binOp BinOp.geq 3 (Operand.tmp 47) (Operand.const (Value.int IntKind.i64 0)) 3, type := 4, pos := "raster.go:24", after := #[{ on := 16, ground := Ground.data }, { on := 2, ground := Ground.guard }], guard := some (2, true) }) (v := ?_) rfl (by kernel_rfl) (by kernel_rfl) (by kernel_rfl) (fun _ _ _ h => h) (Or.inl ⟨by kernel_rfl, ?_⟩) (by assumption) ?_
              rotate_left 1
              focus (intro w hSw; (try dsimp only at hSw); go_simp; (try with_reducible rfl))
              try simp only [Act.put, List.setIfInBounds_toArray, List.set_cons_zero, List.set_cons_succ]
              refine wpAnyH_take (i := 18) (oi := { dst := some 49, op := Op.pick (Operand.tmp 33) (Operand.tmp 48) (Operand.const (Value.bool false)), type := 4, pos := "raster.go:24", after := #[{ on := 2, ground := Ground.data }, { on := 17, ground := Ground.data }], guard := none }) (v := ?_) rfl (by kernel_rfl) (by kernel_rfl) (by kernel_rfl) (fun _ _ _ h => h) (Or.inl ⟨by kernel_rfl, ?_⟩) (by assumption) ?_
              rotate_left 1
              focus (intro w hSw; (try dsimp only at hSw); go_simp; (try with_reducible rfl))
              try simp only [Act.put, List.setIfInBounds_toArray, List.set_cons_zero, List.set_cons_succ]
              refine wpAnyH_done (by kernel_rfl) ?_ _
              have h5 := h31r8
              have H5 := Lib.hid h5
              clear h3 h5 hjx hkx hsub ha hd
              have hbd := cmpP_bd d.x d.y a.x a.y
              generalize cmpP d.x d.y a.x a.y = q at *
              by_cases hq : q < 0
              · have HO2 : Hid (∀ i, i < j + 1 + 1 → okA l i = true) := fun i hi => by
                  rcases Nat.lt_or_ge i (j + 1) with r | r
                  · exact HO.out i r
                  · obtain rfl : i = j + 1 := by omega
                    rw [HQ.out, decide_eq_true hq]
                have hq2 : decide (0 ≤ q) = false := decide_eq_false (by omega)
                clear HQ
                go_wp2
                go_roundw
                case rel => exact ⟨j + 1 + 1, by omega, by go_num, HO2, H5⟩
                case measure => simp [intOf]; omega
              · have HV := Lib.hid (vldR_no (l := l) (i := j + 1) (by rw [HQ.out, decide_eq_false hq]) (by have := HN.out; omega))
                have hq2 : decide (0 ≤ q) = true := decide_eq_true (by omega)
                clear HQ
                go_wp2
                go_ret
                exact ⟨by rw [HV.out]; rfl, H5.out.below⟩
      · obtain rfl : k = n := by omega
        have HV : Hid (vldR l = true) := by
          unfold Hid
          rw [HL.out, List.all_eq_true]
          intro i hi
          exact HO.out i (by simpa using hi)
        go_wp2
        go_ret
        exact ⟨by rw [HV.out]; rfl, HT.out.below⟩
/-- the tiles of a raster as all but Valid, Get and Tile see it -/
def vts (l : List TA) : List TA := if vldR l then l else []
theorem okA_wth {l : List TA} {i : Nat} {a : TA} (h : okA l i = true) (ha : l[i]? = some a) : wth 8192 a.x a.y = true ∧ vtile a.t = true ∧ prevOk l i a = true := by
  unfold okA at h
  rw [ha] at h
  simpa [Bool.and_eq_true, and_assoc] using h
theorem vldR_iff (l : List TA) : vldR l = true ↔ l.length ≤ 1024 ∧ ∀ i, i < l.length → okA l i = true := by
  unfold vldR; simp [List.all_eq_true]
theorem inc_of {l : List TA} (h : ∀ i, i < l.length → okA l i = true) : Inc l := by
  unfold Inc
  rw [List.pairwise_iff_getElem]
  intro i j hi hj hij
  induction j with
  | zero => omega
  | succ j ih =>
    have ha : l[j + 1]? = some l[j + 1] := List.getElem?_eq_getElem hj
    have hd : l[j]? = some l[j] := List.getElem?_eq_getElem (by omega)
    have h2 := (okA_wth (h (j + 1) hj) ha).2.2
    have h3 : cmpP l[j].x l[j].y l[j + 1].x l[j + 1].y < 0 := by
      have : (match l[j]? with | some d => decide (cmpP d.x d.y l[j + 1].x l[j + 1].y < 0) | none => true) = true := h2
      rw [hd] at this
      simpa using this
    rcases Nat.lt_or_ge i j with q | q
    · exact cmpP_trans (ih (by omega) q) h3
    · obtain rfl : i = j := by omega
      exact h3
theorem vts_inc (l : List TA) : Inc (vts l) := by
  unfold vts
  split
  · rename_i h; exact inc_of ((vldR_iff l).1 h).2
  · exact List.Pairwise.nil
/-- the slice of these tiles -/
def vq (l : List TA) (p : Option Addr) : Option Addr := if vldR l then p else none
def vk (l : List TA) (n : Nat) : Nat := if vldR l then n else 0
theorem vts_rs {p : Option Addr} {n c : Nat} {l : List TA} (h : RS w p n c l) : RS w (vq l p) (vk l n) (vk l c) (vts l) := by
  unfold vq vk vts
  split
  · exact h
  · exact RS.nil w
set_option maxHeartbeats 2000000 in
theorem vts_any (p : Option Addr) (n c : Nat) (l : List TA) (w : World) (hr : RS w p n c l) : Calls Tryz.prog 72 #[rv1 p n c] w fun e w' => e = .returned (.slice (vq l p) (vk l n) (vk l c)) ∧ Below w.heap.size w w' := by
  have hs := (St.start w).alloc (rob p n c)
  have HL : Hid (∀ V, St w [(w.heap.size, rob p n c)] V → (Instr.loadAt 26 (.pointer (some ⟨w.heap.size, 0, none⟩))).run Tryz.prog V = .ok (rv1 p n c) V) := fun V hV => by
    have h2 : V.rangeAt w.heap.size 0 [.slice p n c] := fun j v hv => by
      rw [Nat.zero_add, cell_of_row V _ j _ _ (0, 0) (hV.row (b := w.heap.size) (o := rob p n c) (by simp))]; simpa using hv
    exact run_loadAt_mid V _ 0 26 _ _ h2 Tryz.underlying26 rfl (by kernel_rfl)
  have HC : Hid (∀ V, St w [(w.heap.size, rob p n c)] V → V.cell? ⟨w.heap.size, 0, none⟩ = some (.slice p n c)) := fun V hV => hV.cell (b := w.heap.size) (cs := #[.slice p n c]) (t := 26) (by simp) 0
  have HX : Hid (∀ V, St w [(w.heap.size, rob p n c)] V → Calls Tryz.prog 49 #[rv1 p n c] V fun e w' => e = .returned (.bool (vldR l)) ∧ St w [(w.heap.size, rob p n c)] w') := fun V hV => hV.call (valid_any p n c l V (hr.later hV.below))
  have HR := Lib.hid hr
  have H1 := Lib.hid hs
  have HV : Hid (Value.slice (vq l p) (vk l n) (vk l c) = if vldR l then .slice p n c else .slice none 0 0) := by
    unfold Hid vq vk; split <;> rfl
  clear hr hs
  go_enter Tryz.func72, Tryz.ntmps72
  go_upto_region 1 with fail
  have e1 : w.alloc (.cells #[.slice p n c] 26) = w.alloc (rob p n c) := rfl
  try rw [e1]
  clear e1
  generalize w.alloc (rob p n c) = V1 at H1 ⊢
  generalize vldR l = z at *
  cases z with
  | false =>
    go_wp2_with (first
      | (refine wpList_load_of rfl 26 (.tmp 1) rfl _ (HL.out _ H1.out) ?_)
      | (go_at_call 49; (refine (HX.out _ H1.out).mono ?_); rintro e w3 ⟨rfl, h3⟩))
    go_ret
    exact ⟨by rw [HV.out]; rfl, h3.below⟩
  | true =>
    go_wp2_with (first
      | (refine wpList_load_of rfl 26 (.tmp 1) rfl _ (HL.out _ H1.out) ?_)
      | (go_at_call 49; (refine (HX.out _ H1.out).mono ?_); rintro e w3 ⟨rfl, h3⟩; have hc3 := HC.out _ h3))
    go_ret
    exact ⟨by rw [HV.out]; rfl, h3.below⟩
end Go.Proofs.YtfncldaodbfakaaGreat.Q
