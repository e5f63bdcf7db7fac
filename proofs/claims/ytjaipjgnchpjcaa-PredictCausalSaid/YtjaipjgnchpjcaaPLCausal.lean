/-
  PredictCausal: a change of the pixel number n changes no residual before n of any plane, and the residual n of a plane if and only if the pixel's value of that plane.
-/
import Derived.Test.YtjaipjgnchpjcaaPLaw
import Derived.Test.YtjaipjgnchpjcaaPCau
namespace Go.Proofs.Ytjaipjgnchpjcaa.P.PLCausal
open Go.ChangeShapes Go.WideShapes Go.ChangeAt Go.RowKit Go.Shelf T
open Go.ChangeMaps (open_string)
set_option maxRecDepth 100000

theorem str_at (l : List UInt8) (n : Nat) (_h : n < l.length) (hn : n < (str l).size) : (str l)[n] = l[n] := List.getElem_toArray ..
theorem idx_l (l : List UInt8) (i : Nat) (h : i < l.length) (W : World) : (Instr.index 9 (.string (str l)) (.int .i64 (i : Int))).run Try.prog W = .ok (.int .u8 ((l[i]).toNat : Int)) W := by
  rw [run_index_string W _ _ .i64 _ Try.underlying9, dif_pos (by rw [str_size]; omega)]
  exact congrArg (fun x : UInt8 => Result.ok (Value.int .u8 (x.toNat : Int)) W) (str_at l i h (by rw [str_size]; omega))

set_option maxHeartbeats 8000000 in
set_option maxRecDepth 100000 in
theorem walk (t : Nat → Px) (x : Int) (p : Px) (w : World) (ht : ∀ i, i < 64 → Pc (t i)) (hx : Ch x) (hp : Pc p) : Calls Try.prog 7 #[tv t, .int .u8 x, p.v] w fun e w' => e = .returned (.bool true) ∧ Below w.heap.size w w' := by
  obtain ⟨A, rfl⟩ : ∃ A : Nat, x = A := ⟨x.toNat, by have := hx.1; omega⟩
  obtain ⟨n, hnA⟩ : ∃ n, n = A % 64 := ⟨_, rfl⟩
  have hn : n < 64 := by omega
  have en : (A : Int) % 64 = (n : Int) := by omega
  have hA8 : (A : Int) ≤ 255 := hx.2
  have h0 := ((St.start w).alloc (tob t)).alloc (pxo p)
  simp only [World.size_alloc] at h0
  obtain ⟨b0, hb0⟩ : ∃ b0, b0 = w.heap.size := ⟨_, rfl⟩
  obtain ⟨w0, hw0⟩ : ∃ w0, w0 = (w.alloc (tob t)).alloc (pxo p) := ⟨_, rfl⟩
  rw [← hb0, ← hw0] at h0
  have HW0 := Lib.hid hw0
  have HB0 := Lib.hid hb0
  have HT := Lib.hid ht
  have HP := Lib.hid hp
  have EN := Lib.hid en
  clear hw0 hb0 ht hp hnA en
  go_enter Try.func7, Try.ntmps7
  go_upto_region 1 with fail
  have e1 : (w.alloc (tob t)).alloc (.cells #[.int .u8 p.r, .int .u8 p.g, .int .u8 p.b, .int .u8 p.a] 23) = w0 := HW0.out.symm
  rw [e1, ← HB0.out]
  clear e1
  go_upto_region 3 with (first | (go_at_call 10; (with_reducible refine (St.call h0 (sanity_any _)).mono ?_); rintro e w1 ⟨rfl, h1⟩))
  simp only [EN.out]
  have hq := World.alloc_heap_new w1 (tob z0)
  have HL := Lib.hid (load_tile b0 t w1 (h1.row (b := b0) (o := tob t) (by simp)))
  have HST := Lib.hid (store_tile w1.heap.size z0 t _ hq)
  have h2 := St.rowset (ds := tc t) (h1.alloc (tob z0)) h1.below.size h1.ne
  have hne := h1.ne
  have hbc := h1.below.size
  have HNE : Hid (b0 + 1 ≠ w1.heap.size ∧ b0 ≠ w1.heap.size ∧ w.heap.size ≤ w1.heap.size) := ⟨hne (b0 + 1, pxo p) (by simp), hne (b0, tob t) (by simp), hbc⟩
  have H2 := Lib.hid h2
  clear hq h2 h1 h0 HW0 hne hbc
  go_upto_region 4 with (first
    | (refine wpList_load_of rfl 25 (.tmp 3) rfl _ HL.out ?_)
    | (refine wpList_alloc_of rfl 25 rfl _ (zero_tile _) ?_)
    | (refine wpList_store_of rfl 25 (.tmp 9) (.tmp 20) rfl HST.out ?_))
  clear HL HST
  generalize (w1.alloc (tob z0)).setRow w1.heap.size (tc t) = w2 at H2 ⊢
  generalize w1.heap.size = c at H2 HNE ⊢
  have hiy := index_px c n hn
  have HL := Lib.hid (load_px0 (b0 + 1) p w2 (H2.out.row (b := b0 + 1) (o := pxo p) (by simp)))
  have HST := Lib.hid (store_px c t n p hn w2 (H2.out.row (b := c) (o := tob t) (by simp)))
  have H3 := Lib.hid (St.rowset (ds := tc (upd t n p)) H2.out HNE.out.2.2 (by have := HNE.out; simp; omega))
  go_upto_region 5 with (first
    | (refine wpList_load_of rfl 23 (.tmp 5) rfl _ HL.out ?_)
    | (refine wpList_store_of rfl 23 (.tmp 23) (.tmp 22) rfl HST.out ?_))
  clear HL HST hiy
  generalize w2.setRow c (tc (upd t n p)) = w3 at H3 ⊢
  have HU : Hid (∀ i, i < 64 → Pc (upd t n p i)) := fun i hi => by
    unfold upd; split
    · exact HP.out
    · exact HT.out i hi
  clear H2 HNE
  go_wp2
  go_loopw [10] (fun i wr => ∃ m : Nat, m ≤ 6 ∧ i = .int .i64 m ∧ Hid (St w [(c, tob (upd t n p)), (b0 + 1, pxo p), (b0, tob t)] wr)) (fun i _ => 6 - (intOf i).toNat)
  case atStart => exact ⟨0, by omega, rfl, H3.out⟩
  case round =>
    clear H3
    obtain ⟨m, hm, rfl, H6⟩ := hrel
    by_cases hm6 : m < 6
    · obtain ⟨X, hX⟩ : ∃ X, X = str (fwd m t) := ⟨_, rfl⟩
      obtain ⟨Z, hZ⟩ : ∃ Z, Z = str (fwd m (upd t n p)) := ⟨_, rfl⟩
      have HF1 : Hid (∀ V, Calls Try.prog 12 #[tv t, .int .i64 m] V fun e w' => e = .returned (.tuple #[.string X, .int .i64 0]) ∧ Below V.heap.size V w') := fun V => hX ▸ fwd_any m t V hm6 HT.out
      have HF2 : Hid (∀ V, Calls Try.prog 12 #[tv (upd t n p), .int .i64 m] V fun e w' => e = .returned (.tuple #[.string Z, .int .i64 0]) ∧ Below V.heap.size V w') := fun V => hZ ▸ fwd_any m (upd t n p) V hm6 HU.out
      have hl1 : (fwd m t).length = 256 := by unfold fwd; rw [bl_len]
      have hl2 : (fwd m (upd t n p)).length = 256 := by unfold fwd; rw [bl_len]
      have zX : X.size = 256 := by rw [hX, str_size, hl1]
      have zZ : Z.size = 256 := by rw [hZ, str_size, hl2]
      have HX := Lib.hid hX
      have HZ := Lib.hid hZ
      have HL1 := Lib.hid hl1
      have HL2 := Lib.hid hl2
      clear hX hZ hl1 hl2
      have h6 := H6.out
      have HLA := Lib.hid (load_tile b0 t _ (h6.row (b := b0) (o := tob t) (by simp)))
      go_upto_region 9 with (first
        | (go_at_call 11; refine (count_any _).mono ?_; rintro e wx ⟨rfl, rfl⟩)
        | (refine wpList_load_of rfl 25 (.tmp 3) rfl _ HLA.out ?_)
        | (go_at_call 12; (with_reducible refine (St.call h6 (HF1.out _)).mono ?_); rintro e w7 ⟨rfl, h7⟩))
      have HLB := Lib.hid (load_tile c (upd t n p) w7 (h7.row (b := c) (o := tob (upd t n p)) (by simp)))
      go_upto_region 10 with (first
        | (refine wpList_load_of rfl 25 (.tmp 9) rfl _ HLB.out ?_)
        | (go_at_call 12; (with_reducible refine (St.call h7 (HF2.out _)).mono ?_); rintro e w8 ⟨rfl, h8⟩))
      have H8 := Lib.hid h8
      clear HF1 HF2 HLA HLB h6 h7 h8 H6
      go_upto_region 12 with fail
      go_wp2
      go_loopw [15] (fun i wr => ∃ q : Nat, q ≤ 4 ∧ i = .int .i64 q ∧ Hid (St w [(c, tob (upd t n p)), (b0 + 1, pxo p), (b0, tob t)] wr)) (fun i _ => 4 - (intOf i).toNat)
      case atStart => exact ⟨0, by omega, rfl, H8.out⟩
      case round =>
        clear H8
        obtain ⟨q, hq, rfl, H8⟩ := hrel
        by_cases hq4 : q < 4
        · obtain ⟨s, hs⟩ : ∃ s, s = 64 * q := ⟨_, rfl⟩
          obtain ⟨o, ho⟩ : ∃ o, o = 64 * q + n := ⟨_, rfl⟩
          obtain ⟨r1, hr1'⟩ : ∃ r, r = res m (pln q t) n := ⟨_, rfl⟩
          obtain ⟨r2, hr2'⟩ : ∃ r, r = res m (pln q (upd t n p)) n := ⟨_, rfl⟩
          obtain ⟨z, hz⟩ : ∃ z, z = sm (t n) p q := ⟨_, rfl⟩
          have HEX : Hid (Z.extract s o = X.extract s o) := by
            have h := ext_upd m q t n p hq4 hn
            rw [← HX.out, ← HZ.out, ← ho, ← hs] at h
            exact h
          have HEQ : Hid ((r1 == r2) = z) := by
            have h := res_eq m q t n p (HT.out n hn) HP.out
            rw [← hr1', ← hr2', ← hz] at h
            exact h
          have hr1 : ∀ W, (Instr.index 9 (.string X) (.int .i64 (o : Int))).run Try.prog W = .ok (.int .u8 r1) W := fun W => by
            have hi : o < (fwd m t).length := by rw [HL1.out]; omega
            have h := idx_l (fwd m t) o hi W
            have h2 := fwd_byte m t q n hq4 hn
            rw [← ho, List.getElem?_eq_getElem hi] at h2
            rw [Option.some.inj h2, ← HX.out] at h
            rw [h, hr1']
            exact congrArg (fun x => Result.ok (Value.int .u8 x) W) (i8_u8 (b8_ch _))
          have hr2 : ∀ W, (Instr.index 9 (.string Z) (.int .i64 (o : Int))).run Try.prog W = .ok (.int .u8 r2) W := fun W => by
            have hi : o < (fwd m (upd t n p)).length := by rw [HL2.out]; omega
            have h := idx_l (fwd m (upd t n p)) o hi W
            have h2 := fwd_byte m (upd t n p) q n hq4 hn
            rw [← ho, List.getElem?_eq_getElem hi] at h2
            rw [Option.some.inj h2, ← HZ.out] at h
            rw [h, hr2']
            exact congrArg (fun x => Result.ok (Value.int .u8 x) W) (i8_u8 (b8_ch _))
          have HSM : Hid (∀ V, Calls Try.prog 21 #[(t n).v, p.v, .int .i64 q] V fun e w' => e = .returned (.bool z) ∧ Below V.heap.size V w') := fun V => hz ▸ same_any (t n) p q V hq4 (HT.out n hn) HP.out
          have hso : s ≤ o := by omega
          have ho2 : o ≤ 256 := by omega
          have hix := index_px b0 n hn
          have HS := Lib.hid hs
          have HO := Lib.hid ho
          have h9 := H8.out
          clear hs ho hz hr1' hr2'
          go_upto_region 15 with fail
          refine wp_region_held_drew (S := fun V9 => St w [(c, tob (upd t n p)), (b0 + 1, pxo p), (b0, tob t)] V9) (by kernel_rfl) ?_ (fun hHeld => ?_)
          · first | exact h9.drew | exact h9.drew.tl
          have h90 := h9.drew
          refine wpAnyH_take (i := 0) (oi := { dst := some 61, op := Op.move (Operand.tmp 11), type := 9, pos := "law.go:151", after := #[], guard := none }) (v := ?_) rfl (by kernel_rfl) (by kernel_rfl) (by kernel_rfl) (fun _ _ _ h => h) (Or.inl ⟨by kernel_rfl, ?_⟩) (by assumption) ?_
          rotate_left 1
          focus (intro w hSw; (try dsimp only at hSw); go_simp; (try with_reducible rfl))
          try simp only [Act.put, List.setIfInBounds_toArray, List.set_cons_zero, List.set_cons_succ]
          refine wpAnyH_take (i := 1) (oi := { dst := some 62, op := Op.move (Operand.tmp 15), type := 3, pos := "law.go:151", after := #[], guard := none }) (v := ?_) rfl (by kernel_rfl) (by kernel_rfl) (by kernel_rfl) (fun _ _ _ h => h) (Or.inl ⟨by kernel_rfl, ?_⟩) (by assumption) ?_
          rotate_left 1
          focus (intro w hSw; (try dsimp only at hSw); go_simp; (try with_reducible rfl))
          try simp only [Act.put, List.setIfInBounds_toArray, List.set_cons_zero, List.set_cons_succ]
          refine wpAnyH_take (i := 2) (oi := { dst := some 63, op := Op.binOp BinOp.mul 3 (Operand.const (Value.int IntKind.i64 64)) (Operand.tmp 62) 3, type := 3, pos := "law.go:151", after := #[{ on := 1, ground := Ground.data }], guard := none }) (v := (.int .i64 (s : Int))) rfl (by kernel_rfl) (by kernel_rfl) (by kernel_rfl) (fun _ _ _ h => h) (Or.inl ⟨by kernel_rfl, ?_⟩) (by assumption) ?_
          focus (intro w hSw; (try dsimp only at hSw); go_simp; first | done | rfl | omega | (have := HS.out; have := HO.out; omega) | (rw [IntKind.wrap_i64]; have := HS.out; have := HO.out; omega))
          try simp only [Act.put, List.setIfInBounds_toArray, List.set_cons_zero, List.set_cons_succ]
          refine wpAnyH_take (i := 3) (oi := { dst := some 64, op := Op.move (Operand.tmp 15), type := 3, pos := "law.go:151", after := #[], guard := none }) (v := ?_) rfl (by kernel_rfl) (by kernel_rfl) (by kernel_rfl) (fun _ _ _ h => h) (Or.inl ⟨by kernel_rfl, ?_⟩) (by assumption) ?_
          rotate_left 1
          focus (intro w hSw; (try dsimp only at hSw); go_simp; (try with_reducible rfl))
          try simp only [Act.put, List.setIfInBounds_toArray, List.set_cons_zero, List.set_cons_succ]
          refine wpAnyH_take (i := 4) (oi := { dst := some 65, op := Op.binOp BinOp.mul 3 (Operand.const (Value.int IntKind.i64 64)) (Operand.tmp 64) 3, type := 3, pos := "law.go:151", after := #[{ on := 3, ground := Ground.data }], guard := none }) (v := (.int .i64 (s : Int))) rfl (by kernel_rfl) (by kernel_rfl) (by kernel_rfl) (fun _ _ _ h => h) (Or.inl ⟨by kernel_rfl, ?_⟩) (by assumption) ?_
          focus (intro w hSw; (try dsimp only at hSw); go_simp; first | done | rfl | omega | (have := HS.out; have := HO.out; omega) | (rw [IntKind.wrap_i64]; have := HS.out; have := HO.out; omega))
          try simp only [Act.put, List.setIfInBounds_toArray, List.set_cons_zero, List.set_cons_succ]
          refine wpAnyH_take (i := 5) (oi := { dst := some 66, op := Op.move (Operand.tmp 8), type := 3, pos := "law.go:151", after := #[], guard := none }) (v := ?_) rfl (by kernel_rfl) (by kernel_rfl) (by kernel_rfl) (fun _ _ _ h => h) (Or.inl ⟨by kernel_rfl, ?_⟩) (by assumption) ?_
          rotate_left 1
          focus (intro w hSw; (try dsimp only at hSw); go_simp; (try with_reducible rfl))
          try simp only [Act.put, List.setIfInBounds_toArray, List.set_cons_zero, List.set_cons_succ]
          refine wpAnyH_take (i := 6) (oi := { dst := some 67, op := Op.binOp BinOp.add 3 (Operand.tmp 65) (Operand.tmp 66) 3, type := 3, pos := "law.go:151", after := #[{ on := 4, ground := Ground.data }, { on := 5, ground := Ground.data }], guard := none }) (v := (.int .i64 (o : Int))) rfl (by kernel_rfl) (by kernel_rfl) (by kernel_rfl) (fun _ _ _ h => h) (Or.inl ⟨by kernel_rfl, ?_⟩) (by assumption) ?_
          focus (intro w hSw; (try dsimp only at hSw); go_simp; first | done | rfl | omega | (have := HS.out; have := HO.out; omega) | (rw [IntKind.wrap_i64]; have := HS.out; have := HO.out; omega))
          try simp only [Act.put, List.setIfInBounds_toArray, List.set_cons_zero, List.set_cons_succ]
          refine wpAnyH_take (i := 7) (oi := { dst := some 68, op := Op.slice 9 (Operand.tmp 61) (some (Operand.tmp 63)) (some (Operand.tmp 67)) none, type := 9, pos := "law.go:151", after := #[{ on := 0, ground := Ground.data }, { on := 2, ground := Ground.data }, { on := 6, ground := Ground.data }], guard := none }) (v := (.string (X.extract s o))) rfl (by kernel_rfl) (by kernel_rfl) (by kernel_rfl) (fun _ _ _ h => h) (Or.inl ⟨by kernel_rfl, ?_⟩) (by assumption) ?_
          focus (intro w hSw; (try dsimp only at hSw); go_simp; first | done | rfl | (intro hbad; exfalso; omega) | (rw [if_pos ⟨by omega, by omega⟩]; rfl) | (simp; omega))
          try simp only [Act.put, List.setIfInBounds_toArray, List.set_cons_zero, List.set_cons_succ]
          refine wpAnyH_take (i := 8) (oi := { dst := some 69, op := Op.move (Operand.tmp 13), type := 9, pos := "law.go:151", after := #[], guard := none }) (v := ?_) rfl (by kernel_rfl) (by kernel_rfl) (by kernel_rfl) (fun _ _ _ h => h) (Or.inl ⟨by kernel_rfl, ?_⟩) (by assumption) ?_
          rotate_left 1
          focus (intro w hSw; (try dsimp only at hSw); go_simp; (try with_reducible rfl))
          try simp only [Act.put, List.setIfInBounds_toArray, List.set_cons_zero, List.set_cons_succ]
          refine wpAnyH_take (i := 9) (oi := { dst := some 70, op := Op.move (Operand.tmp 15), type := 3, pos := "law.go:151", after := #[], guard := none }) (v := ?_) rfl (by kernel_rfl) (by kernel_rfl) (by kernel_rfl) (fun _ _ _ h => h) (Or.inl ⟨by kernel_rfl, ?_⟩) (by assumption) ?_
          rotate_left 1
          focus (intro w hSw; (try dsimp only at hSw); go_simp; (try with_reducible rfl))
          try simp only [Act.put, List.setIfInBounds_toArray, List.set_cons_zero, List.set_cons_succ]
          refine wpAnyH_take (i := 10) (oi := { dst := some 71, op := Op.binOp BinOp.mul 3 (Operand.const (Value.int IntKind.i64 64)) (Operand.tmp 70) 3, type := 3, pos := "law.go:151", after := #[{ on := 9, ground := Ground.data }], guard := none }) (v := (.int .i64 (s : Int))) rfl (by kernel_rfl) (by kernel_rfl) (by kernel_rfl) (fun _ _ _ h => h) (Or.inl ⟨by kernel_rfl, ?_⟩) (by assumption) ?_
          focus (intro w hSw; (try dsimp only at hSw); go_simp; first | done | rfl | omega | (have := HS.out; have := HO.out; omega) | (rw [IntKind.wrap_i64]; have := HS.out; have := HO.out; omega))
          try simp only [Act.put, List.setIfInBounds_toArray, List.set_cons_zero, List.set_cons_succ]
          refine wpAnyH_take (i := 11) (oi := { dst := some 72, op := Op.move (Operand.tmp 15), type := 3, pos := "law.go:151", after := #[], guard := none }) (v := ?_) rfl (by kernel_rfl) (by kernel_rfl) (by kernel_rfl) (fun _ _ _ h => h) (Or.inl ⟨by kernel_rfl, ?_⟩) (by assumption) ?_
          rotate_left 1
          focus (intro w hSw; (try dsimp only at hSw); go_simp; (try with_reducible rfl))
          try simp only [Act.put, List.setIfInBounds_toArray, List.set_cons_zero, List.set_cons_succ]
          refine wpAnyH_take (i := 12) (oi := { dst := some 73, op := Op.binOp BinOp.mul 3 (Operand.const (Value.int IntKind.i64 64)) (Operand.tmp 72) 3, type := 3, pos := "law.go:151", after := #[{ on := 11, ground := Ground.data }], guard := none }) (v := (.int .i64 (s : Int))) rfl (by kernel_rfl) (by kernel_rfl) (by kernel_rfl) (fun _ _ _ h => h) (Or.inl ⟨by kernel_rfl, ?_⟩) (by assumption) ?_
          focus (intro w hSw; (try dsimp only at hSw); go_simp; first | done | rfl | omega | (have := HS.out; have := HO.out; omega) | (rw [IntKind.wrap_i64]; have := HS.out; have := HO.out; omega))
          try simp only [Act.put, List.setIfInBounds_toArray, List.set_cons_zero, List.set_cons_succ]
          refine wpAnyH_take (i := 13) (oi := { dst := some 74, op := Op.move (Operand.tmp 8), type := 3, pos := "law.go:151", after := #[], guard := none }) (v := ?_) rfl (by kernel_rfl) (by kernel_rfl) (by kernel_rfl) (fun _ _ _ h => h) (Or.inl ⟨by kernel_rfl, ?_⟩) (by assumption) ?_
          rotate_left 1
          focus (intro w hSw; (try dsimp only at hSw); go_simp; (try with_reducible rfl))
          try simp only [Act.put, List.setIfInBounds_toArray, List.set_cons_zero, List.set_cons_succ]
          refine wpAnyH_take (i := 14) (oi := { dst := some 75, op := Op.binOp BinOp.add 3 (Operand.tmp 73) (Operand.tmp 74) 3, type := 3, pos := "law.go:151", after := #[{ on := 12, ground := Ground.data }, { on := 13, ground := Ground.data }], guard := none }) (v := (.int .i64 (o : Int))) rfl (by kernel_rfl) (by kernel_rfl) (by kernel_rfl) (fun _ _ _ h => h) (Or.inl ⟨by kernel_rfl, ?_⟩) (by assumption) ?_
          focus (intro w hSw; (try dsimp only at hSw); go_simp; first | done | rfl | omega | (have := HS.out; have := HO.out; omega) | (rw [IntKind.wrap_i64]; have := HS.out; have := HO.out; omega))
          try simp only [Act.put, List.setIfInBounds_toArray, List.set_cons_zero, List.set_cons_succ]
          refine wpAnyH_take (i := 15) (oi := { dst := some 76, op := Op.slice 9 (Operand.tmp 69) (some (Operand.tmp 71)) (some (Operand.tmp 75)) none, type := 9, pos := "law.go:151", after := #[{ on := 8, ground := Ground.data }, { on := 10, ground := Ground.data }, { on := 14, ground := Ground.data }], guard := none }) (v := (.string (Z.extract s o))) rfl (by kernel_rfl) (by kernel_rfl) (by kernel_rfl) (fun _ _ _ h => h) (Or.inl ⟨by kernel_rfl, ?_⟩) (by assumption) ?_
          focus (intro w hSw; (try dsimp only at hSw); go_simp; first | done | rfl | (intro hbad; exfalso; omega) | (rw [if_pos ⟨by omega, by omega⟩]; rfl) | (simp; omega))
          try simp only [Act.put, List.setIfInBounds_toArray, List.set_cons_zero, List.set_cons_succ]
          refine wpAnyH_take (i := 16) (oi := { dst := some 77, op := Op.binOp BinOp.neq 9 (Operand.tmp 68) (Operand.tmp 76) 9, type := 4, pos := "law.go:151", after := #[{ on := 7, ground := Ground.data }, { on := 15, ground := Ground.data }], guard := none }) (v := (.bool false)) rfl (by kernel_rfl) (by kernel_rfl) (by kernel_rfl) (fun _ _ _ h => h) (Or.inl ⟨by kernel_rfl, ?_⟩) (by assumption) ?_
          focus (intro w hSw; (try dsimp only at hSw); go_simp; first | done | rfl | (rw [HEX.out]; simp) | (simp [HEX.out]))
          try simp only [Act.put, List.setIfInBounds_toArray, List.set_cons_zero, List.set_cons_succ]
          refine wpAnyH_take (i := 17) (oi := { dst := some 78, op := Op.move (Operand.tmp 77), type := 4, pos := "law.go:151", after := #[{ on := 16, ground := Ground.data }], guard := none }) (v := ?_) rfl (by kernel_rfl) (by kernel_rfl) (by kernel_rfl) (fun _ _ _ h => h) (Or.inl ⟨by kernel_rfl, ?_⟩) (by assumption) ?_
          rotate_left 1
          focus (intro w hSw; (try dsimp only at hSw); go_simp; (try with_reducible rfl))
          try simp only [Act.put, List.setIfInBounds_toArray, List.set_cons_zero, List.set_cons_succ]
          refine wpAnyH_take (i := 18) (oi := { dst := some 79, op := Op.move (Operand.tmp 11), type := 9, pos := "law.go:151", after := #[{ on := 17, ground := Ground.guard }], guard := some (17, false) }) (v := ?_) rfl (by kernel_rfl) (by kernel_rfl) (by kernel_rfl) (fun _ _ _ h => h) (Or.inl ⟨by kernel_rfl, ?_⟩) (by assumption) ?_
          rotate_left 1
          focus (intro w hSw; (try dsimp only at hSw); go_simp; (try with_reducible rfl))
          try simp only [Act.put, List.setIfInBounds_toArray, List.set_cons_zero, List.set_cons_succ]
          refine wpAnyH_take (i := 19) (oi := { dst := some 80, op := Op.move (Operand.tmp 15), type := 3, pos := "law.go:151", after := #[{ on := 17, ground := Ground.guard }], guard := some (17, false) }) (v := ?_) rfl (by kernel_rfl) (by kernel_rfl) (by kernel_rfl) (fun _ _ _ h => h) (Or.inl ⟨by kernel_rfl, ?_⟩) (by assumption) ?_
          rotate_left 1
          focus (intro w hSw; (try dsimp only at hSw); go_simp; (try with_reducible rfl))
          try simp only [Act.put, List.setIfInBounds_toArray, List.set_cons_zero, List.set_cons_succ]
          refine wpAnyH_take (i := 20) (oi := { dst := some 81, op := Op.binOp BinOp.mul 3 (Operand.const (Value.int IntKind.i64 64)) (Operand.tmp 80) 3, type := 3, pos := "law.go:151", after := #[{ on := 19, ground := Ground.data }, { on := 17, ground := Ground.guard }], guard := some (17, false) }) (v := (.int .i64 (s : Int))) rfl (by kernel_rfl) (by kernel_rfl) (by kernel_rfl) (fun _ _ _ h => h) (Or.inl ⟨by kernel_rfl, ?_⟩) (by assumption) ?_
          focus (intro w hSw; (try dsimp only at hSw); go_simp; first | done | rfl | omega | (have := HS.out; have := HO.out; omega) | (rw [IntKind.wrap_i64]; have := HS.out; have := HO.out; omega))
          try simp only [Act.put, List.setIfInBounds_toArray, List.set_cons_zero, List.set_cons_succ]
          refine wpAnyH_take (i := 21) (oi := { dst := some 82, op := Op.move (Operand.tmp 8), type := 3, pos := "law.go:151", after := #[{ on := 17, ground := Ground.guard }], guard := some (17, false) }) (v := ?_) rfl (by kernel_rfl) (by kernel_rfl) (by kernel_rfl) (fun _ _ _ h => h) (Or.inl ⟨by kernel_rfl, ?_⟩) (by assumption) ?_
          rotate_left 1
          focus (intro w hSw; (try dsimp only at hSw); go_simp; (try with_reducible rfl))
          try simp only [Act.put, List.setIfInBounds_toArray, List.set_cons_zero, List.set_cons_succ]
          refine wpAnyH_take (i := 22) (oi := { dst := some 83, op := Op.binOp BinOp.add 3 (Operand.tmp 81) (Operand.tmp 82) 3, type := 3, pos := "law.go:151", after := #[{ on := 20, ground := Ground.data }, { on := 21, ground := Ground.data }, { on := 17, ground := Ground.guard }], guard := some (17, false) }) (v := (.int .i64 (o : Int))) rfl (by kernel_rfl) (by kernel_rfl) (by kernel_rfl) (fun _ _ _ h => h) (Or.inl ⟨by kernel_rfl, ?_⟩) (by assumption) ?_
          focus (intro w hSw; (try dsimp only at hSw); go_simp; first | done | rfl | omega | (have := HS.out; have := HO.out; omega) | (rw [IntKind.wrap_i64]; have := HS.out; have := HO.out; omega))
          try simp only [Act.put, List.setIfInBounds_toArray, List.set_cons_zero, List.set_cons_succ]
          refine wpAnyH_take (i := 23) (oi := { dst := some 84, op := Op.index 9 (Operand.tmp 79) (Operand.tmp 83), type := 5, pos := "law.go:151", after := #[{ on := 18, ground := Ground.data }, { on := 22, ground := Ground.data }, { on := 17, ground := Ground.guard }], guard := some (17, false) }) (v := (.int .u8 r1)) rfl (by kernel_rfl) (by kernel_rfl) (by kernel_rfl) (fun _ _ _ h => h) (Or.inl ⟨by kernel_rfl, ?_⟩) (by assumption) ?_
          focus (intro w hSw; (try dsimp only at hSw); go_simp; first | done | rfl)
          try simp only [Act.put, List.setIfInBounds_toArray, List.set_cons_zero, List.set_cons_succ]
          refine wpAnyH_take (i := 24) (oi := { dst := some 85, op := Op.move (Operand.tmp 13), type := 9, pos := "law.go:151", after := #[{ on := 17, ground := Ground.guard }], guard := some (17, false) }) (v := ?_) rfl (by kernel_rfl) (by kernel_rfl) (by kernel_rfl) (fun _ _ _ h => h) (Or.inl ⟨by kernel_rfl, ?_⟩) (by assumption) ?_
          rotate_left 1
          focus (intro w hSw; (try dsimp only at hSw); go_simp; (try with_reducible rfl))
          try simp only [Act.put, List.setIfInBounds_toArray, List.set_cons_zero, List.set_cons_succ]
          refine wpAnyH_take (i := 25) (oi := { dst := some 86, op := Op.move (Operand.tmp 15), type := 3, pos := "law.go:151", after := #[{ on := 17, ground := Ground.guard }], guard := some (17, false) }) (v := ?_) rfl (by kernel_rfl) (by kernel_rfl) (by kernel_rfl) (fun _ _ _ h => h) (Or.inl ⟨by kernel_rfl, ?_⟩) (by assumption) ?_
          rotate_left 1
          focus (intro w hSw; (try dsimp only at hSw); go_simp; (try with_reducible rfl))
          try simp only [Act.put, List.setIfInBounds_toArray, List.set_cons_zero, List.set_cons_succ]
          refine wpAnyH_take (i := 26) (oi := { dst := some 87, op := Op.binOp BinOp.mul 3 (Operand.const (Value.int IntKind.i64 64)) (Operand.tmp 86) 3, type := 3, pos := "law.go:151", after := #[{ on := 25, ground := Ground.data }, { on := 17, ground := Ground.guard }], guard := some (17, false) }) (v := (.int .i64 (s : Int))) rfl (by kernel_rfl) (by kernel_rfl) (by kernel_rfl) (fun _ _ _ h => h) (Or.inl ⟨by kernel_rfl, ?_⟩) (by assumption) ?_
          focus (intro w hSw; (try dsimp only at hSw); go_simp; first | done | rfl | omega | (have := HS.out; have := HO.out; omega) | (rw [IntKind.wrap_i64]; have := HS.out; have := HO.out; omega))
          try simp only [Act.put, List.setIfInBounds_toArray, List.set_cons_zero, List.set_cons_succ]
          refine wpAnyH_take (i := 27) (oi := { dst := some 88, op := Op.move (Operand.tmp 8), type := 3, pos := "law.go:151", after := #[{ on := 17, ground := Ground.guard }], guard := some (17, false) }) (v := ?_) rfl (by kernel_rfl) (by kernel_rfl) (by kernel_rfl) (fun _ _ _ h => h) (Or.inl ⟨by kernel_rfl, ?_⟩) (by assumption) ?_
          rotate_left 1
          focus (intro w hSw; (try dsimp only at hSw); go_simp; (try with_reducible rfl))
          try simp only [Act.put, List.setIfInBounds_toArray, List.set_cons_zero, List.set_cons_succ]
          refine wpAnyH_take (i := 28) (oi := { dst := some 89, op := Op.binOp BinOp.add 3 (Operand.tmp 87) (Operand.tmp 88) 3, type := 3, pos := "law.go:151", after := #[{ on := 26, ground := Ground.data }, { on := 27, ground := Ground.data }, { on := 17, ground := Ground.guard }], guard := some (17, false) }) (v := (.int .i64 (o : Int))) rfl (by kernel_rfl) (by kernel_rfl) (by kernel_rfl) (fun _ _ _ h => h) (Or.inl ⟨by kernel_rfl, ?_⟩) (by assumption) ?_
          focus (intro w hSw; (try dsimp only at hSw); go_simp; first | done | rfl | omega | (have := HS.out; have := HO.out; omega) | (rw [IntKind.wrap_i64]; have := HS.out; have := HO.out; omega))
          try simp only [Act.put, List.setIfInBounds_toArray, List.set_cons_zero, List.set_cons_succ]
          refine wpAnyH_take (i := 29) (oi := { dst := some 90, op := Op.index 9 (Operand.tmp 85) (Operand.tmp 89), type := 5, pos := "law.go:151", after := #[{ on := 24, ground := Ground.data }, { on := 28, ground := Ground.data }, { on := 17, ground := Ground.guard }], guard := some (17, false) }) (v := (.int .u8 r2)) rfl (by kernel_rfl) (by kernel_rfl) (by kernel_rfl) (fun _ _ _ h => h) (Or.inl ⟨by kernel_rfl, ?_⟩) (by assumption) ?_
          focus (intro w hSw; (try dsimp only at hSw); go_simp; first | done | rfl)
          try simp only [Act.put, List.setIfInBounds_toArray, List.set_cons_zero, List.set_cons_succ]
          refine wpAnyH_take (i := 30) (oi := { dst := some 91, op := Op.binOp BinOp.eql 5 (Operand.tmp 84) (Operand.tmp 90) 5, type := 4, pos := "law.go:151", after := #[{ on := 23, ground := Ground.data }, { on := 29, ground := Ground.data }, { on := 17, ground := Ground.guard }], guard := some (17, false) }) (v := (.bool z)) rfl (by kernel_rfl) (by kernel_rfl) (by kernel_rfl) (fun _ _ _ h => h) (Or.inl ⟨by kernel_rfl, ?_⟩) (by assumption) ?_
          focus (intro w hSw; (try dsimp only at hSw); go_simp; first | done | rfl | exact HEQ.out | (rw [HEQ.out]))
          try simp only [Act.put, List.setIfInBounds_toArray, List.set_cons_zero, List.set_cons_succ]
          refine wpAnyH_take (i := 31) (oi := { dst := some 92, op := Op.move (Operand.tmp 8), type := 3, pos := "law.go:151", after := #[{ on := 17, ground := Ground.guard }], guard := some (17, false) }) (v := ?_) rfl (by kernel_rfl) (by kernel_rfl) (by kernel_rfl) (fun _ _ _ h => h) (Or.inl ⟨by kernel_rfl, ?_⟩) (by assumption) ?_
          rotate_left 1
          focus (intro w hSw; (try dsimp only at hSw); go_simp; (try with_reducible rfl))
          try simp only [Act.put, List.setIfInBounds_toArray, List.set_cons_zero, List.set_cons_succ]
          refine wpAnyH_take (i := 32) (oi := { dst := some 93, op := Op.indexAddr 25 (Operand.tmp 3) (Operand.tmp 92), type := 0, pos := "law.go:151", after := #[{ on := 31, ground := Ground.data }, { on := 17, ground := Ground.guard }], guard := some (17, false) }) (v := ?_) rfl (by kernel_rfl) (by kernel_rfl) (by kernel_rfl) (fun _ _ _ h => h) (Or.inl ⟨by kernel_rfl, ?_⟩) (by assumption) ?_
          rotate_left 1
          focus (intro w hSw; (try dsimp only at hSw); go_simp; (try with_reducible rfl))
          try simp only [Act.put, List.setIfInBounds_toArray, List.set_cons_zero, List.set_cons_succ]
          refine wpAnyH_take (i := 33) (oi := { dst := some 94, op := Op.load 23 (Operand.tmp 93), type := 23, pos := "law.go:151", after := #[{ on := 32, ground := Ground.data }, { on := 17, ground := Ground.guard }], guard := some (17, false) }) rfl (by kernel_rfl) (by kernel_rfl) (by kernel_rfl) (fun _ _ _ h => h) (yields_load (by kernel_rfl) 23 (.tmp 93) rfl ((t) (n)).v (fun V hV => ldi (b := b0) (f := t) hV (by simp) (n) hn)) (by assumption) ?_
          try simp only [Act.put, List.setIfInBounds_toArray, List.set_cons_zero, List.set_cons_succ]
          refine wpAnyH_take (i := 34) (oi := { dst := some 95, op := Op.load 23 (Operand.tmp 5), type := 23, pos := "law.go:151", after := #[{ on := 17, ground := Ground.guard }], guard := some (17, false) }) rfl (by kernel_rfl) (by kernel_rfl) (by kernel_rfl) (fun _ _ _ h => h) (yields_load (by kernel_rfl) 23 (.tmp 5) rfl (p).v (fun V hV => ldp (b := b0 + 1) (p := p) hV (by simp))) (by assumption) ?_
          try simp only [Act.put, List.setIfInBounds_toArray, List.set_cons_zero, List.set_cons_succ]
          refine wpAnyH_take (i := 35) (oi := { dst := some 96, op := Op.move (Operand.tmp 15), type := 3, pos := "law.go:151", after := #[{ on := 17, ground := Ground.guard }], guard := some (17, false) }) (v := ?_) rfl (by kernel_rfl) (by kernel_rfl) (by kernel_rfl) (fun _ _ _ h => h) (Or.inl ⟨by kernel_rfl, ?_⟩) (by assumption) ?_
          rotate_left 1
          focus (intro w hSw; (try dsimp only at hSw); go_simp; (try with_reducible rfl))
          try simp only [Act.put, List.setIfInBounds_toArray, List.set_cons_zero, List.set_cons_succ]
          refine wpAnyH_ready (rs := [36]) (by kernel_rfl) (by simp) (AllReadyH.cons (o := { dst := some 97, op := Op.call { callee := Callee.value (Operand.func 21), args := #[Operand.tmp 94, Operand.tmp 95, Operand.tmp 96], argTypes := #[23, 23, 3] }, type := 4, pos := "law.go:151", after := #[{ on := 33, ground := Ground.data }, { on := 34, ground := Ground.data }, { on := 35, ground := Ground.data }, { on := 17, ground := Ground.chain }, { on := 17, ground := Ground.guard }], guard := some (17, false) }) rfl (fun K hK => ?_) AllReadyH.nil)
          (go_simp; (go_at_call 21; (refine (St.call h90 (HSM.out _)).mono ?_); rintro e V1r15 ⟨rfl, h91r15⟩))
          refine hK.out _ _ ?_ (fun hHeld => ?_)
          · (first | exact h91r15 | exact h91r15.tl)
          clear hK K
          try simp only [Act.put, List.setIfInBounds_toArray, List.set_cons_zero, List.set_cons_succ]
          refine wpAnyH_take (i := 37) (oi := { dst := some 98, op := Op.binOp BinOp.neq 4 (Operand.tmp 91) (Operand.tmp 97) 4, type := 4, pos := "law.go:151", after := #[{ on := 30, ground := Ground.data }, { on := 36, ground := Ground.data }, { on := 17, ground := Ground.guard }], guard := some (17, false) }) (v := (.bool false)) rfl (by kernel_rfl) (by kernel_rfl) (by kernel_rfl) (fun _ _ _ h => h) (Or.inl ⟨by kernel_rfl, ?_⟩) (by assumption) ?_
          focus (intro w hSw; (try dsimp only at hSw); go_simp; first | done | (cases z <;> rfl))
          try simp only [Act.put, List.setIfInBounds_toArray, List.set_cons_zero, List.set_cons_succ]
          refine wpAnyH_take (i := 38) (oi := { dst := some 99, op := Op.pick (Operand.tmp 78) (Operand.const (Value.bool true)) (Operand.tmp 98), type := 4, pos := "law.go:151", after := #[{ on := 17, ground := Ground.data }, { on := 37, ground := Ground.data }], guard := none }) (v := ?_) rfl (by kernel_rfl) (by kernel_rfl) (by kernel_rfl) (fun _ _ _ h => h) (Or.inl ⟨by kernel_rfl, ?_⟩) (by assumption) ?_
          rotate_left 1
          focus (intro w hSw; (try dsimp only at hSw); go_simp; (try with_reducible rfl))
          try simp only [Act.put, List.setIfInBounds_toArray, List.set_cons_zero, List.set_cons_succ]
          refine wpAnyH_done (by kernel_rfl) ?_ _
          have H9 := Lib.hid h91r15
          clear hHeld hix hr1 hr2
          go_wp2
          go_roundw
          case rel => exact ⟨q + 1, by omega, by go_num, H9.out⟩
          case measure => simp [intOf] <;> omega
        · obtain rfl : q = 4 := by omega
          go_wp2
          go_roundw
          case rel => exact ⟨m + 1, by omega, by go_num, H8.out⟩
          case measure => simp [intOf] <;> omega
    · obtain rfl : m = 6 := by omega
      have HB := Lib.hid H6.out.below
      go_wp2_with (go_at_call 11; refine (count_any _).mono ?_; rintro e wx ⟨rfl, rfl⟩)
      go_ret
      exact ⟨rfl, HB.out⟩

theorem okin (W : World) (base : Nat) : Input.okWide Try.checked.prog W .any base 7 ⟨#[], #[tv z0, .int .u8 0, zp.v], []⟩ := by
  refine ⟨by simp, by simp, by kernel_rfl, Try.f7, Try.func7, by kernel_rfl, by kernel_rfl, by kernel_rfl, by rw [Try.params7]; rfl, ?_⟩
  intro j t v ht hv
  rw [Try.params7] at ht
  match j with
  | 0 => cases (Option.some.inj ht); cases (Option.some.inj hv); exact ok_tile W base
  | 1 => cases (Option.some.inj ht); cases (Option.some.inj hv); exact ok_u8 W base
  | 2 => cases (Option.some.inj ht); cases (Option.some.inj hv); exact ok_px W base
  | j + 3 => simp at ht
theorem lifted (os : Os) (started : os.Started) (H : Type) (enc : TypeId × Value → H) :
    ReturnsInHanded {} Try.checked os 7 .any (Rows.predictCausalSpec.pre6 enc Try.prog Try.f7 Rows.predictCausalRow.domain false) (Rows.predictCausalSpec.post enc Try.prog Try.f7 false true false false) := by
  refine returnsInHanded_of_change_sized (C := Try.checked) own started (by kernel_rfl) Try.func7
    (witness7 (enc := enc) (C := Try.checked) false ⟨#[], #[tv z0, .int .u8 0, zp.v], []⟩ 8 (by kernel_rfl) (by kernel_rfl) (fun W base => okin W base) (by kernel_rfl) (by kernel_rfl)) ?_
  intro W base args ds gs before hval0 hW _ _ _
  have hval : ∀ (j : Nat) t v, Try.f7.params[j]? = some t → args[j]? = some v → Value.okWide Try.prog W .any base t v := hval0
  have hW' := hW
  obtain ⟨p, q, hA0, hV, rfl, hfz, hnd⟩ := hW
  have hA : DataW.TrodAll enc Try.prog W 0 (fun _ => true) true Try.f7.params.toList args.toList ds p := hA0
  rw [Try.params7] at hA hval
  obtain ⟨v0, v1, v2, d0, d1, d2, p0, p1, p2, rfl, rfl, rfl, h0, h1, h2⟩ := trodAll_three hA
  obtain ⟨rfl, rfl⟩ := trodVars_none hV
  obtain ⟨t, rfl, ht⟩ := open_tile (hval 0 25 v0 rfl rfl)
  obtain ⟨x, rfl, hx⟩ := open_u8 (hval 1 5 v1 rfl rfl)
  obtain ⟨p, rfl, hp⟩ := open_px (hval 2 23 v2 rfl rfl)
  refine (walk t x p W ht hx hp).mono fun e W' ⟨he, hb⟩ => ?_
  subst he
  exact ⟨_, rfl, law_post hW' rfl (by kernel_rfl) rfl (by intro t ht; rw [Try.params7] at ht; simp at ht; rcases ht with rfl | rfl | rfl <;> exact ⟨by kernel_rfl, of_decide_eq_true (by kernel_rfl)⟩) hb⟩

theorem holds : Rows.PredictCausalSaid :=
  OpenClaim.holds_of_wide 7 Try.f7 rfl rfl rfl rfl rfl rfl rfl ⟨rfl, rfl, rfl, rfl, rfl⟩ rfl rfl rfl rfl rfl (by kernel_rfl) Try.func7 (by kernel_rfl)
    (of_decide_eq_true (by kernel_rfl)) (by unfold Func.isWrapper; first | (rw [if_pos (by decide +kernel)]; kernel_rfl) | (rw [if_neg (by decide +kernel)]; exact ⟨rfl, rfl⟩))
    (fun os started H enc _ => lifted os started H enc)
end Go.Proofs.Ytjaipjgnchpjcaa.P.PLCausal
