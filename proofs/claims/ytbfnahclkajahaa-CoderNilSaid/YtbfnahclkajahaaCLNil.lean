/-
  CoderNil: nil writers and readers do nothing, and zero values behave like new ones (at most 60 bits).
-/
import Derived.Test.YtbfnahclkajahaaCLaw
import Derived.Test.YtbfnahclkajahaaCLoop
namespace Go.Proofs.Ytbfnahclkajahaa.C.CLNil
open Go.ChangeShapes Go.WideShapes Go.ChangeAt Go.RowKit Go.Shelf
open Go.ChangeMaps (open_string)
set_option maxRecDepth 100000

/-- the coder behind the first contexts read, and the code's first byte -/
def rs (F : Nat → Nat) (g : Nat → Int × Int) : Nat → Cd × Nat
  | 0 => (c0, 0)
  | k + 1 => (stp (rs F g k).1 (ctx (g k).1) (rbit (rs F g k).1 F (rs F g k).2 (ctx (g k).1)), (rs F g k).2 + (out (rs F g k).1 (ctx (g k).1) (rbit (rs F g k).1 F (rs F g k).2 (ctx (g k).1))).length)
theorem rs_ok (F : Nat → Nat) (g : Nat → Int × Int) : ∀ k, Ok (rs F g k).1 ∧ (rs F g k).2 ≤ 4 * k
  | 0 => ⟨c0_ok, Nat.le_refl _⟩
  | k + 1 => by
    have h := rs_ok F g k
    have h2 := out_len h.1 (ctx (g k).1) (rbit (rs F g k).1 F (rs F g k).2 (ctx (g k).1))
    exact ⟨stp_ok h.1 _ _, by show (rs F g k).2 + (out _ _ _).length ≤ _; omega⟩
abbrev E0 : ByteArray := ByteArray.mk #[]
/-- two writers, two readers of the empty string -/
def NS (W : World) (f : Nat → Int × Int) (z b e r k1 k2 k3 k4 : Nat) (V : World) : Prop :=
  SF wob wob W [(e, rob (rs (sx E0.data.toList) f k3).1 E0 (rs (sx E0.data.toList) f k3).2), (r, rob (rs (sx E0.data.toList) f k4).1 E0 (rs (sx E0.data.toList) f k4).2)] f f z k1 b k2 V
variable {W V : World} {f : Nat → Int × Int} {z b e r k1 k2 k3 k4 : Nat}
theorem NS.below (h : NS W f z b e r k1 k2 k3 k4 V) : Below W.heap.size W V := SF.below h
theorem NS.later {V' : World} (h : NS W f z b e r k1 k2 k3 k4 V) (hb : Below V.heap.size V V') : NS W f z b e r k1 k2 k3 k4 V' := SF.later h hb
theorem NS.zbit {x y : Int} (hx : f k1 = (x, y)) (hk : k1 ≤ 1000) (h : NS W f z b e r k1 k2 k3 k4 V) :
    Calls Try.prog 21 #[.pointer (some ⟨z, 0, none⟩), .int .i64 x, .int .i64 y] V fun e1 w' => e1 = .returned (.tuple #[]) ∧ NS W f z b e r (k1 + 1) k2 k3 k4 w' := SF.bit hx hk h
theorem NS.bbit {x y : Int} (hx : f k2 = (x, y)) (hk : k2 ≤ 1000) (h : NS W f z b e r k1 k2 k3 k4 V) :
    Calls Try.prog 21 #[.pointer (some ⟨b, 0, none⟩), .int .i64 x, .int .i64 y] V fun e1 w' => e1 = .returned (.tuple #[]) ∧ NS W f z b e r k1 (k2 + 1) k3 k4 w' :=
  (SF.bit hx hk (SF.swap h)).mono fun _ _ ⟨h1, h2⟩ => ⟨h1, SF.swap h2⟩
theorem NS.eread {x : Int} (hx : (f k3).1 = x) (hk : k3 ≤ 1000) (h : NS W f z b e r k1 k2 k3 k4 V) :
    Calls Try.prog 28 #[.pointer (some ⟨e, 0, none⟩), .int .i64 x] V fun e1 w' => e1 = .returned (.int .i64 (rbit (rs (sx E0.data.toList) f k3).1 (sx E0.data.toList) (rs (sx E0.data.toList) f k3).2 (ctx x) : Nat)) ∧ NS W f z b e r k1 k2 (k3 + 1) k4 w' := by
  have ho := rs_ok (sx E0.data.toList) f k3
  have h2 := TF.read (x := x) ho.1 (by omega) h
  subst hx
  exact h2
theorem NS.rread {x : Int} (hx : (f k4).1 = x) (hk : k4 ≤ 1000) (h : NS W f z b e r k1 k2 k3 k4 V) :
    Calls Try.prog 28 #[.pointer (some ⟨r, 0, none⟩), .int .i64 x] V fun e1 w' => e1 = .returned (.int .i64 (rbit (rs (sx E0.data.toList) f k4).1 (sx E0.data.toList) (rs (sx E0.data.toList) f k4).2 (ctx x) : Nat)) ∧ NS W f z b e r k1 k2 k3 (k4 + 1) w' := by
  have ho := rs_ok (sx E0.data.toList) f k4
  have h2 := TF.read (x := x) ho.1 (by omega) (TF.turn h)
  subst hx
  exact h2.mono fun _ _ ⟨h3, h4⟩ => ⟨h3, TF.turn h4⟩
theorem NS.eused (hk : k3 ≤ 1000) (h : NS W f z b e r k1 k2 k3 k4 V) :
    Calls Try.prog 27 #[.pointer (some ⟨e, 0, none⟩)] V fun e1 w' => e1 = .returned (.int .i64 ((4 + (rs (sx E0.data.toList) f k3).2 : Nat) : Int)) ∧ NS W f z b e r k1 k2 k3 k4 w' := by
  have ho := rs_ok (sx E0.data.toList) f k3
  exact TF.used (by omega) h
theorem NS.rused (hk : k4 ≤ 1000) (h : NS W f z b e r k1 k2 k3 k4 V) :
    Calls Try.prog 27 #[.pointer (some ⟨r, 0, none⟩)] V fun e1 w' => e1 = .returned (.int .i64 ((4 + (rs (sx E0.data.toList) f k4).2 : Nat) : Int)) ∧ NS W f z b e r k1 k2 k3 k4 w' := by
  have ho := rs_ok (sx E0.data.toList) f k4
  exact (TF.used (by omega) (TF.turn h)).mono fun _ _ ⟨h3, h4⟩ => ⟨h3, TF.turn h4⟩
theorem NS.call {P : Program} {fn : FuncId} {args : Array Value} {v : Value} (h : NS W f z b e r k1 k2 k3 k4 V) (hc : Calls P fn args V fun e1 w' => e1 = .returned v ∧ Below V.heap.size V w') :
    Calls P fn args V fun e1 w' => e1 = .returned v ∧ NS W f z b e r k1 k2 k3 k4 w' := hc.mono fun _ _ ⟨h1, h2⟩ => ⟨h1, h.later h2⟩
theorem oBuild0 {d : Option Tmp} {ty : TypeId} {pp : String} {af : Array Edge} {gd : Option (Nat × Bool)} {a : Act} {t : TypeId} {w : World} {K : Act → World → Prop} {Q : Exit → Act → World → Prop} (v : Value) (hl : (Instr.build t #[]).run Try.prog w = .ok v w) (h : K (a.put d v) w) :
    Oper.wp Try.prog { dst := d, op := .build t #[], type := ty, pos := pp, after := af, guard := gd } a w K Q := by
  unfold Oper.wp execOp
  have hl' : (Instr.build t ((#[] : Array (Nat × Operand)).map fun (i, x) => (i, a.eval x))).run Try.prog w = .ok v w := by simpa using hl
  simp only [Sem.run_bind, hl', Result.andThen_ok, Sem.run_pure]
  exact h
theorem sBuild0 {ops : Array Oper} {rest : List Oper} {d : Option Tmp} {ty : TypeId} {pp : String} {af : Array Edge} {a : Act} {t : TypeId} {w : World} {Q : Exit → Act → World → Prop} (v : Value) (hl : (Instr.build t #[]).run Try.prog w = .ok v w) (h : wpList Try.prog ops Q rest (a.put d v) w) :
    wpList Try.prog ops Q ({ dst := d, op := .build t #[], type := ty, pos := pp, after := af, guard := none } :: rest) a w :=
  wpList_plain rfl fun _ hK => oBuild0 v hl (hK _ _ h)
theorem sBuild0On {ops : Array Oper} {rest : List Oper} {d : Option Tmp} {ty : TypeId} {pp : String} {af : Array Edge} {gd : Option (Nat × Bool)} {a : Act} {t : TypeId} {w : World} {Q : Exit → Act → World → Prop} (v : Value) (hl : (Instr.build t #[]).run Try.prog w = .ok v w)
    (hw : Region.wanted { dst := d, op := .build t #[], type := ty, pos := pp, after := af, guard := gd } (yielded ops a.tmps) = true) (h : wpList Try.prog ops Q rest (a.put d v) w) :
    wpList Try.prog ops Q ({ dst := d, op := .build t #[], type := ty, pos := pp, after := af, guard := gd } :: rest) a w := by
  show if Region.wanted _ (yielded ops a.tmps) = true then _ else _
  rw [if_pos hw]
  exact .inl (oBuild0 v hl h)

set_option maxHeartbeats 8000000 in
set_option maxRecDepth 100000 in
theorem walk (po : Option Addr) (n c : Nat) (f : Nat → Int × Int) (w : World) (_hn : n ≤ 9223372036854775807) (hI : ∀ i, i < n → BitAt w po i (f i).1 (f i).2) : Calls Try.prog 12 #[.slice po n c] w fun e w' => e = .returned (.bool true) ∧ Below w.heap.size w w' := by
  have h0 := HS.start w
  have HI := Lib.hid hI
  clear hI
  obtain ⟨zw, hzw⟩ : ∃ q, q = mc (dc c0.p) (iv c0.lo c0.hi [.slice none 0 0]) := ⟨_, rfl⟩
  obtain ⟨zr, hzr⟩ : ∃ q, q = mc (dc c0.p) (iv c0.lo c0.hi (rr E0 0 0)) := ⟨_, rfl⟩
  have HBW : Hid (∀ V, (Instr.build 68 #[]).run Try.prog V = .ok (.agg zw) V) := fun V => by rw [hzw]; exact built0W V
  have HBR : Hid (∀ V, (Instr.build 70 #[]).run Try.prog V = .ok (.agg zr) V) := fun V => by rw [hzr]; exact built0R V
  have HZW := Lib.hid hzw
  have HZR := Lib.hid hzr
  clear hzw hzr
  go_enter Try.func12, Try.ntmps12
  go_upto_region 6 with (first
    | (go_at_call 13; (with_reducible refine (h0.call (sanity_any _)).mono ?_); rintro e w1 ⟨rfl, h1⟩)
    | (with_reducible refine sBuild0 (.agg zw) (HBW.out _) ?_)
    | (with_reducible refine sBuild0 (.agg zr) (HBR.out _) ?_))
  have H2 := Lib.hid (h1.alloc (.cells zw 68))
  have H3 := Lib.hid (H2.out.alloc (.cells zr 70))
  rw [World.size_alloc] at H3
  generalize (w1.alloc (.cells zw 68)).alloc (.cells zr 70) = w3 at H3 ⊢
  generalize hz2 : w1.heap.size = z at *
  generalize hz3 : z + 1 = e at *
  clear H2 hz2 hz3
  have h3 := H3.out
  go_wp2_with (first
    | (go_at_call 25; (with_reducible refine (newR_any E0 _ h4).mono ?_); rintro e1 w5 ⟨r, rfl, h5⟩)
    | (go_at_call 19; (with_reducible refine (newW_any _ h3).mono ?_); rintro e1 w4 ⟨b, rfl, h4⟩))
  have H5 : Hid (NS w f z b e r 0 0 0 0 w5) := Lib.hid (by
    rw [HZW.out, HZR.out] at h5
    refine ⟨_, [], _, [], SL.nil, SL.nil, h5.perm ?_⟩
    have p1 : [(z, wob c0 (.slice none 0 0)), (b, wob c0 (.slice none 0 0)), (e, rob c0 E0 0), (r, rob c0 E0 0)].Perm [(r, rob c0 E0 0), (b, wob c0 (.slice none 0 0)), (e, rob c0 E0 0), (z, wob c0 (.slice none 0 0))] :=
      (List.perm_append_comm (l₁ := [(z, wob c0 (.slice none 0 0)), (b, wob c0 (.slice none 0 0)), (e, rob c0 E0 0)]) (l₂ := [(r, rob c0 E0 0)])).trans
        (((List.perm_append_comm (l₁ := [(z, wob c0 (.slice none 0 0))]) (l₂ := [(b, wob c0 (.slice none 0 0)), (e, rob c0 E0 0)])).cons _))
    exact p1)
  clear h0 h1 h3 h4 h5 H3
  go_loopw [10, 11, 12] (fun i _ _ V => ∃ k : Nat, k ≤ 60 ∧ i = .int .i64 (k : Int) ∧ Hid (NS w f z b e r k k k k V)) (fun i _ _ _ => 60 - (intOf i).toNat)
  case atStart => exact ⟨0, by omega, rfl, H5⟩
  case round =>
    obtain ⟨k, hk, rfl, HT⟩ := hrel
    clear H5
    by_cases h1 : k < n
    · by_cases h2 : k < 60
      · obtain ⟨bl, off, rfl, hbi⟩ := (HI.out k h1).at
        have hfk : f k = ((f k).1, (f k).2) := rfl
        have hfk1 : (f k).1 = (f k).1 := rfl
        have HBI := Lib.hid hbi
        have HFK := Lib.hid hfk
        have HFX : Hid (∀ x, (f k).1 = x → (f k).1 = x) := fun x h => h
        have hrb : ∃ q : Nat, rbit (rs (sx E0.data.toList) f k).1 (sx E0.data.toList) (rs (sx E0.data.toList) f k).2 (ctx (f k).1) = q := ⟨_, rfl⟩
        obtain ⟨q, hrb⟩ := hrb
        have HE : Hid (∀ V, NS w f z b e r (k + 1) (k + 1) k k V → Calls Try.prog 28 #[.pointer (some ⟨e, 0, none⟩), .int .i64 (f k).1] V fun e1 w' => e1 = .returned (.int .i64 (q : Nat)) ∧ NS w f z b e r (k + 1) (k + 1) (k + 1) k w') := fun V hV => by
          have h := hV.eread (x := (f k).1) rfl (by omega)
          rwa [hrb] at h
        have HR : Hid (∀ V, NS w f z b e r (k + 1) (k + 1) (k + 1) k V → Calls Try.prog 28 #[.pointer (some ⟨r, 0, none⟩), .int .i64 (f k).1] V fun e1 w' => e1 = .returned (.int .i64 (q : Nat)) ∧ NS w f z b e r (k + 1) (k + 1) (k + 1) (k + 1) w') := fun V hV => by
          have h := hV.rread (x := (f k).1) rfl (by omega)
          rwa [hrb] at h
        have hu : ∃ u : Nat, 4 + (rs (sx E0.data.toList) f (k + 1)).2 = u := ⟨_, rfl⟩
        obtain ⟨u, hu⟩ := hu
        have HUE : Hid (∀ V, NS w f z b e r (k + 1) (k + 1) (k + 1) (k + 1) V → Calls Try.prog 27 #[.pointer (some ⟨e, 0, none⟩)] V fun e1 w' => e1 = .returned (.int .i64 (u : Nat)) ∧ NS w f z b e r (k + 1) (k + 1) (k + 1) (k + 1) w') := fun V hV => by
          have h := hV.eused (by omega)
          rwa [hu] at h
        have HUR : Hid (∀ V, NS w f z b e r (k + 1) (k + 1) (k + 1) (k + 1) V → Calls Try.prog 27 #[.pointer (some ⟨r, 0, none⟩)] V fun e1 w' => e1 = .returned (.int .i64 (u : Nat)) ∧ NS w f z b e r (k + 1) (k + 1) (k + 1) (k + 1) w') := fun V hV => by
          have h := hV.rused (by omega)
          rwa [hu] at h
        clear hbi hfk hfk1 hrb hu HFX
        generalize (f k).1 = x at *
        generalize (f k).2 = y at *
        go_upto_region 13 with fail
        have hd := HT.out.later ((Below.refl _ wr).drew)
        obtain ⟨hcx, hcy⟩ := HBI.out _ hd.below
        go_still_tail 11, (by kernel_rfl)
        change wpList _ _ _ _ _ wr.drew
        have HD := Lib.hid hd
        clear hd
        generalize wr.drew = v1 at *
        go_upto_region 14 with (go_at_call 21; refine (HD.out.call (bitWnil_any x y _)).mono ?_; rintro e1 v2 ⟨rfl, h5⟩; have H6 := Lib.hid h5; clear h5)
        clear hcx hcy
        have hd := H6.out.later ((Below.refl _ v2).drew)
        obtain ⟨hcx, hcy⟩ := HBI.out _ hd.below
        go_still_tail 11, (by kernel_rfl)
        change wpList _ _ _ _ _ v2.drew
        have HD2 := Lib.hid hd
        clear hd
        generalize v2.drew = v3 at *
        go_upto_region 15 with (go_at_call 21; refine (HD2.out.zbit HFK.out (by omega)).mono ?_; rintro e1 v4 ⟨rfl, h5⟩; have H7 := Lib.hid h5; clear h5)
        clear hcx hcy
        have hd := H7.out.later ((Below.refl _ v4).drew)
        obtain ⟨hcx, hcy⟩ := HBI.out _ hd.below
        go_still_tail 11, (by kernel_rfl)
        change wpList _ _ _ _ _ v4.drew
        have HD3 := Lib.hid hd
        clear hd
        generalize v4.drew = v5 at *
        go_upto_region 16 with (go_at_call 21; refine (HD3.out.bbit HFK.out (by omega)).mono ?_; rintro e1 v6 ⟨rfl, h5⟩; have H8 := Lib.hid h5; clear h5)
        clear hcx hcy
        obtain ⟨hcx, hcy⟩ := HBI.out _ H8.out.below
        go_wp2_with (first
          | (go_at_call 28; (with_reducible refine (H10.out.call (bitRnil_any x _)).mono ?_); rintro e1 v9 ⟨rfl, h5⟩; have H11 := Lib.hid h5; clear h5)
          | (go_at_call 28; (with_reducible refine (HR.out _ H9.out).mono ?_); rintro e1 v8 ⟨rfl, h5⟩; have hcx8 := (HBI.out _ h5.below).1; have H10 := Lib.hid h5; clear h5)
          | (go_at_call 28; (with_reducible refine (HE.out _ H8.out).mono ?_); rintro e1 v7 ⟨rfl, h5⟩; have hcx7 := (HBI.out _ h5.below).1; have H9 := Lib.hid h5; clear h5)
          | (go_at_call 27; (with_reducible refine (HUR.out _ H12.out).mono ?_); rintro e1 v11 ⟨rfl, h5⟩; have H13 := Lib.hid h5; clear h5)
          | (go_at_call 27; (with_reducible refine (HUE.out _ H11.out).mono ?_); rintro e1 v10 ⟨rfl, h5⟩; have H12 := Lib.hid h5; clear h5))
        go_roundw
        case rel => exact ⟨k + 1, by omega, by go_num, H13⟩
        case measure => simp [intOf]; omega
      · have hq : ((str (yb f k)).toList == (str (yb f k)).toList) = true := beq_self_eq_true _
        have HYZ : Hid (∀ V, NS w f z b e r k k k k V → Calls Try.prog 23 #[.pointer (some ⟨z, 0, none⟩)] V fun e1 w' => e1 = .returned (.string (str (yb f k))) ∧ NS w f z b e r k k k k w') := fun V hV => SF.bytes (by omega) hV
        have HYB : Hid (∀ V, NS w f z b e r k k k k V → Calls Try.prog 23 #[.pointer (some ⟨b, 0, none⟩)] V fun e1 w' => e1 = .returned (.string (str (yb f k))) ∧ NS w f z b e r k k k k w') := fun V hV => (SF.bytes (by omega) (SF.swap hV)).mono fun e1 w' ⟨h1, h2⟩ => ⟨h1, SF.swap h2⟩
        have HNU : Hid (∀ V : World, Calls Try.prog 27 #[.pointer (some ⟨V.heap.size, 0, none⟩)] (V.alloc (.cells zr 70)) fun e1 w' => e1 = .returned (.int .i64 4) ∧ V.alloc (.cells zr 70) = w') := fun V => by
          have h := (HS.start V).alloc (.cells zr 70)
          rw [HZR.out] at h ⊢
          exact used_any _ 0 _ _ _ _ E0 _ h (by omega)
        generalize str (yb f k) = y at *
        go_wp2_with (first
          | ((with_reducible refine sBuild0On (.agg zr) (HBR.out _) ?_ ?_); focus (first | rfl | kernel_rfl))
          | (go_at_call 23; (with_reducible refine (HT.out.call (bytesWnil_any _)).mono ?_); rintro e1 w5 ⟨rfl, h5⟩; have H5 := Lib.hid h5; clear h5)
          | (go_at_call 27; (with_reducible refine (usedNil_any _).mono ?_); rintro e1 w6 ⟨rfl, rfl⟩)
          | (go_at_call 23; (with_reducible refine (HYB.out _ H7.out).mono ?_); rintro e1 w8 ⟨rfl, h8⟩; have H8 := Lib.hid h8; clear h8)
          | (go_at_call 23; (with_reducible refine (HYZ.out _ H5.out).mono ?_); rintro e1 w7 ⟨rfl, h7⟩; have H7 := Lib.hid h7; clear h7)
          | (go_at_call 27; (with_reducible refine (HNU.out _).mono ?_); rintro e1 w9 ⟨rfl, rfl⟩))
        go_ret
        exact ⟨rfl, (H8.out.later ((Below.refl _ _).alloc (Nat.le_refl _) _)).below⟩
    · have hq : ((str (yb f k)).toList == (str (yb f k)).toList) = true := beq_self_eq_true _
      have HYZ : Hid (∀ V, NS w f z b e r k k k k V → Calls Try.prog 23 #[.pointer (some ⟨z, 0, none⟩)] V fun e1 w' => e1 = .returned (.string (str (yb f k))) ∧ NS w f z b e r k k k k w') := fun V hV => SF.bytes (by omega) hV
      have HYB : Hid (∀ V, NS w f z b e r k k k k V → Calls Try.prog 23 #[.pointer (some ⟨b, 0, none⟩)] V fun e1 w' => e1 = .returned (.string (str (yb f k))) ∧ NS w f z b e r k k k k w') := fun V hV => (SF.bytes (by omega) (SF.swap hV)).mono fun e1 w' ⟨h1, h2⟩ => ⟨h1, SF.swap h2⟩
      have HNU : Hid (∀ V : World, Calls Try.prog 27 #[.pointer (some ⟨V.heap.size, 0, none⟩)] (V.alloc (.cells zr 70)) fun e1 w' => e1 = .returned (.int .i64 4) ∧ V.alloc (.cells zr 70) = w') := fun V => by
        have h := (HS.start V).alloc (.cells zr 70)
        rw [HZR.out] at h ⊢
        exact used_any _ 0 _ _ _ _ E0 _ h (by omega)
      generalize str (yb f k) = y at *
      go_wp2_with (first
        | ((with_reducible refine sBuild0On (.agg zr) (HBR.out _) ?_ ?_); focus (first | rfl | kernel_rfl))
        | (go_at_call 23; (with_reducible refine (HT.out.call (bytesWnil_any _)).mono ?_); rintro e1 w5 ⟨rfl, h5⟩; have H5 := Lib.hid h5; clear h5)
        | (go_at_call 27; (with_reducible refine (usedNil_any _).mono ?_); rintro e1 w6 ⟨rfl, rfl⟩)
        | (go_at_call 23; (with_reducible refine (HYB.out _ H7.out).mono ?_); rintro e1 w8 ⟨rfl, h8⟩; have H8 := Lib.hid h8; clear h8)
        | (go_at_call 23; (with_reducible refine (HYZ.out _ H5.out).mono ?_); rintro e1 w7 ⟨rfl, h7⟩; have H7 := Lib.hid h7; clear h7)
        | (go_at_call 27; (with_reducible refine (HNU.out _).mono ?_); rintro e1 w9 ⟨rfl, rfl⟩))
      go_ret
      exact ⟨rfl, (H8.out.later ((Below.refl _ _).alloc (Nat.le_refl _) _)).below⟩
theorem lifted (os : Os) (started : os.Started) (H : Type) (enc : TypeId × Value → H) :
    ReturnsInHanded {} Try.checked os 12 .any (Rows.coderNilSpec.pre6 enc Try.prog Try.f12 Rows.coderNilRow.domain false) (Rows.coderNilSpec.post enc Try.prog Try.f12 false true false false) := by
  refine returnsInHanded_of_change_sized (C := Try.checked) own started (by kernel_rfl) Try.func12
    (ChangeSpec.witness6 (enc := enc) (C := Try.checked) false ⟨#[], #[.slice none 0 0], []⟩ 8 (by kernel_rfl) (by kernel_rfl) (by kernel_rfl) (by kernel_rfl)) ?_
  intro W base args ds gs before hval0 hW _ _ _
  have hval : ∀ (j : Nat) t v, Try.f12.params[j]? = some t → args[j]? = some v → Value.okWide Try.prog W .any base t v := hval0
  have hW' := hW
  obtain ⟨p, q, hA0, hV, rfl, hfz, hnd⟩ := hW
  have hA : DataW.TrodAll enc Try.prog W 0 (fun _ => true) true Try.f12.params.toList args.toList ds p := hA0
  rw [Try.params12] at hA hval
  obtain ⟨v0, d0, rfl, rfl, h0⟩ := trodAll_one hA
  obtain ⟨rfl, rfl⟩ := trodVars_none hV
  obtain ⟨po, n, c, f, rfl, hn, hI⟩ := opened_bits (hval 0 36 v0 rfl rfl) h0
  refine (walk po n c f W hn hI).mono fun e W' ⟨he, hb⟩ => ?_
  subst he
  exact ⟨_, rfl, law_post hW' rfl (by kernel_rfl) rfl (by intro t ht; rw [Try.params12] at ht; simp at ht; subst ht; exact ⟨by kernel_rfl, of_decide_eq_true (by kernel_rfl)⟩) hb⟩

theorem holds : Rows.CoderNilSaid :=
  OpenClaim.holds_of_wide 12 Try.f12 rfl rfl rfl rfl rfl rfl rfl ⟨rfl, rfl, rfl, rfl, rfl⟩ rfl rfl rfl rfl rfl (by kernel_rfl) Try.func12 (by kernel_rfl)
    (of_decide_eq_true (by kernel_rfl)) (by unfold Func.isWrapper; first | (rw [if_pos (by decide +kernel)]; kernel_rfl) | (rw [if_neg (by decide +kernel)]; exact ⟨rfl, rfl⟩))
    (fun os started H enc _ => lifted os started H enc)
end Go.Proofs.Ytbfnahclkajahaa.C.CLNil
