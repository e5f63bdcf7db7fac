/-
  The sanity check of chapter 12's statements: Pack of the empty raster, Open of that and of one byte. A file's methods at a file without tiles, and at no file.
-/
import Derived.Test.YtfncldaodbfakaaGreatZRd
import Derived.Laws.MakeOwn
namespace Go.Proofs.YtfncldaodbfakaaGreat.Z
open Go.RowKit Go.Shelf
set_option maxRecDepth 100000
variable {V W w w' : World} {L : List (Nat × Obj)} {g : Nat} {s : ByteArray} {p : Nat} {f : Bool}

theorem crc0 : O.Crc.crc [0] = 3523407757 := by kernel_rfl
theorem sm0 : sm [0] = [210, 2, 239, 141] := by
  unfold sm
  rw [crc0]
  kernel_rfl
/-- the empty raster, packed -/
abbrev PE : ByteArray := ⟨#[71, 1, 1, 0, 210, 2, 239, 141]⟩
abbrev SE : ByteArray := ⟨#[1, 0, 210, 2, 239, 141]⟩
abbrev B0 : ByteArray := ⟨#[0]⟩
theorem var1 : O.Leb.varN 1 = [1] := O.Leb.varN_small (by decide)
theorem var0 : O.Leb.varN 0 = [0] := O.Leb.varN_small (by decide)
theorem varc0 (w : World) : Calls Tryz.prog 51 #[.int .i64 0] w fun e w' => e = .returned (.string (O.str [0])) ∧ Below w.heap.size w w' := by
  have h := O.var_any 0 w
  rw [show O.u64of 0 = 0 from rfl, var0] at h
  exact h
theorem textc0 (w : World) : Calls Tryz.prog 54 #[.string (O.str ([] ++ [0]))] w fun e w' => e = .returned (.string (O.str [1, 0])) ∧ Below w.heap.size w w' := by
  have h := O.text_any (O.str [0]) w (by decide)
  rw [show (O.str [0]).size = 1 from rfl, var1] at h
  exact h
theorem sumc0 (w : World) : Calls Tryz.prog 56 #[.string (O.str ([] ++ [0]))] w fun e w' => e = .returned (.string (O.str [210, 2, 239, 141])) ∧ Below w.heap.size w w' := by
  have h := sumOf_any (O.str [0]) w (by decide)
  rw [show (O.str [0]).data.toList = [0] from rfl, sm0] at h
  exact h
theorem zero_bld (w : World) : (zeroValue 103).run Tryz.prog w = .ok (.agg #[.pointer none, .slice none 0 0]) w := by kernel_rfl

theorem pack0 (w : World) : Calls Tryz.prog 14 #[.agg #[.slice none 0 0]] w fun e w' => e = .returned (.tuple #[.string PE, .int .i64 0]) ∧ Below w.heap.size w w' := by
  have h0 := (St.start w).alloc (.cells #[.slice none 0 0] 26)
  have c0 := h0.cell (List.mem_cons_self ..) 0
  go_enter Tryz.func14, Tryz.ntmps14
  go_upto_region 3 with (go_at_call 49; refine (h0.call (valid0 _)).mono ?_; rintro e w2 ⟨rfl, h2⟩)
  have hT := TBld.fresh w2
  have hlt := h2.lt (List.mem_cons_self ..)
  have HBX : Hid (∀ V, Below w2.heap.size w2 V → V.cell? ⟨w.heap.size, 0, none⟩ = some (.slice none 0 0)) := fun V hV => by rw [hV.cell (p := ⟨w.heap.size, 0, none⟩) hlt]; exact h2.cell (List.mem_cons_self ..) 0
  have HW := Lib.hid h2.below
  clear h0 c0
  go_upto_region 4 with fail
  generalize (w2.alloc (.cells #[.pointer none, .slice none 0 0] 103)).alloc (.cells #[.pointer none, .slice none 0 0] 103) = w3 at hT ⊢
  have c3 := HBX.out _ hT.below
  go_upto_region 6 with (first
    | (go_at_call 51; refine (varc0 _).mono ?_; rintro e w4 ⟨rfl, hb4⟩; have h4 := hT.later hb4)
    | (go_at_call 50; refine (h4.write [0] (by decide)).mono ?_; rintro e w5 ⟨rfl, vx, h5⟩; have c5 := HBX.out _ h5.below))
  go_loopw [20] (fun i wr => i = .int .i64 0 ∧ wr = w5) (fun _ _ => 0)
  case atStart => exact ⟨rfl, rfl⟩
  case round =>
    obtain ⟨rfl, rfl⟩ := hrel
    go_wp2_with (first
      | (go_at_call 55; refine (h9.swap.string).mono ?_; rintro e w10 ⟨rfl, h10⟩)
      | (go_at_call 55; refine (h7.string).mono ?_; rintro e w8 ⟨rfl, h8⟩)
      | (go_at_call 55; refine (h5.string).mono ?_; rintro e w6 ⟨rfl, h6⟩)
      | (go_at_call 54; refine (textc0 _).mono ?_; rintro e w7 ⟨rfl, hb7⟩; have h7 := h6.later hb7)
      | (go_at_call 56; refine (sumc0 _).mono ?_; rintro e w9 ⟨rfl, hb9⟩; have h9 := h8.later hb9))
    go_ret2
    exact ⟨by rfl, HW.out.trans (h10.below.mono HW.out.size)⟩

theorem cutE : cutP PE = (SE, true) := by decide
theorem cutG : cutP ⟨#[71]⟩ = (⟨#[71]⟩, false) := by decide
theorem txE : O.tx SE.data.toList 0 false = ([0], 2, false) := by decide
theorem tkE : O.tk SE.data.toList 2 false 4 = ([210, 2, 239, 141], 6, false) := by decide
/-- the file without tiles -/
abbrev fo0 (q : Option Addr) : Obj := .cells #[.slice q 0 0, .int .i64 0] 127
theorem infoEn : ∃ i z, Tryz.prog.info? 110 = some i ∧ i.zero = some z ∧ i.bytes ≤ 1000 := by
  have h : ((Tryz.prog.info? 110).map (fun i => (i.zero.isSome, decide (i.bytes ≤ 1000)))) = some (true, true) := by kernel_rfl
  obtain ⟨i, hi, h2⟩ := Option.map_eq_some_iff.1 h
  simp only [Prod.mk.injEq, decide_eq_true_eq] at h2
  obtain ⟨z, hz⟩ := Option.isSome_iff_exists.1 h2.1
  exact ⟨i, z, hi, hz, h2.2⟩
theorem infoPk : ∃ i z, Tryz.prog.info? 112 = some i ∧ i.zero = some z ∧ i.bytes ≤ 1000 := by
  have h : ((Tryz.prog.info? 112).map (fun i => (i.zero.isSome, decide (i.bytes ≤ 1000)))) = some (true, true) := by kernel_rfl
  obtain ⟨i, hi, h2⟩ := Option.map_eq_some_iff.1 h
  simp only [Prod.mk.injEq, decide_eq_true_eq] at h2
  obtain ⟨z, hz⟩ := Option.isSome_iff_exists.1 h2.1
  exact ⟨i, z, hi, hz, h2.2⟩
theorem mk0 (w : World) : ∃ o, (Instr.makeSlice 120 (.int .i64 0) (.int .i64 0)).run Tryz.prog w = .ok (.slice (some ⟨w.heap.size, 0, none⟩) 0 0) (w.alloc o) := by
  obtain ⟨i, z, hi, hz, _⟩ := infoEn
  exact ⟨_, run_make (P := Tryz.prog) w 120 110 i z Tryz.underlying120 hi hz .i64 .i64 0 0 (by omega) (Int.le_refl _) (by omega) (by omega)⟩
theorem mkP0 (w : World) : ∃ o, (Instr.makeSlice 123 (.int .i64 0) (.int .i64 0)).run Tryz.prog w = .ok (.slice (some ⟨w.heap.size, 0, none⟩) 0 0) (w.alloc o) := by
  obtain ⟨i, z, hi, hz, _⟩ := infoPk
  exact ⟨_, run_make (P := Tryz.prog) w 123 112 i z Tryz.underlying123 hi hz .i64 .i64 0 0 (by omega) (Int.le_refl _) (by omega) (by omega)⟩
theorem wpList_make {P : Program} {ops : Array Oper} {rest : List Oper} {o : Oper} {a : Act} {Q : Exit → Act → World → Prop} (hg : o.guard = none) (l c : Operand) (t : TypeId) (hop : o.op = Op.makeSlice t l c) (vl vc v : Value) (hl : a.eval l = vl) (hc : a.eval c = vc)
    (hr : (Instr.makeSlice t vl vc).run P w = .ok v w') (h : wpList P ops Q rest (a.put o.dst v) w') : wpList P ops Q (o :: rest) a w := by
  refine wpList_plain hg fun K hK => ?_
  unfold Oper.wp execOp
  simp only [hop, hl, hc, Sem.run_bind, hr, Result.andThen_ok, Sem.run_pure]
  exact hK _ _ h
theorem vrB : O.vr B0.data.toList 0 false = (0, 1, false) := by decide
theorem parse0 (w : World) : Calls Tryz.prog 63 #[.string B0] w fun e w' => ∃ q, e = .returned (.tuple #[.slice (some q) 0 0, .bool true]) ∧ Below w.heap.size w w' := by
  have h0 := St.start w
  have HV : Hid (∀ V, St w [(w.heap.size, rdo B0 0 false)] V → Calls Tryz.prog 116 #[.pointer (some ⟨w.heap.size, 0, none⟩)] V fun e w' => e = .returned (.int .i64 0) ∧ St w [(w.heap.size, rdo B0 1 false)] w') := fun V hV => by
    have h := rd_var hV (Nat.le_refl _) (by simp) (by decide) (by decide)
    rw [vrB] at h
    exact h
  have HF : Hid (∀ V, St w [(w.heap.size, rdo B0 1 false)] V → Calls Tryz.prog 117 #[.pointer (some ⟨w.heap.size, 0, none⟩)] V fun e w' => e = .returned (.int .i64 0) ∧ St w [(w.heap.size, rdo B0 1 false)] w') := fun V hV => rd_left hV (by decide) (by decide)
  have HM := Lib.hid mk0
  go_enter Tryz.func63, Tryz.ntmps63
  go_upto_region 5 with (first
    | (go_at_call 59; refine (read_new B0 h0).mono ?_; rintro e w1 ⟨rfl, h1⟩)
    | (go_at_call 116; refine (HV.out _ h1).mono ?_; rintro e w2 ⟨rfl, h2⟩))
  obtain ⟨o3, hm3⟩ := HM.out w2
  have h3 : St w [(w.heap.size, rdo B0 1 false)] (w2.alloc o3) := (h2.alloc o3).sub (by simp)
  go_upto_region 7 with (at_make; refine wpList_make rfl (.tmp 18) (.tmp 18) 120 rfl _ _ _ rfl rfl hm3 ?_)
  generalize w2.alloc o3 = w3 at h3 ⊢
  generalize w2.heap.size = b3
  go_loopw [22] (fun i wr => i = .int .i64 0 ∧ wr = w3) (fun _ _ => 0)
  case atStart => exact ⟨rfl, rfl⟩
  case round =>
    obtain ⟨rfl, rfl⟩ := hrel
    go_wp2_with (first
      | (go_at_call 62; refine (rd_failed h3).mono ?_; rintro e w4 ⟨rfl, h4⟩)
      | (go_at_call 117; refine (HF.out _ h4).mono ?_; rintro e w5 ⟨rfl, h5⟩))
    go_ret2
    exact ⟨_, rfl, h5.below⟩

theorem attach0 (q : Addr) (L : List (Nat × Obj)) (W w : World) (g : Nat) (h0 : St W ((g, rdo SE 6 false) :: L) w) : Calls Tryz.prog 64 #[.slice (some q) 0 0, .pointer (some ⟨g, 0, none⟩)] w fun e w' => ∃ r, e = .returned (.tuple #[.slice (some r) 0 0, .int .i64 0]) ∧ St W ((g, rdo SE 6 false) :: L) w' := by
  have HF : Hid (∀ V, St W ((g, rdo SE 6 false) :: L) V → Calls Tryz.prog 117 #[.pointer (some ⟨g, 0, none⟩)] V fun e w' => e = .returned (.int .i64 0) ∧ St W ((g, rdo SE 6 false) :: L) w') := fun V hV => rd_left hV (by decide) (by decide)
  obtain ⟨o3, hm3⟩ := mkP0 w
  have h3 : St W ((g, rdo SE 6 false) :: L) (w.alloc o3) := (h0.alloc o3).sub fun x hx => List.mem_cons_of_mem _ hx
  go_enter Tryz.func64, Tryz.ntmps64
  go_upto_region 3 with (at_make; refine wpList_make rfl (.tmp 10) (.tmp 10) 123 rfl _ _ _ rfl rfl hm3 ?_)
  generalize w.alloc o3 = w3 at h3 ⊢
  generalize w.heap.size = b3
  go_loopw [14] (fun i wr => i = .int .i64 0 ∧ wr = w3) (fun _ _ => 0)
  case atStart => exact ⟨rfl, rfl⟩
  case round =>
    obtain ⟨rfl, rfl⟩ := hrel
    go_wp2_with (first
      | (go_at_call 62; refine (rd_failed h3).mono ?_; rintro e w4 ⟨rfl, h4⟩)
      | (go_at_call 117; refine (HF.out _ h4).mono ?_; rintro e w5 ⟨rfl, h5⟩))
    go_ret2
    exact ⟨_, rfl, h5⟩
theorem built_file (q : Addr) (w : World) : (Instr.build 127 #[(0, .slice (some q) 0 0)]).run Tryz.prog w = .ok (.agg #[.slice (some q) 0 0, .int .i64 0]) w := run_build w 127 _ _ (by kernel_rfl)
set_option maxHeartbeats 1000000 in
theorem open0 (w : World) : Calls Tryz.prog 17 #[.string PE] w fun e w' => ∃ b q, e = .returned (.tuple #[.pointer (some ⟨b, 0, none⟩), .int .i64 0]) ∧ St w [(b, fo0 (some q))] w' := by
  have h0 := St.start w
  have HC : Hid (∀ V, Calls Tryz.prog 58 #[.string PE, .string sig] V fun e w' => e = .returned (.tuple #[.string SE, .bool true]) ∧ V = w') := fun V => by
    have h := cut_any PE V (by decide)
    rw [cutE] at h
    exact h
  have HT : Hid (∀ V, St w [(w.heap.size, rdo SE 0 false)] V → Calls Tryz.prog 60 #[.pointer (some ⟨w.heap.size, 0, none⟩)] V fun e w' => e = .returned (.string B0) ∧ St w [(w.heap.size, rdo SE 2 false)] w') := fun V hV => by
    have h := rd_text hV (Nat.le_refl _) (by simp) (by decide) (by decide)
    rw [txE] at h
    exact h
  have HK : Hid (∀ V, St w [(w.heap.size, rdo SE 2 false)] V → Calls Tryz.prog 61 #[.pointer (some ⟨w.heap.size, 0, none⟩), .int .i64 4] V fun e w' => e = .returned (.string ⟨#[210, 2, 239, 141]⟩) ∧ St w [(w.heap.size, rdo SE 6 false)] w') := fun V hV => by
    have h := rd_take 4 hV (Nat.le_refl _) (by simp) (by decide) (by decide)
    rw [tkE] at h
    exact h
  have HS : Hid (∀ V, Calls Tryz.prog 56 #[.string B0] V fun e w' => e = .returned (.string ⟨#[210, 2, 239, 141]⟩) ∧ Below V.heap.size V w') := sumc0
  have HB := Lib.hid built_file
  go_enter Tryz.func17, Tryz.ntmps17
  go_wp2_with (first
    | (go_at_call 58; refine (HC.out _).mono ?_; rintro e wq ⟨rfl, rfl⟩)
    | (go_at_call 59; refine (read_new SE h0).mono ?_; rintro e w1 ⟨rfl, h1⟩)
    | (go_at_call 60; refine (HT.out _ h1).mono ?_; rintro e w2 ⟨rfl, h2⟩)
    | (go_at_call 61; refine (HK.out _ h2).mono ?_; rintro e w3 ⟨rfl, h3⟩)
    | (go_at_call 62; refine (rd_failed h3).mono ?_; rintro e w4 ⟨rfl, h4⟩)
    | (go_at_call 56; refine (h4.call (HS.out _)).mono ?_; rintro e w5 ⟨rfl, h5⟩)
    | (go_at_call 63; refine (parse0 _).mono ?_; rintro e w6 ⟨q, rfl, hb6⟩; have h6 := h5.later hb6)
    | (go_at_call 64; refine (attach0 q [] w _ _ h6).mono ?_; rintro e w7 ⟨r, rfl, h7⟩)
    | (rw [HB.out]))
  have h8 := h7.alloc (fo0 (some r))
  go_ret2
  exact ⟨_, r, rfl, h8.sub (by simp)⟩
theorem openG (w : World) : Calls Tryz.prog 17 #[.string ⟨#[71]⟩] w fun e w' => e = .returned (.tuple #[.pointer none, .int .i64 11]) ∧ Below w.heap.size w w' := by
  have HC : Hid (∀ V, Calls Tryz.prog 58 #[.string ⟨#[71]⟩, .string sig] V fun e w' => e = .returned (.tuple #[.string ⟨#[71]⟩, .bool false]) ∧ V = w') := fun V => by
    have h := cut_any ⟨#[71]⟩ V (by decide)
    rw [cutG] at h
    exact h
  go_enter Tryz.func17, Tryz.ntmps17
  go_wp2_with (go_at_call 58; refine (HC.out _).mono ?_; rintro e wq ⟨rfl, rfl⟩)
  go_ret2
  exact ⟨rfl, Below.refl _ _⟩
end Go.Proofs.YtfncldaodbfakaaGreat.Z

namespace Go.Proofs.YtfncldaodbfakaaGreat.Z
open Go.RowKit Go.Shelf
set_option maxRecDepth 100000
variable {V W w w' : World} {L : List (Nat × Obj)} {b : Nat} {q : Option Addr}

theorem count0 (h : St W L w) (hm : (b, fo0 q) ∈ L) : Calls Tryz.prog 31 #[.pointer (some ⟨b, 0, none⟩)] w fun e w' => e = .returned (.int .i64 0) ∧ w' = w := by
  have c0 : w.cell? ⟨b, 0, none⟩ = some (.slice q 0 0) := h.cell hm 0
  clear h hm
  go_enter Tryz.func31, Tryz.ntmps31
  go_wp2
  go_ret
  exact ⟨rfl, rfl⟩
theorem countN (w : World) : Calls Tryz.prog 31 #[.pointer none] w fun e w' => e = .returned (.int .i64 0) ∧ w' = w := by
  go_enter Tryz.func31, Tryz.ntmps31
  go_wp2
  go_ret
  exact ⟨rfl, rfl⟩
theorem decodedN (w : World) : Calls Tryz.prog 26 #[.pointer none] w fun e w' => e = .returned (.int .i64 0) ∧ w' = w := by
  go_enter Tryz.func26, Tryz.ntmps26
  go_wp2
  go_ret
  exact ⟨rfl, rfl⟩
abbrev rz : Value := .agg #[.int .i64 0, .int .i64 0, .int .i64 0, .int .i64 0]
theorem boundsN (w : World) : Calls Tryz.prog 40 #[.pointer none] w fun e w' => e = .returned rz ∧ Below w.heap.size w w' := by
  go_enter Tryz.func40, Tryz.ntmps40
  go_wp2
  exact bodyPost_ret (v := rz) (by simp [results, Tryz.results40, go_sem, *]) rfl ⟨rfl, ((Below.refl _ w).alloc (Nat.le_refl _) _).alloc (by simp) _⟩
theorem bounds0 (h : St W L w) (hm : (b, fo0 q) ∈ L) : Calls Tryz.prog 40 #[.pointer (some ⟨b, 0, none⟩)] w fun e w' => e = .returned rz ∧ Below w.heap.size w w' := by
  have h2 := (h.alloc (.cells #[.int .i64 0, .int .i64 0, .int .i64 0, .int .i64 0] 49)).alloc (.cells #[.int .i64 0, .int .i64 0, .int .i64 0, .int .i64 0] 49)
  have h3 := ((St.start w).alloc (.cells #[.int .i64 0, .int .i64 0, .int .i64 0, .int .i64 0] 49)).alloc (.cells #[.int .i64 0, .int .i64 0, .int .i64 0, .int .i64 0] 49)
  have c0 := h2.cell (b := b) (cs := #[.slice q 0 0, .int .i64 0]) (t := 127) (by simp [hm]) 0
  rw [World.size_alloc] at h3
  have HB := Lib.hid h3.below
  clear h2 h h3
  go_enter Tryz.func40, Tryz.ntmps40
  go_upto_region 5 with fail
  go_loopw [14] (fun i wr => i = .int .i64 0 ∧ wr = (w.alloc (.cells #[.int .i64 0, .int .i64 0, .int .i64 0, .int .i64 0] 49)).alloc (.cells #[.int .i64 0, .int .i64 0, .int .i64 0, .int .i64 0] 49)) (fun _ _ => 0)
  case atStart => exact ⟨rfl, rfl⟩
  case round =>
    obtain ⟨rfl, rfl⟩ := hrel
    go_wp2
    exact bodyPost_ret (v := rz) (by simp [results, Tryz.results40, go_sem, *]) rfl ⟨rfl, HB.out⟩
end Go.Proofs.YtfncldaodbfakaaGreat.Z
