/-
  The table of rules, and the residuals of a tile (contracts).
-/
import Derived.Test.YtfncldaodbfakaaGreatPSpl
import Derived.Test.YtfncldaodbfakaaGreatPStr
import Derived.Great.BuildSlice
namespace Go.Proofs.YtfncldaodbfakaaGreat.P
open Go.RowKit T Go.Shelf
set_option maxRecDepth 100000
variable {W w w' : World} {L : List (Nat × Obj)}

/-- four planes, one behind the other -/
def jn (y u v a : Nat → Int) : Nat → Int := fun i => if i < 64 then y i else if i < 128 then u (i - 64) else if i < 192 then v (i - 128) else a (i - 192)
theorem jn_ch {y u v a : Nat → Int} (hy : ∀ i, i < 64 → Ch (y i)) (hu : ∀ i, i < 64 → Ch (u i)) (hv : ∀ i, i < 64 → Ch (v i)) (ha : ∀ i, i < 64 → Ch (a i)) : ∀ i, i < 256 → Ch (jn y u v a i) := by
  intro i hi
  unfold jn
  split
  · exact hy i (by omega)
  split
  · exact hu _ (by omega)
  split
  · exact hv _ (by omega)
  · exact ha _ (by omega)
theorem fill4 (place : Nat → Option (Nat × Nat)) (y u v a : Nat → Int) (z : Array Value) (hz : z.size = 256) (h0 : place 0 = some (0, 64)) (h1 : place 1 = some (64, 64)) (h2 : place 2 = some (128, 64)) (h3 : place 3 = some (192, 64)) :
    Instr.fill place z [(0, pv y), (1, pv u), (2, pv v), (3, pv a)] = some (qc (jn y u v a)) := by
  have c (f : Nat → Int) : (pv f).cells = pc f := rfl
  simp only [Instr.fill, h0, h1, h2, h3, c, pc_size, fold_size, hz]
  rw [if_neg (by first | (simp; done) | (simp; omega)), if_neg (by first | (simp; done) | (simp; omega)), if_neg (by first | (simp; done) | (simp; omega)), if_neg (by first | (simp; done) | (simp; omega))]
  refine congrArg some (Array.ext_getElem? fun i => ?_)
  have hs : ∀ (f : Nat → Int) (o : Nat) (cs : Array Value), cs.size = 256 → ((pc f).zipIdx.foldl (fun cs (c, j) => cs.setIfInBounds (o + j) c) cs).size = 256 := fun f o cs h => by rw [fold_size, h]
  rw [fold_arr _ _ _ _ (by rw [hs _ _ _ (hs _ _ _ (hs _ _ _ hz)), pc_size]; omega), fold_arr _ _ _ _ (by rw [hs _ _ _ (hs _ _ _ hz), pc_size]; omega), fold_arr _ _ _ _ (by rw [hs _ _ _ hz, pc_size]; omega), fold_arr _ _ _ _ (by rw [hz, pc_size]; omega), pc_size, pc_size, pc_size, pc_size]
  by_cases hi : i < 256
  · rw [qc_get _ i hi]
    unfold jn
    by_cases i1 : i < 64
    · rw [if_neg (by omega), if_neg (by omega), if_neg (by omega), if_pos (by omega), if_pos i1, Nat.sub_zero, pc_get y i i1]
    · rw [if_neg i1]
      by_cases i2 : i < 128
      · rw [if_neg (by omega), if_neg (by omega), if_pos (by omega), if_pos i2, pc_get u _ (by omega)]
      · rw [if_neg i2]
        by_cases i3 : i < 192
        · rw [if_neg (by omega), if_pos (by omega), if_pos i3, pc_get v _ (by omega)]
        · rw [if_pos (by omega), if_neg i3, pc_get a _ (by omega)]
  · rw [if_neg (by omega), if_neg (by omega), if_neg (by omega), if_neg (by omega), Array.getElem?_eq_none (by rw [hz]; omega), Array.getElem?_eq_none (by rw [qc_size]; omega)]
theorem infoP : (Tryz.prog.info? 231).map (fun i => (i.zero, i.size)) = some (some (pv zn), 64) := by kernel_rfl
theorem wp_slice4 {o : Oper} {a : Act} {K : Act → World → Prop} {Q : Exit → Act → World → Prop} (x0 x1 x2 x3 : Operand) (ho : o.op = .buildSlice 258 4 #[(0, x0), (1, x1), (2, x2), (3, x3)]) (f0 f1 f2 f3 : Nat → Int)
    (e0 : a.eval x0 = pv f0) (e1 : a.eval x1 = pv f1) (e2 : a.eval x2 = pv f2) (e3 : a.eval x3 = pv f3)
    (h : K (a.put o.dst (.slice (some ⟨w.heap.size, 0, none⟩) 4 4)) (w.alloc (qob (jn f0 f1 f2 f3)))) : o.wp Tryz.prog a w K Q := by
  obtain ⟨i0, hi, hz0⟩ := Option.map_eq_some_iff.1 infoP
  simp only [Prod.mk.injEq] at hz0
  refine wp_buildSlice 258 231 4 _ ho (qc (jn f0 f1 f2 f3)) i0 (pv zn) Tryz.underlying258 hi hz0.1 (by rw [hz0.2]; omega) (by rw [hz0.2]; omega) ?_ h
  simp only [List.map_toArray, List.map_cons, List.map_nil, e0, e1, e2, e3, hz0.2]
  exact fill4 _ f0 f1 f2 f3 _ (by simp) rfl rfl rfl rfl
/-- the table of rules -/
abbrev RV : Array Value := #[.func (.func 202) #[] #[], .func (.func 203) #[] #[], .func (.func 204) #[] #[], .func (.func 205) #[] #[], .func (.func 206) #[] #[], .func (.func 207) #[] #[]]
theorem rules_any (w : World) : Calls Tryz.prog 180 #[] w fun e w' => e = .returned (.agg RV) ∧ Below w.heap.size w w' := by
  go_enter Tryz.func180, Tryz.ntmps180
  go_wp2
  exact bodyPost_ret (v := .agg RV) (by simp [results, Tryz.results180, go_sem]) rfl ⟨rfl, below1⟩
theorem index_rv (k : Nat) (hk : k < 6) (w : World) : (Instr.index 229 (.agg RV) (.int .i64 (k : Int))).run Tryz.prog w = .ok (ruV k) w := by
  rcases (by omega : k = 0 ∨ k = 1 ∨ k = 2 ∨ k = 3 ∨ k = 4 ∨ k = 5) with rfl | rfl | rfl | rfl | rfl | rfl <;> kernel_rfl
theorem sLoad {P : Program} {ops : Array Oper} {rest : List Oper} {a : Act} {Q : Exit → Act → World → Prop} {dst : Option Tmp} {ty type : TypeId} {pos : String} {after : Array Edge} {x : Operand} {v : Value}
    (hl : (Instr.loadAt ty (a.eval x)).run P w = .ok v w) (h : wpList P ops Q rest (a.put dst v) w) : wpList P ops Q ({ dst := dst, op := .load ty x, type := type, pos := pos, after := after, guard := none } :: rest) a w :=
  wpList_load_of rfl ty x rfl v hl h
theorem sStore {P : Program} {ops : Array Oper} {rest : List Oper} {a : Act} {Q : Exit → Act → World → Prop} {dst : Option Tmp} {ty type : TypeId} {pos : String} {after : Array Edge} {x y : Operand}
    (hl : (Instr.storeAt ty (a.eval x) (a.eval y)).run P w = .ok () w') (h : wpList P ops Q rest (a.put dst undef) w') : wpList P ops Q ({ dst := dst, op := .store ty x y, type := type, pos := pos, after := after, guard := none } :: rest) a w :=
  wpList_store_of rfl ty x y rfl hl h
/-- the bytes that Forward returns -/
def fwd (k : Nat) (f : Nat → Px) : List UInt8 := bl (jn (res k (pY f)) (res k (pU f)) (res k (pV f)) (res k (pA f))) 256
/-- four planes in new blocks -/
theorem four (h : St W L w) (hW : W.heap.size ≤ w.heap.size) (y u v a : Nat → Int) {c : Nat} (hc : c = w.heap.size) : ∃ V2 V3 V4 V5 V6, V2 = (((w.alloc (pob zn)).alloc (pob zn)).alloc (pob zn)).alloc (pob zn) ∧
    (Instr.storeAt 231 (ptrB c) (pv y)).run Tryz.prog V2 = .ok () V3 ∧ (Instr.storeAt 231 (ptrB (c + 1)) (pv u)).run Tryz.prog V3 = .ok () V4 ∧
    (Instr.storeAt 231 (ptrB (c + 1 + 1)) (pv v)).run Tryz.prog V4 = .ok () V5 ∧ (Instr.storeAt 231 (ptrB (c + 1 + 1 + 1)) (pv a)).run Tryz.prog V5 = .ok () V6 ∧
    St W ((c, pob y) :: (c + 1, pob u) :: (c + 1 + 1, pob v) :: (c + 1 + 1 + 1, pob a) :: L) V6 := by
  have hL : ∀ x ∈ L, x.1 < c := fun x hx => hc ▸ h.lt hx
  have h2 := (((h.alloc (pob zn)).alloc (pob zn)).alloc (pob zn)).alloc (pob zn)
  simp only [World.size_alloc] at h2
  rw [← hc] at h2 hW
  have g0 := h2.sub (L' := (c, pob zn) :: (c + 1, pob zn) :: (c + 1 + 1, pob zn) :: (c + 1 + 1 + 1, pob zn) :: L) (by intro x hx; simp only [List.mem_cons] at hx ⊢; rcases hx with h | h | h | h | h <;> simp [h])
  have ne : ∀ {d e : Nat} {l : List (Nat × Obj)}, (∀ x ∈ l, x.1 ≠ d) → e ≠ d → ∀ {o : Obj}, ∀ x ∈ (e, o) :: l, x.1 ≠ d := fun hl he _ x hx => by
    rcases List.mem_cons.1 hx with rfl | hx
    · exact he
    · exact hl x hx
  have nL : ∀ d, c ≤ d → ∀ x ∈ L, x.1 ≠ d := fun d hd x hx => by have := hL x hx; omega
  have s1 := store_pl c zn y _ (g0.row (List.mem_cons_self ..))
  have g1 := St.rowset (ds := pc y) g0 hW (ne (ne (ne (nL c (Nat.le_refl _)) (by omega)) (by omega)) (by omega))
  have g1' := g1.sub (L' := (c + 1, pob zn) :: (c, pob y) :: (c + 1 + 1, pob zn) :: (c + 1 + 1 + 1, pob zn) :: L) (by intro x hx; simp only [List.mem_cons] at hx ⊢; rcases hx with h | h | h | h | h <;> simp [h])
  have s2 := store_pl (c + 1) zn u _ (g1'.row (List.mem_cons_self ..))
  have g2 := St.rowset (ds := pc u) g1' (by omega) (ne (ne (ne (nL (c + 1) (by omega)) (by omega)) (by omega)) (by omega))
  have g2' := g2.sub (L' := (c + 1 + 1, pob zn) :: (c, pob y) :: (c + 1, pob u) :: (c + 1 + 1 + 1, pob zn) :: L) (by intro x hx; simp only [List.mem_cons] at hx ⊢; rcases hx with h | h | h | h | h <;> simp [h])
  have s3 := store_pl (c + 1 + 1) zn v _ (g2'.row (List.mem_cons_self ..))
  have g3 := St.rowset (ds := pc v) g2' (by omega) (ne (ne (ne (nL (c + 1 + 1) (by omega)) (by omega)) (by omega)) (by omega))
  have g3' := g3.sub (L' := (c + 1 + 1 + 1, pob zn) :: (c, pob y) :: (c + 1, pob u) :: (c + 1 + 1, pob v) :: L) (by intro x hx; simp only [List.mem_cons] at hx ⊢; rcases hx with h | h | h | h | h <;> simp [h])
  have s4 := store_pl (c + 1 + 1 + 1) zn a _ (g3'.row (List.mem_cons_self ..))
  have g4 := St.rowset (ds := pc a) g3' (by omega) (ne (ne (ne (nL (c + 1 + 1 + 1) (by omega)) (by omega)) (by omega)) (by omega))
  exact ⟨_, _, _, _, _, rfl, s1, s2, s3, s4, g4.sub (by intro x hx; simp only [List.mem_cons] at hx ⊢; rcases hx with h | h | h | h | h <;> simp [h])⟩
theorem isP_no (k : Int) (w : World) (hk : k < 0 ∨ 6 ≤ k) : Calls Tryz.prog 179 #[.int .i64 k] w fun e w' => e = .returned (.bool false) ∧ w = w' := by
  have e : (decide (0 ≤ k) && decide (k < 6)) = false := by rcases hk with h | h <;> simp <;> omega
  rw [← e]; exact isP_any k w
theorem isP_yes (k : Nat) (w : World) (hk : k < 6) : Calls Tryz.prog 179 #[.int .i64 k] w fun e w' => e = .returned (.bool true) ∧ w = w' := by
  have e : (decide (0 ≤ (k : Int)) && decide ((k : Int) < 6)) = true := by simp; omega
  rw [← e]; exact isP_any k w
theorem fwd_bad (k : Int) (f : Nat → Px) (w : World) (hk : k < 0 ∨ 6 ≤ k) : Calls Tryz.prog 150 #[tv f, .int .i64 k] w fun e w' => e = .returned (.tuple #[.string ⟨#[]⟩, .int .i64 1]) ∧ Below w.heap.size w w' := by
  have HI : Hid (∀ V, Calls Tryz.prog 179 #[.int .i64 k] V fun e w' => e = .returned (.bool false) ∧ V = w') := fun V => isP_no k V hk
  clear hk
  go_enter Tryz.func150, Tryz.ntmps150
  go_wp2_with (go_at_call 179; refine (HI.out _).mono ?_; rintro e w1 ⟨rfl, rfl⟩)
  exact bodyPost_ret (v := .tuple #[.string ⟨#[]⟩, .int .i64 1]) (by simp [results, Tryz.results150, go_sem]) rfl ⟨rfl, below1⟩
set_option maxHeartbeats 4000000 in
theorem fwd_any (k : Nat) (f : Nat → Px) (w : World) (hk : k < 6) (hf : ∀ i, i < 64 → Pc (f i)) : Calls Tryz.prog 150 #[tv f, .int .i64 k] w fun e w' => e = .returned (.tuple #[.string (str (fwd k f)), .int .i64 0]) ∧ Below w.heap.size w w' := by
  have HI : Hid (∀ V, Calls Tryz.prog 179 #[.int .i64 k] V fun e w' => e = .returned (.bool true) ∧ V = w') := fun V => isP_yes k V hk
  obtain ⟨b0, hb0⟩ : ∃ b0, b0 = w.heap.size := ⟨_, rfl⟩
  have h0 := (St.start w).alloc (tob f)
  obtain ⟨w0, hw0⟩ : ∃ w0, w0 = w.alloc (tob f) := ⟨_, rfl⟩
  rw [← hb0, ← hw0] at h0
  have HW0 := Lib.hid hw0
  have HB0 := Lib.hid hb0
  clear hw0 hb0
  have hix := index_rv k hk
  go_enter Tryz.func150, Tryz.ntmps150
  go_upto_region 1 with fail
  have e1 : w.alloc (tob f) = w0 := HW0.out.symm
  rw [e1, ← HB0.out]
  clear e1
  go_upto_region 3 with (go_at_call 179; refine (HI.out _).mono ?_; rintro e w1 ⟨rfl, rfl⟩)
  go_upto_region 4 with (go_at_call 180; (with_reducible refine (St.call h0 (rules_any _)).mono ?_); rintro e w1 ⟨rfl, h1⟩)
  have h2 := h1.alloc (ruO k)
  generalize w1.heap.size = d at h2 ⊢
  have e1 : (.cells #[.func (.func (rf k)) #[] #[]] 228 : Obj) = ruO k := rfl
  rw [e1]
  clear e1
  generalize w1.alloc (ruO k) = w2 at h2 ⊢
  have HL0 := Lib.hid (load_tile b0 f w2 (h2.row (b := b0) (o := tob f) (by simp)))
  have HSP := Lib.hid (St.call h2 (split_any f w2 hf))
  clear h1 h0 HW0 hix HI
  go_upto_region 5 with (first
    | (refine wpList_load_of rfl 38 (.tmp 2) rfl _ HL0.out ?_)
    | (go_at_call 181; refine HSP.out.mono ?_; rintro e w3 ⟨rfl, h3⟩; obtain ⟨V2, V3, V4, V5, V6, hV2, s1, s2, s3, s4, h6⟩ := four h3 h3.below.size (pY f) (pU f) (pV f) (pA f) rfl; subst hV2; have HS1 := Lib.hid s1; have HS2 := Lib.hid s2; have HS3 := Lib.hid s3; have HS4 := Lib.hid s4; have H6 := Lib.hid h6; clear s1 s2 s3 s4 h6 h3)
    | (refine wpList_alloc_of rfl 231 rfl _ (zero_pl _) ?_; try simp only [World.size_alloc])
    | (refine sStore (x := .tmp 7) (y := .tmp 20) (w' := V3) ?_ ?_; (focus exact HS1.out); refine sStore (x := .tmp 8) (y := .tmp 21) (w' := V4) ?_ ?_; (focus exact HS2.out); refine sStore (x := .tmp 9) (y := .tmp 22) (w' := V5) ?_ ?_; (focus exact HS3.out); refine sStore (x := .tmp 10) (y := .tmp 23) (w' := V6) ?_ ?_; (focus exact HS4.out)))
  simp only [Act.put, List.setIfInBounds_toArray, List.set_cons_zero, List.set_cons_succ]
  have h9 := H6.out
  clear HS1 HS2 HS3 HS4 H6 HL0 HSP
  generalize w3.heap.size = c at h9 ⊢
  refine wp_region_held_drew (S := fun V9 => St w [(c, pob (pY f)), (c + 1, pob (pU f)), (c + 1 + 1, pob (pV f)), (c + 1 + 1 + 1, pob (pA f)), (d, ruO k), (b0, tob f)] V9) (by kernel_rfl) ?_ (fun hHeld => ?_)
  · first | exact h9.drew | exact h9.drew.tl
  have h90 := h9.drew
  refine wpAnyH_take (i := 0) (oi := { dst := some 24, op := Op.load 228 (Operand.tmp 6), type := 228, pos := "predict.go:13", after := #[], guard := none }) rfl (by kernel_rfl) (by kernel_rfl) (by kernel_rfl) (fun _ _ _ h => h) (yields_load (by kernel_rfl) 228 (.tmp 6) rfl (ruV k) (fun V hV => load_ru d k V (St.row hV (b := d) (o := ruO k) (by simp)))) (by assumption) ?_
  try simp only [Act.put, List.setIfInBounds_toArray, List.set_cons_zero, List.set_cons_succ]
  refine wpAnyH_take (i := 1) (oi := { dst := some 25, op := Op.load 231 (Operand.tmp 7), type := 231, pos := "predict.go:13", after := #[], guard := none }) rfl (by kernel_rfl) (by kernel_rfl) (by kernel_rfl) (fun _ _ _ h => h) (yields_load (by kernel_rfl) 231 (.tmp 7) rfl (pv (pY f)) (fun V hV => load_pl (c) (pY f) V (St.row hV (b := c) (o := pob (pY f)) (by simp)))) (by assumption) ?_
  try simp only [Act.put, List.setIfInBounds_toArray, List.set_cons_zero, List.set_cons_succ]
  refine wpAnyH_take (i := 3) (oi := { dst := some 27, op := Op.load 228 (Operand.tmp 6), type := 228, pos := "predict.go:13", after := #[], guard := none }) rfl (by kernel_rfl) (by kernel_rfl) (by kernel_rfl) (fun _ _ _ h => h) (yields_load (by kernel_rfl) 228 (.tmp 6) rfl (ruV k) (fun V hV => load_ru d k V (St.row hV (b := d) (o := ruO k) (by simp)))) (by assumption) ?_
  try simp only [Act.put, List.setIfInBounds_toArray, List.set_cons_zero, List.set_cons_succ]
  refine wpAnyH_take (i := 4) (oi := { dst := some 28, op := Op.load 231 (Operand.tmp 8), type := 231, pos := "predict.go:13", after := #[], guard := none }) rfl (by kernel_rfl) (by kernel_rfl) (by kernel_rfl) (fun _ _ _ h => h) (yields_load (by kernel_rfl) 231 (.tmp 8) rfl (pv (pU f)) (fun V hV => load_pl (c + 1) (pU f) V (St.row hV (b := c + 1) (o := pob (pU f)) (by simp)))) (by assumption) ?_
  try simp only [Act.put, List.setIfInBounds_toArray, List.set_cons_zero, List.set_cons_succ]
  refine wpAnyH_take (i := 6) (oi := { dst := some 30, op := Op.load 228 (Operand.tmp 6), type := 228, pos := "predict.go:13", after := #[], guard := none }) rfl (by kernel_rfl) (by kernel_rfl) (by kernel_rfl) (fun _ _ _ h => h) (yields_load (by kernel_rfl) 228 (.tmp 6) rfl (ruV k) (fun V hV => load_ru d k V (St.row hV (b := d) (o := ruO k) (by simp)))) (by assumption) ?_
  try simp only [Act.put, List.setIfInBounds_toArray, List.set_cons_zero, List.set_cons_succ]
  refine wpAnyH_take (i := 7) (oi := { dst := some 31, op := Op.load 231 (Operand.tmp 9), type := 231, pos := "predict.go:13", after := #[], guard := none }) rfl (by kernel_rfl) (by kernel_rfl) (by kernel_rfl) (fun _ _ _ h => h) (yields_load (by kernel_rfl) 231 (.tmp 9) rfl (pv (pV f)) (fun V hV => load_pl (c + 1 + 1) (pV f) V (St.row hV (b := c + 1 + 1) (o := pob (pV f)) (by simp)))) (by assumption) ?_
  try simp only [Act.put, List.setIfInBounds_toArray, List.set_cons_zero, List.set_cons_succ]
  refine wpAnyH_take (i := 9) (oi := { dst := some 33, op := Op.load 228 (Operand.tmp 6), type := 228, pos := "predict.go:13", after := #[], guard := none }) rfl (by kernel_rfl) (by kernel_rfl) (by kernel_rfl) (fun _ _ _ h => h) (yields_load (by kernel_rfl) 228 (.tmp 6) rfl (ruV k) (fun V hV => load_ru d k V (St.row hV (b := d) (o := ruO k) (by simp)))) (by assumption) ?_
  try simp only [Act.put, List.setIfInBounds_toArray, List.set_cons_zero, List.set_cons_succ]
  refine wpAnyH_take (i := 10) (oi := { dst := some 34, op := Op.load 231 (Operand.tmp 10), type := 231, pos := "predict.go:13", after := #[], guard := none }) rfl (by kernel_rfl) (by kernel_rfl) (by kernel_rfl) (fun _ _ _ h => h) (yields_load (by kernel_rfl) 231 (.tmp 10) rfl (pv (pA f)) (fun V hV => load_pl (c + 1 + 1 + 1) (pA f) V (St.row hV (b := c + 1 + 1 + 1) (o := pob (pA f)) (by simp)))) (by assumption) ?_
  try simp only [Act.put, List.setIfInBounds_toArray, List.set_cons_zero, List.set_cons_succ]
  refine wpAnyH_ready (rs := [2]) (by kernel_rfl) (by simp) (AllReadyH.cons (o := { dst := some 26, op := Op.call { callee := Callee.value (Operand.func 183), args := #[Operand.tmp 24, Operand.tmp 25], argTypes := #[228, 231] }, type := 231, pos := "predict.go:13", after := #[{ on := 0, ground := Ground.data }, { on := 1, ground := Ground.data }], guard := none }) rfl (fun K hK => ?_) AllReadyH.nil)
  (go_simp; (go_at_call 183; (refine (St.call h90 (resid_any k (pY f) _ (fun i _ => pY_ch f i))).mono ?_); rintro e V1r5 ⟨rfl, h91r5⟩))
  refine hK.out _ _ ?_ (fun hHeld => ?_)
  · (first | exact h91r5 | exact h91r5.tl)
  clear hK K
  try simp only [Act.put, List.setIfInBounds_toArray, List.set_cons_zero, List.set_cons_succ]
  refine wpAnyH_ready (rs := [5]) (by kernel_rfl) (by simp) (AllReadyH.cons (o := { dst := some 29, op := Op.call { callee := Callee.value (Operand.func 183), args := #[Operand.tmp 27, Operand.tmp 28], argTypes := #[228, 231] }, type := 231, pos := "predict.go:13", after := #[{ on := 3, ground := Ground.data }, { on := 4, ground := Ground.data }, { on := 2, ground := Ground.chain }], guard := none }) rfl (fun K hK => ?_) AllReadyH.nil)
  (go_simp; (go_at_call 183; (refine (St.call h91r5 (resid_any k (pU f) _ (fun i _ => pU_ch f i))).mono ?_); rintro e V2r5 ⟨rfl, h92r5⟩))
  refine hK.out _ _ ?_ (fun hHeld => ?_)
  · (first | exact h92r5 | exact h92r5.tl)
  clear hK K
  try simp only [Act.put, List.setIfInBounds_toArray, List.set_cons_zero, List.set_cons_succ]
  refine wpAnyH_ready (rs := [8]) (by kernel_rfl) (by simp) (AllReadyH.cons (o := { dst := some 32, op := Op.call { callee := Callee.value (Operand.func 183), args := #[Operand.tmp 30, Operand.tmp 31], argTypes := #[228, 231] }, type := 231, pos := "predict.go:13", after := #[{ on := 6, ground := Ground.data }, { on := 7, ground := Ground.data }, { on := 5, ground := Ground.chain }], guard := none }) rfl (fun K hK => ?_) AllReadyH.nil)
  (go_simp; (go_at_call 183; (refine (St.call h92r5 (resid_any k (pV f) _ (fun i _ => pV_ch f i))).mono ?_); rintro e V3r5 ⟨rfl, h93r5⟩))
  refine hK.out _ _ ?_ (fun hHeld => ?_)
  · (first | exact h93r5 | exact h93r5.tl)
  clear hK K
  try simp only [Act.put, List.setIfInBounds_toArray, List.set_cons_zero, List.set_cons_succ]
  refine wpAnyH_ready (rs := [11]) (by kernel_rfl) (by simp) (AllReadyH.cons (o := { dst := some 35, op := Op.call { callee := Callee.value (Operand.func 183), args := #[Operand.tmp 33, Operand.tmp 34], argTypes := #[228, 231] }, type := 231, pos := "predict.go:13", after := #[{ on := 9, ground := Ground.data }, { on := 10, ground := Ground.data }, { on := 8, ground := Ground.chain }], guard := none }) rfl (fun K hK => ?_) AllReadyH.nil)
  (go_simp; (go_at_call 183; (refine (St.call h93r5 (resid_any k (pA f) _ (fun i hi => (hf i hi).2.2.2))).mono ?_); rintro e V4r5 ⟨rfl, h94r5⟩))
  refine hK.out _ _ ?_ (fun hHeld => ?_)
  · (first | exact h94r5 | exact h94r5.tl)
  clear hK K
  try simp only [Act.put, List.setIfInBounds_toArray, List.set_cons_zero, List.set_cons_succ]
  refine wpAnyH_ready (rs := [12]) (by kernel_rfl) (by simp) (AllReadyH.cons (o := { dst := some 36, op := Op.buildSlice 258 4 #[(0, Operand.tmp 26), (1, Operand.tmp 29), (2, Operand.tmp 32), (3, Operand.tmp 35)], type := 258, pos := "predict.go:13", after := #[{ on := 2, ground := Ground.data }, { on := 5, ground := Ground.data }, { on := 8, ground := Ground.data }, { on := 11, ground := Ground.data }], guard := none }) rfl (fun K hK => ?_) AllReadyH.nil)
  have h95r5 := h94r5.alloc (qob (jn (res k (pY f)) (res k (pU f)) (res k (pV f)) (res k (pA f))))
  refine wp_slice4 (.tmp 26) (.tmp 29) (.tmp 32) (.tmp 35) rfl (res k (pY f)) (res k (pU f)) (res k (pV f)) (res k (pA f)) rfl rfl rfl rfl ?_
  refine hK.out _ _ ?_ (fun hHeld => ?_)
  · (first | exact h95r5 | exact h95r5.tl)
  clear hK K
  try simp only [Act.put, List.setIfInBounds_toArray, List.set_cons_zero, List.set_cons_succ]
  refine wpAnyH_ready (rs := [13]) (by kernel_rfl) (by simp) (AllReadyH.cons (o := { dst := some 37, op := Op.call { callee := Callee.value (Operand.func 182), args := #[Operand.tmp 36], argTypes := #[258] }, type := 9, pos := "predict.go:13", after := #[{ on := 12, ground := Ground.data }, { on := 11, ground := Ground.chain }], guard := none }) rfl (fun K hK => ?_) AllReadyH.nil)
  (go_simp; (go_at_call 182; (refine (St.call h95r5 (join_any (jn (res k (pY f)) (res k (pU f)) (res k (pV f)) (res k (pA f))) _ _ (h95r5.row (List.mem_cons_self ..)) (jn_ch (fun _ _ => b8_ch _) (fun _ _ => b8_ch _) (fun _ _ => b8_ch _) (fun _ _ => b8_ch _)))).mono ?_); rintro e V6r5 ⟨rfl, h96r5⟩))
  refine hK.out _ _ ?_ (fun hHeld => ?_)
  · (first | exact h96r5 | exact h96r5.tl)
  clear hK K
  try simp only [Act.put, List.setIfInBounds_toArray, List.set_cons_zero, List.set_cons_succ]
  refine wpAnyH_take (i := 14) (oi := { dst := some 4, op := Op.assign (Operand.tmp 37), type := 9, pos := "predict.go:13", after := #[{ on := 13, ground := Ground.data }, { on := 13, ground := Ground.chain }, { on := 0, ground := Ground.phase }, { on := 1, ground := Ground.phase }, { on := 2, ground := Ground.phase }, { on := 3, ground := Ground.phase }, { on := 4, ground := Ground.phase }, { on := 5, ground := Ground.phase }, { on := 6, ground := Ground.phase }, { on := 7, ground := Ground.phase }, { on := 8, ground := Ground.phase }, { on := 9, ground := Ground.phase }, { on := 10, ground := Ground.phase }, { on := 11, ground := Ground.phase }, { on := 12, ground := Ground.phase }, { on := 13, ground := Ground.phase }], guard := none }) (v := ?_) rfl (by kernel_rfl) (by kernel_rfl) (by kernel_rfl) (fun _ _ _ h => h) (Or.inl ⟨by kernel_rfl, ?_⟩) (by assumption) ?_
  rotate_left 1
  focus (intro w hSw; (try dsimp only at hSw); go_simp; (try with_reducible rfl))
  try simp only [Act.put, List.setIfInBounds_toArray, List.set_cons_zero, List.set_cons_succ]
  refine wpAnyH_take (i := 15) (oi := { dst := some 5, op := Op.assign (Operand.const (Value.int IntKind.i64 0)), type := 28, pos := "predict.go:13", after := #[{ on := 14, ground := Ground.chain }, { on := 0, ground := Ground.phase }, { on := 1, ground := Ground.phase }, { on := 2, ground := Ground.phase }, { on := 3, ground := Ground.phase }, { on := 4, ground := Ground.phase }, { on := 5, ground := Ground.phase }, { on := 6, ground := Ground.phase }, { on := 7, ground := Ground.phase }, { on := 8, ground := Ground.phase }, { on := 9, ground := Ground.phase }, { on := 10, ground := Ground.phase }, { on := 11, ground := Ground.phase }, { on := 12, ground := Ground.phase }, { on := 13, ground := Ground.phase }, { on := 14, ground := Ground.phase }], guard := none }) (v := ?_) rfl (by kernel_rfl) (by kernel_rfl) (by kernel_rfl) (fun _ _ _ h => h) (Or.inl ⟨by kernel_rfl, ?_⟩) (by assumption) ?_
  rotate_left 1
  focus (intro w hSw; (try dsimp only at hSw); go_simp; (try with_reducible rfl))
  try simp only [Act.put, List.setIfInBounds_toArray, List.set_cons_zero, List.set_cons_succ]
  refine wpAnyH_done (by kernel_rfl) ?_ _
  go_wp2
  have hend := h96r5.below
  clear hHeld
  exact bodyPost_ret (v := .tuple #[.string (str (fwd k f)), .int .i64 0]) (by simp [results, Tryz.results150, go_sem, fwd]) rfl ⟨rfl, hend⟩
end Go.Proofs.YtfncldaodbfakaaGreat.P
