/-
  The reference's Of, many and Put (contracts). The reference's pixels and tiles made of numbers (contracts).
-/
import Derived.Test.YtfncldaodbfakaaGreatQPutS
import Derived.Laws.BitsAllLaws
namespace Go.Proofs.YtfncldaodbfakaaGreat.Q
open Go.RowKit T Go.Shelf
set_option maxRecDepth 100000
variable {V W w w' : World} {L : List (Nat × Obj)}

theorem vts_len (l : List TA) : (vts l).length ≤ l.length ∧ (vts l).length ≤ 1024 := by
  unfold vts
  split
  · rename_i h
    exact ⟨Nat.le_refl _, ((vldR_iff l).1 h).1⟩
  · simp
theorem ld_ra {b n c : Nat} {p : Option Addr} (h : V.heap[b]? = some (rob p n c)) : (Instr.loadAt 26 (.pointer (some ⟨b, 0, none⟩))).run Tryz.prog V = .ok (rv1 p n c) V := by
  have ha : (Instr.sureAddr (.pointer (some ⟨b, 0, none⟩))).run Tryz.prog V = .ok ⟨b, 0, none⟩ V := rfl
  simp only [Instr.loadAt, Sem.run_bind, ha, Result.andThen_ok, run_loadVar_row V b 26 26 #[.slice p n c] (0, 0) _ h Tryz.underlying26 rfl (by kernel_rfl)]
/-- a raster and an error, as a value -/
abbrev gv (q : Option Addr) (m d : Nat) (e : Int) : Value := .agg #[.slice q m d, .int .i64 e]
abbrev go (q : Option Addr) (m d : Nat) (e : Int) : Obj := .cells #[.slice q m d, .int .i64 e] 98
theorem store_go {b n c m d : Nat} {p q : Option Addr} {e1 e2 : Int} (h : w.heap[b]? = some (go p n c e1)) : (Instr.storeAt 98 (.pointer (some ⟨b, 0, none⟩)) (gv q m d e2)).run Tryz.prog w = .ok () (w.setRow b #[.slice q m d, .int .i64 e2]) := by
  simp only [Instr.storeAt, Instr.sureAddr, Sem.run_bind, Sem.run_pure, Result.andThen_ok, run_storeVar_row (P := Tryz.prog) w b _ 98 _ #[.slice q m d, .int .i64 e2] h (by kernel_rfl) rfl (by simp; exact ⟨rfl, rfl⟩)]
theorem built_go (q : Option Addr) (m d : Nat) (w : World) : (Instr.build 98 #[(0, rv1 q m d)]).run Tryz.prog w = .ok (gv q m d 0) w := run_build w 98 _ _ (by kernel_rfl)
theorem built_ge (e : Int) (w : World) : (Instr.build 98 #[(1, .int .i64 e)]).run Tryz.prog w = .ok (gv none 0 0 e) w := run_build w 98 _ _ (by kernel_rfl)
theorem res_go {fn : Func} {p : Tmp} (h : fn.results = #[.cell p 98]) (tmps : Array Value) (w : World) (g : Nat) (q : Option Addr) (n c : Nat) (e : Int) (hp : tmps.getD p undef = .pointer (some ⟨g, 0, none⟩)) (hrow : w.heap[g]? = some (go q n c e)) :
    (results fn tmps).run Tryz.prog w = .ok (gv q n c e) w :=
  results_cell_row h tmps w g _ _ _ _ hp hrow Tryz.underlying98 rfl (by kernel_rfl)
theorem RS.row {p : Option Addr} {n c b : Nat} {l : List TA} {cs : Array Value} (h : RS V p n c l) (hb : ∀ a, p = some a → a.block ≠ b) : RS (V.setRow b cs) p n c l := RS.set h hb
theorem rs_old {p : Option Addr} {n c : Nat} {l : List TA} (h : RS V p n c l) : ∀ a, p = some a → a.block < V.heap.size := by
  intro a e
  rcases h.mem with ⟨rfl, _⟩ | ⟨b, o, rfl, hlt, _⟩
  · cases e
  · cases e; exact hlt
theorem sBuildE {P : Program} {ops : Array Oper} {rest : List Oper} {a : Act} {Q : Exit → Act → World → Prop} {w : World} {dst : Option Tmp} {ty type : TypeId} {pos : String} {after : Array Edge} {x : Operand} {v : Value} (hl : (Instr.build ty #[(1, a.eval x)]).run P w = .ok v w) (h : wpList P ops Q rest (a.put dst v) w) : wpList P ops Q ({ dst := dst, op := .build ty #[(1, x)], type := type, pos := pos, after := after, guard := none } :: rest) a w :=
  wpList_build_of rfl ty _ rfl v (by simpa using hl) h
theorem rs_small {p : Option Addr} {n c b : Nat} {l : List TA} {cs ds : Array Value} {t : TypeId} (h : RS V p n c l) (hb : V.heap[b]? = some (.cells cs t)) (hc : cs.size < 258) : RS (V.setRow b ds) p n c l := by
  refine ⟨h.len, h.cap, h.big, h.sml, h.mem.imp id fun ⟨b', o, e, hlt, hr⟩ => ⟨b', o, e, by simpa [World.setRow] using hlt, fun j v hv => ?_⟩⟩
  have h1 := hr j v hv
  by_cases hbb : b' = b
  · exfalso
    subst hbb
    cases l with
    | nil => simp [tal] at hv
    | cons a l =>
      have h257 : (tal (a :: l))[257]? ≠ none := by
        rw [ne_eq, List.getElem?_eq_none_iff, tal_len, List.length_cons]; omega
      obtain ⟨u, hu⟩ := Option.ne_none_iff_exists'.1 h257
      have h2 := hr 257 u hu
      rw [cell_of_row V b' (o + 257) cs t (0, 0) hb, Array.getElem?_eq_none (by omega)] at h2
      cases h2
  · rw [World.cell?_of_block (w := V) (a := ⟨b', o + j, none⟩) (setRow_other V b b' ds hbb)]
    exact h1
theorem rof_any (p : Option Addr) (n c : Nat) (l : List TA) (w : World) (hr : RS w p n c l) : Calls Tryz.prog 87 #[rv1 p n c] w fun e w' => ∃ q m d, e = .returned (rv1 q m d) ∧ RS w' q m d (vts l) ∧ Below w.heap.size w w' := by
  have hs := ((St.start w).alloc (rob p n c)).alloc (rob none 0 0)
  simp only [World.size_alloc] at hs
  have HR := Lib.hid hr
  have HV : Hid (∀ V, Below w.heap.size w V → Calls Tryz.prog 57 #[rv1 p n c] V fun e w' => e = .returned (.bool (vldR l)) ∧ Below V.heap.size V w') := fun V hV => rvalid_any p n c l V (hr.later hV)
  have HT : Hid (vts l = if vldR l then l else []) := rfl
  have H1 := Lib.hid hs
  have HL0 := Lib.hid (ld_ra (hs.row (b := w.heap.size) (o := rob p n c) (by simp)))
  have h1 := hs
  clear hr hs
  generalize vldR l = z at *
  go_enter Tryz.func87, Tryz.ntmps87
  go_upto_region 2 with (first
    | ((with_reducible refine sLoad (ty := 26) (v := rv1 p n c) ?_ ?_); · exact HL0.out)
    | (go_at_call 57; with_reducible refine (h1.call (HV.out _ h1.below)).mono ?_; rintro e V2 ⟨rfl, h2⟩))
  have HL2 := Lib.hid (ld_ra (h2.row (b := w.heap.size) (o := rob p n c) (by simp)))
  have HR2 := Lib.hid (h2.row (b := w.heap.size + 1) (o := rob none 0 0) (by simp))
  have HB := Lib.hid h2.below
  clear h1 h2 H1 HL0 HV
  cases z
  · go_wp2_with (first
      | ((with_reducible refine sBuild0 (ty := 26) (v := rv1 none 0 0) ?_ ?_); · exact built_ra0 _)
      | ((with_reducible refine sStore (ty := 26) (w' := V2.setRow (w.heap.size + 1) #[.slice none 0 0]) ?_ ?_); · exact store_ra _ _ _ _ _ _ _ _ HR2.out))
    exact bodyPost_ret (res_r rfl _ _ (w.heap.size + 1) none 0 0 rfl (setRow_heap _ _ _ _ _ _ HR2.out)) rfl ⟨none, 0, 0, rfl, by rw [HT.out]; exact RS.nil _, Below.setRow HB.out (by omega) _⟩
  · go_wp2_with (first
      | ((with_reducible refine sLoad (ty := 26) (v := rv1 p n c) ?_ ?_); · exact HL2.out)
      | ((with_reducible refine sStore (ty := 26) (w' := V2.setRow (w.heap.size + 1) #[.slice p n c]) ?_ ?_); · exact store_ra _ _ _ _ _ _ _ _ HR2.out))
    exact bodyPost_ret (res_r rfl _ _ (w.heap.size + 1) p n c rfl (setRow_heap _ _ _ _ _ _ HR2.out)) rfl ⟨p, n, c, rfl, by rw [HT.out]; exact rs_small (HR.out.later HB.out) HR2.out (by simp), Below.setRow HB.out (by omega) _⟩
theorem rmany_any (p : Option Addr) (n c : Nat) (l : List TA) (w : World) (hr : RS w p n c l) : Calls Tryz.prog 101 #[rv1 p n c] w fun e w' => ∃ q m d, e = .returned (gv q m d (if l.length ≤ 1024 then 0 else 2)) ∧ RS w' q m d (if l.length ≤ 1024 then l else []) ∧ Below w.heap.size w w' := by
  have hs := ((St.start w).alloc (rob p n c)).alloc (go none 0 0 0)
  simp only [World.size_alloc] at hs
  have HR := Lib.hid hr
  have hn := hr.len
  have hc0 := hs.cell (b := w.heap.size) (cs := #[.slice p n c]) (t := 26) (by simp) 0
  have HL0 := Lib.hid (ld_ra (hs.row (b := w.heap.size) (o := rob p n c) (by simp)))
  have HR2 := Lib.hid (hs.row (b := w.heap.size + 1) (o := go none 0 0 0) (by simp))
  have HB := Lib.hid hs.below
  clear hr hs
  by_cases hbig : l.length ≤ 1024
  · have hb2 : decide ((1024 : Int) < (n : Int)) = false := decide_eq_false (by omega)
    rw [if_pos hbig, if_pos hbig]
    go_enter Tryz.func101, Tryz.ntmps101
    go_upto_region 1 with fail
    generalize (w.alloc (.cells #[.slice p n c] 26)).alloc (.cells #[.slice none 0 0, .int .i64 0] 98) = V1 at *
    go_wp2_with (first
      | ((with_reducible refine sLoad (ty := 26) (v := rv1 p n c) ?_ ?_); · exact HL0.out)
      | ((with_reducible refine sBuild1 (ty := 98) (v := gv p n c 0) ?_ ?_); · exact built_go _ _ _ _)
      | ((with_reducible refine sStore (ty := 98) (w' := V1.setRow (w.heap.size + 1) #[.slice p n c, .int .i64 0]) ?_ ?_); · exact store_go HR2.out))
    exact bodyPost_ret (res_go rfl _ _ (w.heap.size + 1) p n c 0 rfl (setRow_heap _ _ _ _ _ _ HR2.out)) rfl ⟨p, n, c, rfl, rs_small (HR.out.later HB.out) HR2.out (by simp), Below.setRow HB.out (by omega) _⟩
  · have hb2 : decide ((1024 : Int) < (n : Int)) = true := decide_eq_true (by omega)
    rw [if_neg hbig, if_neg hbig]
    go_enter Tryz.func101, Tryz.ntmps101
    go_upto_region 1 with fail
    generalize (w.alloc (.cells #[.slice p n c] 26)).alloc (.cells #[.slice none 0 0, .int .i64 0] 98) = V1 at *
    go_wp2_with (first
      | ((with_reducible refine sBuildE (ty := 98) (v := gv none 0 0 2) ?_ ?_); · exact built_ge 2 _)
      | ((with_reducible refine sStore (ty := 98) (w' := V1.setRow (w.heap.size + 1) #[.slice none 0 0, .int .i64 2]) ?_ ?_); · exact store_go HR2.out))
    exact bodyPost_ret (res_go rfl _ _ (w.heap.size + 1) none 0 0 2 rfl (setRow_heap _ _ _ _ _ _ HR2.out)) rfl ⟨none, 0, 0, rfl, RS.nil _, Below.setRow HB.out (by omega) _⟩
set_option maxHeartbeats 4000000 in
/-- Put at a position that is in range -/
theorem rPut_in (p : Option Addr) (n c : Nat) (l : List TA) (x y : Int) (f : Nat → Px) (w : World) (hr : RS w p n c l) (hw : wth 8192 x y = true) : Calls Tryz.prog 48 #[rv1 p n c, pv2 x y, tv f] w fun e w' => ∃ q m d, e = .returned (gv q m d (if (rput (vts l) x y f).length ≤ 1024 then 0 else 2)) ∧ RS w' q m d (if (rput (vts l) x y f).length ≤ 1024 then rput (vts l) x y f else []) ∧ Below w.heap.size w w' := by
  have hs := ((((St.start w).alloc (rob p n c)).alloc (po2 x y)).alloc (tob f)).alloc (go none 0 0 0)
  simp only [World.size_alloc] at hs
  have HR := Lib.hid hr
  have HWI : Hid (∀ V, Calls Tryz.prog 100 #[pv2 x y] V fun e w' => e = .returned (.bool true) ∧ Below V.heap.size V w') := fun V => by
    have h := rwithin_any x y V
    rw [hw] at h
    exact h
  have HLP := Lib.hid (ld_pp (hs.row (b := w.heap.size + 1) (o := po2 x y) (by simp)))
  have HM : Hid (∀ q m d V, RS V q m d (rput (vts l) x y f) → Calls Tryz.prog 101 #[rv1 q m d] V fun e w' => ∃ q' m' d', e = .returned (gv q' m' d' (if (rput (vts l) x y f).length ≤ 1024 then 0 else 2)) ∧ RS w' q' m' d' (if (rput (vts l) x y f).length ≤ 1024 then rput (vts l) x y f else []) ∧ Below V.heap.size V w') := fun q m d V h => rmany_any q m d _ V h
  have hd := hs
  clear hr hs hw
  generalize (if (rput (vts l) x y f).length ≤ 1024 then (0 : Int) else 2) = EE at *
  generalize (if (rput (vts l) x y f).length ≤ 1024 then rput (vts l) x y f else []) = RL at *
  go_enter Tryz.func48, Tryz.ntmps48
  go_upto_region 3 with (first
    | ((with_reducible refine sLoad (ty := 40) (v := pv2 x y) ?_ ?_); · exact HLP.out)
    | (go_at_call 100; with_reducible refine (hd.call (HWI.out _)).mono ?_; rintro e V2 ⟨rfl, h2⟩))
  clear hd HLP HWI
  have hd := h2.drew
  clear h2
  refine wp_region_held_drew (S := fun V9 => St w [(w.heap.size + 1 + 1, tob f), (w.heap.size + 1, po2 x y), (w.heap.size, rob p n c)] V9) (by kernel_rfl) ?_ (fun hHeld => ?_)
  · exact (stl hd)
  refine wpAnyH_take (i := 0) (oi := { dst := some 11, op := Op.load 26 (Operand.tmp 3), type := 26, pos := "ref.go:102", after := #[], guard := none }) rfl (by kernel_rfl) (by kernel_rfl) (by kernel_rfl) (fun _ _ _ h => h) (yields_load (by kernel_rfl) 26 (.tmp 3) rfl (rv1 p n c) (fun V9 hV => ld_ra (hV.row (b := w.heap.size) (o := rob p n c) (by simp)))) (by assumption) ?_
  try simp only [Act.put, List.setIfInBounds_toArray, List.set_cons_zero, List.set_cons_succ]
  refine wpAnyH_take (i := 2) (oi := { dst := some 13, op := Op.load 40 (Operand.tmp 4), type := 40, pos := "ref.go:102", after := #[], guard := none }) rfl (by kernel_rfl) (by kernel_rfl) (by kernel_rfl) (fun _ _ _ h => h) (yields_load (by kernel_rfl) 40 (.tmp 4) rfl (pv2 x y) (fun V9 hV => ld_pp (hV.row (b := w.heap.size + 1) (o := po2 x y) (by simp)))) (by assumption) ?_
  try simp only [Act.put, List.setIfInBounds_toArray, List.set_cons_zero, List.set_cons_succ]
  refine wpAnyH_take (i := 3) (oi := { dst := some 14, op := Op.load 38 (Operand.tmp 5), type := 38, pos := "ref.go:102", after := #[], guard := none }) rfl (by kernel_rfl) (by kernel_rfl) (by kernel_rfl) (fun _ _ _ h => h) (yields_load (by kernel_rfl) 38 (.tmp 5) rfl (tv f) (fun V9 hV => load_tile _ f _ (hV.row (b := w.heap.size + 1 + 1) (o := tob f) (by simp)))) (by assumption) ?_
  try simp only [Act.put, List.setIfInBounds_toArray, List.set_cons_zero, List.set_cons_succ]
  refine wpAnyH_ready (rs := [1]) (by kernel_rfl) (by simp) (AllReadyH.cons (o := { dst := some 12, op := Op.call { callee := Callee.value (Operand.func 87), args := #[Operand.tmp 11], argTypes := #[26] }, type := 26, pos := "ref.go:102", after := #[{ on := 0, ground := Ground.data }], guard := none }) rfl (fun K hK => ?_) AllReadyH.nil)
  (go_simp; (go_at_call 87; (with_reducible refine (rof_any p n c l _ (HR.out.later (stl hd).below)).mono ?_); rintro e V1r3 ⟨q1, m1, d1, rfl, hr1, hb1⟩))
  have hd1r3 := hd.later hb1
  refine hK.out _ _ ?_ (fun hHeld => ?_)
  · exact (stl hd1r3)
  clear hK K
  try simp only [Act.put, List.setIfInBounds_toArray, List.set_cons_zero, List.set_cons_succ]
  refine wpAnyH_ready (rs := [4]) (by kernel_rfl) (by simp) (AllReadyH.cons (o := { dst := some 15, op := Op.call { callee := Callee.value (Operand.func 102), args := #[Operand.tmp 12, Operand.tmp 13, Operand.tmp 14], argTypes := #[26, 40, 38] }, type := 26, pos := "ref.go:102", after := #[{ on := 1, ground := Ground.data }, { on := 2, ground := Ground.data }, { on := 3, ground := Ground.data }, { on := 1, ground := Ground.chain }], guard := none }) rfl (fun K hK => ?_) AllReadyH.nil)
  (go_simp; (go_at_call 102; (with_reducible refine (rput_any q1 m1 d1 (vts l) x y f _ hr1 (by have := hr1.len; have := vts_len l; have := HR.out.len; omega)).mono ?_); rintro e V2r3 ⟨q2, m2, d2, rfl, hr2, hb2⟩))
  have hd2r3 := hd1r3.later hb2
  refine hK.out _ _ ?_ (fun hHeld => ?_)
  · exact (stl hd2r3)
  clear hK K
  try simp only [Act.put, List.setIfInBounds_toArray, List.set_cons_zero, List.set_cons_succ]
  refine wpAnyH_ready (rs := [5]) (by kernel_rfl) (by simp) (AllReadyH.cons (o := { dst := some 16, op := Op.call { callee := Callee.value (Operand.func 101), args := #[Operand.tmp 15], argTypes := #[26] }, type := 98, pos := "ref.go:102", after := #[{ on := 4, ground := Ground.data }, { on := 4, ground := Ground.chain }], guard := none }) rfl (fun K hK => ?_) AllReadyH.nil)
  (go_simp; (go_at_call 101; (with_reducible refine (HM.out q2 m2 d2 _ hr2).mono ?_); rintro e V3r3 ⟨q3, m3, d3, rfl, hr3, hb3⟩))
  have hd3r3 := hd2r3.later hb3
  refine hK.out _ _ ?_ (fun hHeld => ?_)
  · exact (stl hd3r3)
  clear hK K
  try simp only [Act.put, List.setIfInBounds_toArray, List.set_cons_zero, List.set_cons_succ]
  refine wpAnyH_ready (rs := [6]) (by kernel_rfl) (by simp) (AllReadyH.cons (o := { dst := none, op := Op.store 98 (Operand.tmp 6) (Operand.tmp 16), type := 0, pos := "ref.go:102", after := #[{ on := 5, ground := Ground.data }, { on := 5, ground := Ground.chain }, { on := 0, ground := Ground.phase }, { on := 1, ground := Ground.phase }, { on := 2, ground := Ground.phase }, { on := 3, ground := Ground.phase }, { on := 4, ground := Ground.phase }, { on := 5, ground := Ground.phase }], guard := none }) rfl (fun K hK => ?_) AllReadyH.nil)
  have HG := hd3r3.row (List.mem_cons_self ..)
  refine wp_store_of 98 _ _ rfl (store_go HG) ?_
  have hd4r3 := T.St.rowset (ds := #[.slice q3 m3 d3, .int .i64 EE]) hd3r3 (by omega) (by simp; omega)
  refine hK.out _ _ ?_ (fun hHeld => ?_)
  · exact (stl hd4r3)
  clear hK K
  try simp only [Act.put]
  refine wpAnyH_done (by kernel_rfl) ?_ _
  have HF := hd4r3
  have hlo := rs_old hr3
  go_wp2
  exact bodyPost_ret (res_go rfl _ _ (w.heap.size + 1 + 1 + 1) q3 m3 d3 EE rfl (HF.row (List.mem_cons_self ..))) rfl ⟨q3, m3, d3, rfl, rs_small hr3 HG (by simp), HF.below⟩
end Go.Proofs.YtfncldaodbfakaaGreat.Q

namespace Go.Proofs.YtfncldaodbfakaaGreat.Q
open Go.RowKit T Go.Shelf
set_option maxRecDepth 100000
variable {V V' W w w' : World} {L : List (Nat × Obj)}

/-- a pixel made of a number -/
def mdp (x : Int) : Px := ⟨x % 4294967296 % 256, x % 4294967296 / 256 % 256, x % 4294967296 / 65536 % 256, if x % 4294967296 % 5 = 1 then 255 else if x % 4294967296 % 5 = 3 then 0 else x % 4294967296 / 16777216⟩
theorem mdp_pc (x : Int) : Pc (mdp x) := by
  refine ⟨?_, ?_, ?_, ?_⟩ <;> unfold mdp Ch <;> simp only
  · omega
  · omega
  · omega
  · split
    · omega
    · split <;> omega
theorem rmade04_any (x : Int) (w : World) : Calls Tryz.prog 99 #[.int .i64 x] w fun e w' => e = .returned (mdp x).v ∧ Below w.heap.size w w' := by
  have HD : Hid (mdp x = ⟨x % 4294967296 % 256, x % 4294967296 / 256 % 256, x % 4294967296 / 65536 % 256, if x % 4294967296 % 5 = 1 then 255 else if x % 4294967296 % 5 = 3 then 0 else x % 4294967296 / 16777216⟩) := rfl
  have hu : IntKind.u32.wrap x = x % 4294967296 := by rw [IntKind.wrap_u32]
  have h0 : 0 ≤ x % 4294967296 := by omega
  have h1 : x % 4294967296 < 4294967296 := by omega
  generalize x % 4294967296 = u at *
  by_cases e1 : u % 5 = 1
  · rw [if_pos e1] at HD
    have e3 : (u % 5 == 3) = false := by simp; omega
    have e2 : (u % 5 == 1) = true := by simpa using e1
    clear e1
    rw [HD.out]
    go_enter Tryz.func99, Tryz.ntmps99
    go_wp2
    exact bodyPost_ret (by simp [results, Tryz.results99, go_sem]) rfl ⟨rfl, below1.alloc (by simp) _⟩
  · rw [if_neg e1] at HD
    have e2 : (u % 5 == 1) = false := by simpa using e1
    clear e1
    by_cases e3 : u % 5 = 3
    · rw [if_pos e3] at HD
      have e4 : (u % 5 == 3) = true := by simpa using e3
      clear e3
      rw [HD.out]
      go_enter Tryz.func99, Tryz.ntmps99
      go_wp2
      exact bodyPost_ret (by simp [results, Tryz.results99, go_sem]) rfl ⟨rfl, below1.alloc (by simp) _⟩
    · rw [if_neg e3] at HD
      have e4 : (u % 5 == 3) = false := by simpa using e3
      clear e3
      rw [HD.out]
      go_enter Tryz.func99, Tryz.ntmps99
      go_wp2
      exact bodyPost_ret (by simp [results, Tryz.results99, go_sem]) rfl ⟨rfl, below1.alloc (by simp) _⟩
theorem i64_mask (k : Nat) (hk : k ≤ 62) (n : Int) : bits .and .i64 n ((2 ^ k - 1 : Nat) : Int) = n % ((2 ^ k : Nat) : Int) := by
  have hp : 2 ^ k ≤ 2 ^ 62 := Nat.pow_le_pow_right (by omega) hk
  have hp0 := Nat.two_pow_pos k
  have hm : (BitVec.ofInt 64 ((2 ^ k - 1 : Nat) : Int)).toNat = 2 ^ k - 1 := by
    rw [BitVec.ofInt_natCast, BitVec.toNat_ofNat]; exact Nat.mod_eq_of_lt (by omega)
  have key : (BitVec.ofInt 64 n &&& BitVec.ofInt 64 ((2 ^ k - 1 : Nat) : Int)).toNat = (n % ((2 ^ 64 : Nat) : Int)).toNat % 2 ^ k := by
    rw [BitVec.toNat_and, BitVec.toNat_ofInt, hm, Nat.and_two_pow_sub_one_eq_mod]
  have hn : (((n % ((2 ^ 64 : Nat) : Int)).toNat % 2 ^ k : Nat) : Int) = n % ((2 ^ k : Nat) : Int) := by
    rw [Int.natCast_emod, Int.toNat_of_nonneg (by omega)]
    exact Int.emod_emod_of_dvd n (Int.natCast_dvd_natCast.2 (Nat.pow_dvd_pow 2 (by omega)))
  show IntKind.i64.wrap ((BitVec.ofInt 64 n &&& BitVec.ofInt 64 ((2 ^ k - 1 : Nat) : Int)).toNat : Nat) = _
  rw [key, hn]
  have h1 : 0 ≤ n % ((2 ^ k : Nat) : Int) := Int.emod_nonneg _ (by omega)
  have h2 : n % ((2 ^ k : Nat) : Int) < ((2 ^ k : Nat) : Int) := Int.emod_lt_of_pos _ (by omega)
  exact IntWalk.i64_in _ ⟨by omega, by omega⟩

/-- a slice of numbers in memory -/
structure IS (V : World) (po : Option Addr) (n c : Nat) (z : Nat → Int) : Prop where
  big : n ≤ 35184372088832
  cap : n ≤ c
  mem : n = 0 ∨ ∃ b off, po = some ⟨b, off, none⟩ ∧ b < V.heap.size ∧ ∀ i, i < n → V.cell? ⟨b, off + i, none⟩ = some (.int .i64 (z i))
theorem IS.later {po : Option Addr} {n c : Nat} {z : Nat → Int} (h : IS V po n c z) (hb : Below V.heap.size V V') : IS V' po n c z :=
  ⟨h.big, h.cap, h.mem.imp id fun ⟨b, off, e, hlt, hc⟩ => ⟨b, off, e, Nat.lt_of_lt_of_le hlt hb.size, fun i hi => by rw [hb.cell (p := ⟨b, off + i, none⟩) hlt]; exact hc i hi⟩⟩
/-- the tile made of the numbers -/
def mdt (n : Nat) (z : Nat → Int) : Nat → Px := fun i => if n = 0 then zp else if z (i * n / 64) % 4 = 2 then cln (mdp (wrap64 (z (i * n / 64) + 7919 * i))) else cln (mdp (z (i * n / 64)))
set_option maxHeartbeats 4000000 in
theorem rmade07_any (po : Option Addr) (n c : Nat) (z : Nat → Int) (w : World) (hI : IS w po n c z) : Calls Tryz.prog 46 #[.slice po n c] w fun e w' => e = .returned (tv (mdt n z)) ∧ Below w.heap.size w w' := by
  have hs := (St.start w).alloc (tob z0)
  have HI := Lib.hid hI
  have hn := hI.big
  have hM := hI.mem
  clear hI
  have HD0 : Hid (n = 0 → mdt n z = z0) := fun h => by funext i; unfold mdt; rw [if_pos h]; rfl
  have HD1 : Hid (n ≠ 0 → ∀ i, mdt n z i = if z (i * n / 64) % 4 = 2 then cln (mdp (wrap64 (z (i * n / 64) + 7919 * i))) else cln (mdp (z (i * n / 64)))) := fun h i => by unfold mdt; rw [if_neg h]
  generalize mdt n z = G at *
  go_enter Tryz.func46, Tryz.ntmps46
  go_upto_region 1 with ((with_reducible refine sAlloc (ty := 38) (tc z0) ?_ ?_); · exact zero_tile _)
  try simp only [Act.put, List.setIfInBounds_toArray, List.set_cons_zero, List.set_cons_succ]
  generalize w.alloc (.cells (tc z0) 38) = V1 at hs ⊢
  have HA := Lib.hid (heap_alloc_new V1 (tob z0))
  have h4 : St w [(V1.heap.size, tob z0), (w.heap.size, tob z0)] ((V1.alloc (tob z0)).setRow V1.heap.size (tc z0)) := T.St.rowset (hs.alloc (tob z0)) hs.below.size (by simp; have := hs.lt (List.mem_cons_self ..); omega)
  have hb1 : w.heap.size < V1.heap.size := hs.lt (List.mem_cons_self ..)
  clear hs
  go_upto_region 2 with (first
    | ((with_reducible refine sAlloc (ty := 38) (tc z0) ?_ ?_); · exact zero_tile _)
    | ((with_reducible refine sBuild0 (ty := 38) (v := tv z0) ?_ ?_); · exact built0 _)
    | ((with_reducible refine sStore (ty := 38) (w' := (V1.alloc (.cells (tc z0) 38)).setRow V1.heap.size (tc z0)) ?_ ?_); · exact store_tile _ z0 z0 _ HA.out))
  try simp only [Act.put, List.setIfInBounds_toArray, List.set_cons_zero, List.set_cons_succ]
  generalize (V1.alloc (.cells (tc z0) 38)).setRow V1.heap.size (tc z0) = V2 at h4 ⊢
  clear HA
  generalize V1.heap.size = b1 at *
  have H4 : Hid (St w [(b1, tob (pt z0 G 0)), (w.heap.size, tob z0)] V2) := by rw [pt_zero]; exact h4
  clear h4
  go_upto_region 3 with fail
  by_cases hz : n = 0
  · have e0 : decide ((0 : Int) < (n : Int)) = false := decide_eq_false (by omega)
    have HG := Lib.hid (HD0.out hz)
    subst hz
    go_loopw [4] (fun v wr => v = .int .i64 0 ∧ wr = V2) (fun _ _ => 0)
    case atStart => exact ⟨rfl, rfl⟩
    case round =>
      obtain ⟨rfl, rfl⟩ := hrel
      have HT := H4
      rw [pt_zero] at HT
      have HLA := Lib.hid (load_tile b1 z0 wr (HT.out.row (b := b1) (o := tob z0) (by simp)))
      have HR := Lib.hid (HT.out.row (b := w.heap.size) (o := tob z0) (by simp))
      have HB := Lib.hid HT.out.below
      clear H4
      go_wp2_with (first
        | ((with_reducible refine sLoad (ty := 38) (v := tv z0) ?_ ?_); · exact HLA.out)
        | ((with_reducible refine sStore (ty := 38) (w' := wr.setRow w.heap.size (tc z0)) ?_ ?_); · exact store_tile _ z0 z0 _ HR.out))
      rw [HG.out]
      exact bodyPost_ret (v := tv z0) (results_cell_row rfl _ _ w.heap.size _ _ _ _ rfl (setRow_heap _ _ _ _ _ _ HR.out) Tryz.underlying38 rfl (by rw [info_tile, tc_size])) rfl ⟨rfl, Below.setRow HB.out (Nat.le_refl _) _⟩
  · have e0 : decide ((0 : Int) < (n : Int)) = true := decide_eq_true (by omega)
    have HG := Lib.hid (HD1.out hz)
    obtain ⟨b, off, rfl, hbl, hce⟩ := hM.resolve_left hz
    have HCE := Lib.hid hce
    clear HD0 HD1 hM hce
    go_loopw [4] (fun v wr => ∃ k : Nat, k ≤ 64 ∧ v = .int .i64 k ∧ Hid (St w [(b1, tob (pt z0 G k)), (w.heap.size, tob z0)] wr)) (fun i _ => 64 - (intOf i).toNat)
    case atStart => exact ⟨0, by omega, rfl, H4⟩
    case round =>
      obtain ⟨k, hk, rfl, HT⟩ := hrel
      clear H4
      by_cases hlt : k < 64
      · go_upto_region 5 with fail
        have hj : k * n / 64 < n := by
          have : k * n ≤ 63 * n := Nat.mul_le_mul_right n (by omega)
          omega
        have hci := ((HT.out.below.cell (p := ⟨b, off + k * n / 64, none⟩) hbl)).trans (HCE.out (k * n / 64) hj)
        go_upto_region 6 with fail
        have HGK : Hid (G k = if z (k * n / 64) % 4 = 2 then cln (mdp (wrap64 (z (k * n / 64) + 7919 * k))) else cln (mdp (z (k * n / 64)))) := HG.out k
        clear hci hj
        generalize z (k * n / 64) = X at *
        have h0 := HT.out
        have HX := Lib.hid (fun x V => refClean_any (mdp x).r (mdp x).g (mdp x).b (mdp x).a V)
        have hix := index_px b1 k hlt
        have hlb : ∀ x ∈ [((w.heap.size, tob z0) : Nat × Obj)], x.1 ≠ b1 := by simp; omega
        clear HT
        go_upto_region 7 with (first
          | (go_at_call 99; with_reducible refine (h0.call (rmade04_any _ _)).mono ?_; rintro e V4 ⟨rfl, h5⟩)
          | (go_at_call 88; refine (h5.call (HX.out X _)).mono ?_; rintro e V5 ⟨rfl, h6⟩; have HST := Lib.hid (store_px b1 _ k (cln (mdp X)) hlt V5 (h6.row (List.mem_cons_self ..))))
          | ((with_reducible refine sStore (ty := 36) (w' := V5.setRow b1 (tc (upd (pt z0 G k) k (cln (mdp X))))) ?_ ?_); · exact HST.out))
        have h7 : St w [(b1, tob (upd (pt z0 G k) k (cln (mdp X)))), (w.heap.size, tob z0)] (V5.setRow b1 (tc (upd (pt z0 G k) k (cln (mdp X))))) := T.St.rowset h6 (by omega) hlb
        try simp only [Act.put]
        generalize V5.setRow b1 (tc (upd (pt z0 G k) k (cln (mdp X)))) = V6 at h7 ⊢
        clear h0 h5 h6 HST
        have HU2 : Hid (∀ (f : Nat → Px) (p q : Px), upd (upd f k p) k q = upd f k q) := fun f p q => by
          funext i
          unfold upd
          by_cases e : i = k <;> simp [e]
        have hand := i64_mask 2 (by omega) X
        simp at hand
        by_cases hm : X % 4 = 2
        · rw [if_pos hm] at HGK
          have e2 : (bits .and .i64 X 3 == 2) = true := by rw [hand]; simpa using hm
          clear hm hand
          go_upto_region 4 with (first
            | (go_at_call 99; with_reducible refine (h7.call (rmade04_any _ _)).mono ?_; rintro e V7 ⟨rfl, h8⟩)
            | (go_at_call 88; refine (h8.call (HX.out _ _)).mono ?_; rintro e V8 ⟨rfl, h9⟩; have HST := Lib.hid (store_px b1 (upd (pt z0 G k) k (cln (mdp X))) k (cln (mdp (wrap64 (X + 7919 * (k : Int))))) hlt V8 (h9.row (List.mem_cons_self ..))))
            | ((with_reducible refine sStore (ty := 36) (w' := V8.setRow b1 (tc (upd (upd (pt z0 G k) k (cln (mdp X))) k (cln (mdp (wrap64 (X + 7919 * (k : Int)))))))) ?_ ?_); · exact HST.out))
          have h10 : St w [(b1, tob (upd (upd (pt z0 G k) k (cln (mdp X))) k (cln (mdp (wrap64 (X + 7919 * (k : Int))))))), (w.heap.size, tob z0)] (V8.setRow b1 (tc (upd (upd (pt z0 G k) k (cln (mdp X))) k (cln (mdp (wrap64 (X + 7919 * (k : Int)))))))) := T.St.rowset h9 (by omega) hlb
          rw [HU2.out, ← HGK.out, pt_succ] at h10
          try simp only [Act.put]
          have H10 : Hid (St w [(b1, tob (pt z0 G (k + 1))), (w.heap.size, tob z0)] (V8.setRow b1 (tc (upd (upd (pt z0 G k) k (cln (mdp X))) k (cln (mdp (wrap64 (X + 7919 * (k : Int))))))))) := by rw [HU2.out, ← HGK.out, pt_succ]; exact h10
          generalize V8.setRow b1 (tc (upd (upd (pt z0 G k) k (cln (mdp X))) k (cln (mdp (wrap64 (X + 7919 * (k : Int))))))) = V9 at H10 ⊢
          clear h7 h8 h9 h10 HST e2
          go_wp2
          go_roundw
          case rel => exact ⟨k + 1, by omega, by go_num, H10⟩
          case measure => simp [intOf]; omega
        · rw [if_neg hm] at HGK
          have e2 : (bits .and .i64 X 3 == 2) = false := by rw [hand]; simpa using hm
          have H7 : Hid (St w [(b1, tob (pt z0 G (k + 1))), (w.heap.size, tob z0)] V6) := by rw [← pt_succ, HGK.out]; exact h7
          clear hm hand h7
          go_wp2
          go_roundw
          case rel => exact ⟨k + 1, by omega, by go_num, H7⟩
          case measure => simp [intOf]; omega
      · obtain rfl : k = 64 := by omega
        have HLA := Lib.hid (load_all (HT.out.row (b := b1) (o := tob (pt z0 G 64)) (by simp)))
        have HR := Lib.hid (HT.out.row (b := w.heap.size) (o := tob z0) (by simp))
        have HB := Lib.hid HT.out.below
        go_wp2_with (first
          | ((with_reducible refine sLoad (ty := 38) (v := tv G) ?_ ?_); · exact HLA.out)
          | ((with_reducible refine sStore (ty := 38) (w' := wr.setRow w.heap.size (tc G)) ?_ ?_); · exact store_tile _ z0 G _ HR.out))
        exact bodyPost_ret (v := tv G) (results_cell_row rfl _ _ w.heap.size _ _ _ _ rfl (setRow_heap _ _ _ _ _ _ HR.out) Tryz.underlying38 rfl (by rw [info_tile, tc_size])) rfl ⟨rfl, Below.setRow HB.out (Nat.le_refl _) _⟩
end Go.Proofs.YtfncldaodbfakaaGreat.Q
