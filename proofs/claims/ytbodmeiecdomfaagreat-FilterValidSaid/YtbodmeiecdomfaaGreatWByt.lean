/-
  Bytes of a filter, of the program and of the reference: the same encodings of its numbers, one after another. Bytes of a filter, of the program and of the reference: contracts. Appending to the lists of a filter: the laws of its operations.
-/
import Derived.Test.YtbodmeiecdomfaaGreatWMade
import Derived.Test.YtbodmeiecdomfaaGreatONum
import Derived.Test.YtbodmeiecdomfaaGreatZBld
namespace Go.Proofs.YtbodmeiecdomfaaGreat.W
open Go.RowKit
set_option maxRecDepth 100000
variable {W w w' : World} {L : List (Nat × Obj)}

/-- numbers, encoded one after another -/
def vars (c : List Int) : List UInt8 := c.flatMap fun n => O.Leb.varN (O.u64of n)
theorem vars_app (a b : List Int) : vars (a ++ b) = vars a ++ vars b := by simp [vars]
theorem vars_nil : vars [] = [] := rfl
theorem vars_cons (a : Int) (c : List Int) : vars (a :: c) = O.Leb.varN (O.u64of a) ++ vars c := by simp [vars]
theorem vars_one (a : Int) : vars [a] = O.Leb.varN (O.u64of a) := by rw [vars_cons, vars_nil, List.append_nil]
theorem vars_len (c : List Int) : (vars c).length ≤ 10 * c.length := by
  induction c with
  | nil => simp [vars]
  | cons a c ih =>
    rw [vars_cons, List.length_append, List.length_cons]
    have := O.Leb.varN_len64 (O.u64of_lt a)
    omega
theorem vars_step {c : List Int} {k : Nat} (hk : k < c.length) : vars (c.take k) ++ O.Leb.varN (O.u64of (cg c k)) = vars (c.take (k + 1)) := by
  rw [List.take_add_one, List.getElem?_eq_getElem hk, vars_app]
  simp [vars, cg, List.getD, hk]
theorem vars_end {c : List Int} {k : Nat} (hk : k = c.length) : vars (c.take k) = vars c := by rw [hk, List.take_length]
/-- a filter's bytes -/
def byt (k r : Int) (ks : List Int) (d v : Int) (cs : List Int) : List UInt8 := vars [k, r, (ks.length : Int)] ++ vars ks ++ vars [d, v, (cs.length : Int)] ++ vars cs
theorem vf_len {k r d v : Int} {ks cs : List Int} (h : vf k r ks d v cs = true) : ks.length ≤ 49 ∧ cs.length ≤ 257 := by
  unfold vf at h
  (repeat' split at h)
  all_goals try simp only [Bool.and_eq_true, nof, decide_eq_true_eq, ik, wi, cvb_iff] at h
  · obtain ⟨⟨⟨⟨r0, r3⟩, hk, _⟩, _⟩, hn⟩ := h
    rcases (by omega : r = 0 ∨ r = 1 ∨ r = 2 ∨ r = 3) with rfl | rfl | rfl | rfl
    all_goals simp [wsz] at hk
    all_goals omega
  all_goals (first | omega | (have := h.1.max; omega) | exact absurd h (by decide))
theorem vsz (c : List Int) (h : c.length ≤ 100000) : (O.str (vars c)).size ≤ 1000000 := by
  rw [O.str_size]; have := vars_len c; omega
theorem bld_later {B b : Nat} {v : Value} {l : List UInt8} (h : Z.BA B b v l w) (hb : Below w.heap.size w w') : Z.BA B b v l w' :=
  h.same h.lo (hb.block _ h.lt) fun _ hg => ⟨(h.blk hg).1, hb.block _ (h.blk hg).2⟩
theorem cm_lit1 (w : World) (a : Int) : Cm (w.alloc (.cells #[.int .i64 a] 3)) (.slice (some ⟨w.heap.size, 0, none⟩) 1 1) [a] := by
  refine ⟨_, 1, rfl, Nat.le_refl _, by omega, fun _ => ⟨_, 0, rfl, ?_, fun i hi => ?_⟩⟩
  · simp [World.size_alloc]
  · obtain rfl : i = 0 := by simpa using hi
    exact ((St.start w).alloc (.cells #[.int .i64 a] 3)).cell (b := w.heap.size) (cs := #[.int .i64 a]) (t := 3) (by simp) 0
theorem cm_lit2 (w : World) (a b : Int) : Cm (w.alloc (.cells #[.int .i64 a, .int .i64 b] 3)) (.slice (some ⟨w.heap.size, 0, none⟩) 2 2) [a, b] := by
  refine ⟨_, 2, rfl, Nat.le_refl _, by omega, fun _ => ⟨_, 0, rfl, ?_, fun i hi => ?_⟩⟩
  · simp [World.size_alloc]
  · have h := ((St.start w).alloc (.cells #[.int .i64 a, .int .i64 b] 3)).cell (b := w.heap.size) (cs := #[.int .i64 a, .int .i64 b]) (t := 3) (by simp)
    obtain rfl | rfl : i = 0 ∨ i = 1 := by simp at hi; omega
    · exact h 0
    · exact h 1
section
variable {o : Oper} {a : Act} {w : World} {K : Act → World → Prop} {Q : Exit → Act → World → Prop}
theorem wp_int2 {y z : Int} (x1 x2 : Operand) (ho : o.op = .buildSlice 22 2 #[(0, x1), (1, x2)]) (hx : a.eval x1 = .int .i64 y) (hz : a.eval x2 = .int .i64 z) (h : K (a.put o.dst (.slice (some ⟨w.heap.size, 0, none⟩) 2 2)) (w.alloc (.cells #[.int .i64 y, .int .i64 z] 3))) : o.wp Tryz.prog a w K Q := by
  obtain ⟨i0, hi, hz0, hz1, hz2⟩ := info_parts Tryz.infoInt
  refine wp_buildSlice 22 3 2 _ ho #[.int .i64 y, .int .i64 z] i0 (.int .i64 0) Tryz.underlying22 hi hz0 (by rw [hz1]; omega) (by rw [hz1]; omega) ?_ h
  simp only [List.map_toArray, List.map_cons, List.map_nil, hx, hz, hz1]
  first | kernel_rfl | (simp [Instr.fill]; done)
end

set_option maxHeartbeats 4000000 in
theorem numbers_any (c : List Int) (v : Value) (w : World) (hc : Cm w v c) (hl : c.length ≤ 100000) : Calls Tryz.prog 23 #[v] w fun e w' => e = .returned (.string (O.str (vars c))) ∧ Below w.heap.size w w' := by
  obtain ⟨po, cap, rfl, ⟨hlc, hcap⟩, hel⟩ := cm_elem hc
  have HL := Lib.hid hel; clear hel hc
  have HV := Lib.hid (fun k => vars_step (c := c) (k := k))
  have HE := Lib.hid (fun k => vars_end (c := c) (k := k))
  have HZ : Hid (∀ k, k ≤ c.length → (vars (c.take k)).length ≤ 1000000) := fun k hk => by
    have := vars_len (c.take k)
    rw [List.length_take] at this
    omega
  have HB := Lib.hid (Z.BA.fresh w)
  have HW : Hid (Below w.heap.size w (w.alloc (.cells #[.pointer none, .slice none 0 0] 76))) := below1
  obtain ⟨n, hn⟩ : ∃ n, n = c.length := ⟨_, rfl⟩
  rw [← hn] at HL HV HE HZ hlc hl ⊢
  clear hn
  go_enter Tryz.func23, Tryz.ntmps23
  go_upto_region 2 with fail
  generalize w.alloc (.cells #[.pointer none, .slice none 0 0] 76) = w1 at HB HW ⊢
  have hB0 : w.heap.size ≤ w1.heap.size := HW.out.size
  go_wp2
  go_loopw [8] (fun v8 wr => ∃ k : Nat, ∃ u, k ≤ n ∧ v8 = .int .i64 k ∧ Hid (Z.BA w.heap.size w.heap.size u (vars (c.take k)) wr) ∧ Hid (Below w.heap.size w wr)) (fun i _ => n - (intOf i).toNat)
  case atStart => exact ⟨0, _, Nat.zero_le _, rfl, HB, HW⟩
  case round =>
    clear HB HW
    obtain ⟨k, u, hk, rfl, HB, HW⟩ := hrel
    rcases Nat.lt_or_ge k n with hlt | hge
    · have q1 : (0 : Int) ≤ k := Int.natCast_nonneg k
      have q2 : (k : Int) < n := Int.ofNat_lt.2 hlt
      obtain ⟨bq, oq, rfl, cq⟩ := HL.out wr HW.out k hlt
      have HVk := Lib.hid (HV.out k hlt)
      have HX := Lib.hid (O.Leb.varN_len64 (O.u64of_lt (cg c k)))
      generalize cg c k = x at cq HVk HX
      go_upto_region 5 with fail
      clear cq
      have hw1 : wrap64 ((k : Int) + 1) = k + 1 := wrap_in (by omega)
      go_wp2_with (first
        | (go_at_call 39; (with_reducible refine (O.var_any _ _).mono ?_); rintro e w2 ⟨rfl, h2⟩; have HB2 := Lib.hid (bld_later HB.out h2); have HW2 := Lib.hid (HW.out.trans (h2.mono HW.out.size)); clear h2)
        | (go_at_call 38; (with_reducible refine (HB2.out.write _ (by have := HZ.out k hk; have := HX.out; omega) HW2.out.size).mono ?_); rintro e w3 ⟨rfl, v3, h3, h4, -⟩; have HB3 := Lib.hid h3; have HW3 := Lib.hid (HW2.out.trans h4); clear h3 h4))
      go_roundw
      case rel => exact ⟨k + 1, v3, by omega, by go_num, HVk.out ▸ HB3, HW3⟩
      case measure => simp [intOf]; omega
    · obtain rfl : k = n := by omega
      go_wp2_with (go_at_call 40; (with_reducible refine HB.out.string.mono ?_); rintro e w3 ⟨rfl, -, h4, -⟩; have HW3 := Lib.hid (HW.out.trans h4); clear h4)
      go_ret
      exact ⟨O.ret_str (by rw [HE.out k rfl]), HW3.out⟩
set_option maxHeartbeats 4000000 in
theorem list_any (c : List Int) (v : Value) (w : World) (hc : Cm w v c) (hl : c.length ≤ 100000) : Calls Tryz.prog 24 #[v] w fun e w' => e = .returned (.string (O.str (vars [(c.length : Int)] ++ vars c))) ∧ Below w.heap.size w w' := by
  have HC := Lib.hid hc
  obtain ⟨po, cap, rfl, hlc, hcap, _⟩ := hc
  have z2 := vsz c hl
  have z1 := vsz [(c.length : Int)] (by simp)
  generalize hn : c.length = n at *
  have HN := Lib.hid hn; clear hn
  go_enter Tryz.func24, Tryz.ntmps24
  go_upto_region 1 with fail
  go_wp2_with (first
    | (go_at_call 23; (with_reducible refine (numbers_any [(n : Int)] _ _ (cm_lit1 _ _) (by simp)).mono ?_); rintro e w2 ⟨rfl, h2⟩; have HW := Lib.hid ((below1 (w := w) (o := .cells #[.int .i64 n] 3)).trans (h2.mono below1.size)); clear h2)
    | (go_at_call 23; (with_reducible refine (numbers_any c _ _ (HC.out.later HW.out) (by rw [HN.out]; exact hl)).mono ?_); rintro e w3 ⟨rfl, h3⟩; have HW3 := Lib.hid (HW.out.trans (h3.mono HW.out.size)); clear h3))
  go_ret
  exact ⟨O.ret_str (O.str_append _ _), HW3.out⟩
end Go.Proofs.YtbodmeiecdomfaaGreat.W

namespace Go.Proofs.YtbodmeiecdomfaaGreat.W
open Go.RowKit
set_option maxRecDepth 100000
variable {W w w' : World} {L : List (Nat × Obj)}

abbrev FA (V : World) (b : Nat) (k r : Int) (K : Value) (d v : Int) (C : Value) : Prop := V.cell? ⟨b, 0, none⟩ = some (.int .i64 k) ∧ V.cell? ⟨b, 1, none⟩ = some (.int .i64 r) ∧ V.cell? ⟨b, 2, none⟩ = some K ∧ V.cell? ⟨b, 3, none⟩ = some (.int .i64 d) ∧ V.cell? ⟨b, 4, none⟩ = some (.int .i64 v) ∧ V.cell? ⟨b, 5, none⟩ = some C
theorem fa_st {b : Nat} {k r d v : Int} {K C : Value} (h : St W [(b, fq k r K d v C)] w) : FA w b k r K d v C :=
  have c := h.cell (b := b) (cs := #[.int .i64 k, .int .i64 r, K, .int .i64 d, .int .i64 v, C]) (t := 25) (by simp)
  ⟨c 0, c 1, c 2, c 3, c 4, c 5⟩
theorem byt_eq (k r : Int) (ks : List Int) (d v : Int) (cs : List Int) : vars [k, r] ++ (vars [(ks.length : Int)] ++ vars ks) ++ vars [d, v] ++ (vars [(cs.length : Int)] ++ vars cs) = byt k r ks d v cs := by
  unfold byt
  simp only [vars_cons, vars_nil, List.append_nil, List.append_assoc]
theorem byt_eq2 (k r : Int) (ks : List Int) (d v : Int) (cs : List Int) : O.Leb.varN (O.u64of k) ++ O.Leb.varN (O.u64of r) ++ O.Leb.varN (O.u64of (ks.length : Int)) ++ vars ks ++ O.Leb.varN (O.u64of d) ++ O.Leb.varN (O.u64of v) ++ O.Leb.varN (O.u64of (cs.length : Int)) ++ vars cs = byt k r ks d v cs := by
  unfold byt
  simp only [vars_cons, vars_nil, List.append_nil, List.append_assoc]
theorem ret_cat {a b c d : List UInt8} {R : List UInt8} (h : a ++ b ++ c ++ d = R) : O.str a ++ O.str b ++ O.str c ++ O.str d = O.str R := by
  rw [O.str_append, O.str_append, O.str_append, h]
theorem gt_no {n m : Nat} (h : n ≤ 10000000) (k : m ≤ 10000000) : (9223372036854775807 < n + m) = False := by simp; omega
set_option maxHeartbeats 8000000 in
theorem bytes_any (k r d v : Int) (ks cs : List Int) (K C : Value) (w : World) (hK : Cm w K ks) (hC : Cm w C cs) (hk : ks.length ≤ 1000) (hc : cs.length ≤ 1000) : Calls Tryz.prog 11 #[fv k r K d v C] w fun e w' => e = .returned (.string (O.str (byt k r ks d v cs))) ∧ Below w.heap.size w w' := by
  have HK0 := Lib.hid hK; have HC0 := Lib.hid hC
  obtain ⟨pK, cK, rfl, _⟩ := hK
  obtain ⟨pC, cC, rfl, _⟩ := hC
  have HEQ := Lib.hid (ret_cat (byt_eq k r ks d v cs))
  have HA : Hid (∀ V g, Cm V (.slice (some ⟨g, 0, none⟩) 2 2) [k, r] → Calls Tryz.prog 23 #[.slice (some ⟨g, 0, none⟩) 2 2] V fun e w' => e = .returned (.string (O.str (vars [k, r]))) ∧ Below V.heap.size V w') := fun V g h => numbers_any _ _ _ h (by simp)
  have HD : Hid (∀ V g, Cm V (.slice (some ⟨g, 0, none⟩) 2 2) [d, v] → Calls Tryz.prog 23 #[.slice (some ⟨g, 0, none⟩) 2 2] V fun e w' => e = .returned (.string (O.str (vars [d, v]))) ∧ Below V.heap.size V w') := fun V g h => numbers_any _ _ _ h (by simp)
  have HB : Hid (∀ V, Below w.heap.size w V → Calls Tryz.prog 24 #[.slice pK ks.length cK] V fun e w' => e = .returned (.string (O.str (vars [(ks.length : Int)] ++ vars ks))) ∧ Below V.heap.size V w') := fun V h => list_any _ _ _ (HK0.out.later h) (by omega)
  have HE : Hid (∀ V, Below w.heap.size w V → Calls Tryz.prog 24 #[.slice pC cs.length cC] V fun e w' => e = .returned (.string (O.str (vars [(cs.length : Int)] ++ vars cs))) ∧ Below V.heap.size V w') := fun V h => list_any _ _ _ (HC0.out.later h) (by omega)
  have y1 := vsz [k, r] (by simp)
  have y2 := vsz ((ks.length : Int) :: ks) (by simp; omega)
  have y3 := vsz [d, v] (by simp)
  have y4 := vsz ((cs.length : Int) :: cs) (by simp; omega)
  rw [vars_cons, ← vars_one] at y2 y4
  generalize O.str (byt k r ks d v cs) = R at HEQ ⊢
  generalize O.str (vars [k, r]) = sA at HA HEQ y1
  generalize O.str (vars [d, v]) = sD at HD HEQ y3
  generalize O.str (vars [(ks.length : Int)] ++ vars ks) = sB at HB HEQ y2
  generalize O.str (vars [(cs.length : Int)] ++ vars cs) = sE at HE HEQ y4
  have z1 := gt_no (n := sA.size) (m := sB.size) (by omega) (by omega)
  have z2 := gt_no (n := sA.size + sB.size) (m := sD.size) (by omega) (by omega)
  have z3 := gt_no (n := sA.size + sB.size + sD.size) (m := sE.size) (by omega) (by omega)
  clear HK0 HC0 hk hc y1 y2 y3 y4
  generalize ks.length = nK at HB ⊢
  generalize cs.length = nC at HE ⊢
  have hs := (St.start w).alloc (fq k r (.slice pK nK cK) d v (.slice pC nC cC))
  have HWB := Lib.hid hs.below
  have HP : Hid (∀ V, Below (w.alloc (fq k r (.slice pK nK cK) d v (.slice pC nC cC))).heap.size (w.alloc (fq k r (.slice pK nK cK) d v (.slice pC nC cC))) V → FA V w.heap.size k r (.slice pK nK cK) d v (.slice pC nC cC)) := fun V h => fa_st (hs.later h)
  clear hs
  go_enter Tryz.func11, Tryz.ntmps11
  go_upto_region 1 with fail
  generalize w.alloc (fq k r (.slice pK nK cK) d v (.slice pC nC cC)) = w1 at HP HWB ⊢
  replace HB : Hid (∀ V, Below w1.heap.size w1 V → Calls Tryz.prog 24 #[.slice pK nK cK] V fun e w' => e = .returned (.string sB) ∧ Below V.heap.size V w') := fun V h => HB.out V (HWB.out.trans (h.mono HWB.out.size))
  replace HE : Hid (∀ V, Below w1.heap.size w1 V → Calls Tryz.prog 24 #[.slice pC nC cC] V fun e w' => e = .returned (.string sE) ∧ Below V.heap.size V w') := fun V h => HE.out V (HWB.out.trans (h.mono HWB.out.size))
  have hw1 := Below.refl w1.heap.size w1
  obtain ⟨b, hb⟩ : ∃ b, w.heap.size = b := ⟨_, rfl⟩
  simp only [hb] at HP ⊢
  have s0t := hw1.drew
  refine wp_region_held_drew (S := fun V9 => FA V9 b k r (.slice pK nK cK) d v (.slice pC nC cC)) (by kernel_rfl) ?_ (fun hHeld => ?_)
  · exact HP.out _ s0t
  generalize w1.drew = u0 at s0t hHeld ⊢
  refine wpAnyH_take (i := 0) (oi := { dst := some 3, op := Op.fieldAddr 25 (Operand.tmp 1) 0, type := 0, pos := "bytes.go:12", after := #[], guard := none }) (v := ?_) rfl (by kernel_rfl) (by kernel_rfl) (by kernel_rfl) (fun _ _ _ h => h) (Or.inl ⟨by kernel_rfl, ?_⟩) (by assumption) ?_
  rotate_left 1
  focus (intro w hSw; (try dsimp only at hSw); go_simp; (try with_reducible rfl))
  try simp only [Act.put, List.setIfInBounds_toArray, List.set_cons_zero, List.set_cons_succ]
  refine wpAnyH_take (i := 1) (oi := { dst := some 4, op := Op.load 3 (Operand.tmp 3), type := 3, pos := "bytes.go:12", after := #[{ on := 0, ground := Ground.data }], guard := none }) (v := ?_) rfl (by kernel_rfl) (by kernel_rfl) (by kernel_rfl) (fun _ _ _ h => h) (Or.inl ⟨by kernel_rfl, ?_⟩) (by assumption) ?_
  rotate_left 1
  focus (intro w hSw; (try dsimp only at hSw); go_simp; (try with_reducible rfl))
  try simp only [Act.put, List.setIfInBounds_toArray, List.set_cons_zero, List.set_cons_succ]
  refine wpAnyH_take (i := 2) (oi := { dst := some 5, op := Op.fieldAddr 25 (Operand.tmp 1) 1, type := 0, pos := "bytes.go:12", after := #[], guard := none }) (v := ?_) rfl (by kernel_rfl) (by kernel_rfl) (by kernel_rfl) (fun _ _ _ h => h) (Or.inl ⟨by kernel_rfl, ?_⟩) (by assumption) ?_
  rotate_left 1
  focus (intro w hSw; (try dsimp only at hSw); go_simp; (try with_reducible rfl))
  try simp only [Act.put, List.setIfInBounds_toArray, List.set_cons_zero, List.set_cons_succ]
  refine wpAnyH_take (i := 3) (oi := { dst := some 6, op := Op.load 3 (Operand.tmp 5), type := 3, pos := "bytes.go:12", after := #[{ on := 2, ground := Ground.data }], guard := none }) (v := ?_) rfl (by kernel_rfl) (by kernel_rfl) (by kernel_rfl) (fun _ _ _ h => h) (Or.inl ⟨by kernel_rfl, ?_⟩) (by assumption) ?_
  rotate_left 1
  focus (intro w hSw; (try dsimp only at hSw); go_simp; (try with_reducible rfl))
  try simp only [Act.put, List.setIfInBounds_toArray, List.set_cons_zero, List.set_cons_succ]
  refine wpAnyH_take (i := 6) (oi := { dst := some 9, op := Op.fieldAddr 25 (Operand.tmp 1) 2, type := 0, pos := "bytes.go:12", after := #[], guard := none }) (v := ?_) rfl (by kernel_rfl) (by kernel_rfl) (by kernel_rfl) (fun _ _ _ h => h) (Or.inl ⟨by kernel_rfl, ?_⟩) (by assumption) ?_
  rotate_left 1
  focus (intro w hSw; (try dsimp only at hSw); go_simp; (try with_reducible rfl))
  try simp only [Act.put, List.setIfInBounds_toArray, List.set_cons_zero, List.set_cons_succ]
  refine wpAnyH_take (i := 7) (oi := { dst := some 10, op := Op.load 22 (Operand.tmp 9), type := 22, pos := "bytes.go:12", after := #[{ on := 6, ground := Ground.data }], guard := none }) (v := ?_) rfl (by kernel_rfl) (by kernel_rfl) (by kernel_rfl) (fun _ _ _ h => h) (Or.inl ⟨by kernel_rfl, ?_⟩) (by assumption) ?_
  rotate_left 1
  focus (intro w hSw; (try dsimp only at hSw); go_simp; (try with_reducible rfl))
  try simp only [Act.put, List.setIfInBounds_toArray, List.set_cons_zero, List.set_cons_succ]
  refine wpAnyH_take (i := 10) (oi := { dst := some 13, op := Op.fieldAddr 25 (Operand.tmp 1) 3, type := 0, pos := "bytes.go:12", after := #[], guard := none }) (v := ?_) rfl (by kernel_rfl) (by kernel_rfl) (by kernel_rfl) (fun _ _ _ h => h) (Or.inl ⟨by kernel_rfl, ?_⟩) (by assumption) ?_
  rotate_left 1
  focus (intro w hSw; (try dsimp only at hSw); go_simp; (try with_reducible rfl))
  try simp only [Act.put, List.setIfInBounds_toArray, List.set_cons_zero, List.set_cons_succ]
  refine wpAnyH_take (i := 11) (oi := { dst := some 14, op := Op.load 3 (Operand.tmp 13), type := 3, pos := "bytes.go:12", after := #[{ on := 10, ground := Ground.data }], guard := none }) (v := ?_) rfl (by kernel_rfl) (by kernel_rfl) (by kernel_rfl) (fun _ _ _ h => h) (Or.inl ⟨by kernel_rfl, ?_⟩) (by assumption) ?_
  rotate_left 1
  focus (intro w hSw; (try dsimp only at hSw); go_simp; (try with_reducible rfl))
  try simp only [Act.put, List.setIfInBounds_toArray, List.set_cons_zero, List.set_cons_succ]
  refine wpAnyH_take (i := 12) (oi := { dst := some 15, op := Op.fieldAddr 25 (Operand.tmp 1) 4, type := 0, pos := "bytes.go:12", after := #[], guard := none }) (v := ?_) rfl (by kernel_rfl) (by kernel_rfl) (by kernel_rfl) (fun _ _ _ h => h) (Or.inl ⟨by kernel_rfl, ?_⟩) (by assumption) ?_
  rotate_left 1
  focus (intro w hSw; (try dsimp only at hSw); go_simp; (try with_reducible rfl))
  try simp only [Act.put, List.setIfInBounds_toArray, List.set_cons_zero, List.set_cons_succ]
  refine wpAnyH_take (i := 13) (oi := { dst := some 16, op := Op.load 3 (Operand.tmp 15), type := 3, pos := "bytes.go:12", after := #[{ on := 12, ground := Ground.data }], guard := none }) (v := ?_) rfl (by kernel_rfl) (by kernel_rfl) (by kernel_rfl) (fun _ _ _ h => h) (Or.inl ⟨by kernel_rfl, ?_⟩) (by assumption) ?_
  rotate_left 1
  focus (intro w hSw; (try dsimp only at hSw); go_simp; (try with_reducible rfl))
  try simp only [Act.put, List.setIfInBounds_toArray, List.set_cons_zero, List.set_cons_succ]
  refine wpAnyH_take (i := 17) (oi := { dst := some 20, op := Op.fieldAddr 25 (Operand.tmp 1) 5, type := 0, pos := "bytes.go:12", after := #[], guard := none }) (v := ?_) rfl (by kernel_rfl) (by kernel_rfl) (by kernel_rfl) (fun _ _ _ h => h) (Or.inl ⟨by kernel_rfl, ?_⟩) (by assumption) ?_
  rotate_left 1
  focus (intro w hSw; (try dsimp only at hSw); go_simp; (try with_reducible rfl))
  try simp only [Act.put, List.setIfInBounds_toArray, List.set_cons_zero, List.set_cons_succ]
  refine wpAnyH_take (i := 18) (oi := { dst := some 21, op := Op.load 23 (Operand.tmp 20), type := 23, pos := "bytes.go:12", after := #[{ on := 17, ground := Ground.data }], guard := none }) (v := ?_) rfl (by kernel_rfl) (by kernel_rfl) (by kernel_rfl) (fun _ _ _ h => h) (Or.inl ⟨by kernel_rfl, ?_⟩) (by assumption) ?_
  rotate_left 1
  focus (intro w hSw; (try dsimp only at hSw); go_simp; (try with_reducible rfl))
  try simp only [Act.put, List.setIfInBounds_toArray, List.set_cons_zero, List.set_cons_succ]
  refine wpAnyH_ready (rs := [4, 14]) (by kernel_rfl) (by simp) (AllReadyH.cons (o := { dst := some 7, op := Op.buildSlice 22 2 #[(0, Operand.tmp 4), (1, Operand.tmp 6)], type := 22, pos := "bytes.go:12", after := #[{ on := 1, ground := Ground.data }, { on := 3, ground := Ground.data }], guard := none }) rfl (fun K hK => ?_) (AllReadyH.cons (o := { dst := some 17, op := Op.buildSlice 22 2 #[(0, Operand.tmp 14), (1, Operand.tmp 16)], type := 22, pos := "bytes.go:12", after := #[{ on := 11, ground := Ground.data }, { on := 13, ground := Ground.data }], guard := none }) rfl (fun K hK => ?_) AllReadyH.nil))
  · have s1r1t := s0t.trans ((below1 (o := (.cells #[.int .i64 k, .int .i64 r] 3))).mono s0t.size)
    have s1r1n4 := cm_lit2 u0 k r
    refine wp_int2 (.tmp 4) (.tmp 6) rfl rfl rfl ?_
    generalize u0.alloc (.cells #[.int .i64 k, .int .i64 r] 3) = U1r1 at s1r1t s1r1n4 ⊢
    generalize u0.heap.size = G1 at s1r1n4 ⊢
    refine hK.out _ _ ?_ (fun hHeld => ?_)
    · exact HP.out _ s1r1t
    clear hK K
    try simp only [Act.put, List.setIfInBounds_toArray, List.set_cons_zero, List.set_cons_succ]
    refine wpAnyH_ready (rs := [5, 14]) (by kernel_rfl) (by simp) (AllReadyH.cons (o := { dst := some 8, op := Op.call { callee := Callee.value (Operand.func 23), args := #[Operand.tmp 7], argTypes := #[22] }, type := 9, pos := "bytes.go:12", after := #[{ on := 4, ground := Ground.data }], guard := none }) rfl (fun K hK => ?_) (AllReadyH.cons (o := { dst := some 17, op := Op.buildSlice 22 2 #[(0, Operand.tmp 14), (1, Operand.tmp 16)], type := 22, pos := "bytes.go:12", after := #[{ on := 11, ground := Ground.data }, { on := 13, ground := Ground.data }], guard := none }) rfl (fun K hK => ?_) AllReadyH.nil))
    · (go_simp; (go_at_call 23; (with_reducible refine (HA.out _ _ s1r1n4).mono ?_); rintro e V2r1 ⟨rfl, s2r1b⟩))
      have s2r1t := s1r1t.trans (s2r1b.mono s1r1t.size)
      have s2r1n4 := s1r1n4.later s2r1b
      refine hK.out _ _ ?_ (fun hHeld => ?_)
      · exact HP.out _ s2r1t
      clear hK K
      try simp only [Act.put, List.setIfInBounds_toArray, List.set_cons_zero, List.set_cons_succ]
      refine wpAnyH_ready (rs := [8, 14]) (by kernel_rfl) (by simp) (AllReadyH.cons (o := { dst := some 11, op := Op.call { callee := Callee.value (Operand.func 24), args := #[Operand.tmp 10], argTypes := #[22] }, type := 9, pos := "bytes.go:12", after := #[{ on := 7, ground := Ground.data }, { on := 5, ground := Ground.chain }], guard := none }) rfl (fun K hK => ?_) (AllReadyH.cons (o := { dst := some 17, op := Op.buildSlice 22 2 #[(0, Operand.tmp 14), (1, Operand.tmp 16)], type := 22, pos := "bytes.go:12", after := #[{ on := 11, ground := Ground.data }, { on := 13, ground := Ground.data }], guard := none }) rfl (fun K hK => ?_) AllReadyH.nil))
      · (go_simp; (go_at_call 24; (with_reducible refine (HB.out _ s2r1t).mono ?_); rintro e V3r1 ⟨rfl, s3r1b⟩))
        have s3r1t := s2r1t.trans (s3r1b.mono s2r1t.size)
        have s3r1n4 := s2r1n4.later s3r1b
        refine hK.out _ _ ?_ (fun hHeld => ?_)
        · exact HP.out _ s3r1t
        clear hK K
        try simp only [Act.put, List.setIfInBounds_toArray, List.set_cons_zero, List.set_cons_succ]
        refine wpAnyH_take (i := 9) (oi := { dst := some 12, op := Op.binOp BinOp.add 9 (Operand.tmp 8) (Operand.tmp 11) 9, type := 9, pos := "bytes.go:12", after := #[{ on := 5, ground := Ground.data }, { on := 8, ground := Ground.data }], guard := none }) (v := .string (sA ++ sB)) rfl (by kernel_rfl) (by kernel_rfl) (by kernel_rfl) (fun _ _ _ h => h) (Or.inl ⟨by kernel_rfl, ?_⟩) (by assumption) ?_
        focus (intro w hSw; (try dsimp only at hSw); go_simp; (first | done | rfl | (simp [*]; done)))
        try simp only [Act.put, List.setIfInBounds_toArray, List.set_cons_zero, List.set_cons_succ]
        refine wpAnyH_ready (rs := [14]) (by kernel_rfl) (by simp) (AllReadyH.cons (o := { dst := some 17, op := Op.buildSlice 22 2 #[(0, Operand.tmp 14), (1, Operand.tmp 16)], type := 22, pos := "bytes.go:12", after := #[{ on := 11, ground := Ground.data }, { on := 13, ground := Ground.data }], guard := none }) rfl (fun K hK => ?_) AllReadyH.nil)
        have s4r1t := s3r1t.trans ((below1 (o := (.cells #[.int .i64 d, .int .i64 v] 3))).mono s3r1t.size)
        have s4r1n4 := s3r1n4.later (below1 (o := (.cells #[.int .i64 d, .int .i64 v] 3)))
        have s4r1n14 := cm_lit2 V3r1 d v
        refine wp_int2 (.tmp 14) (.tmp 16) rfl rfl rfl ?_
        generalize V3r1.alloc (.cells #[.int .i64 d, .int .i64 v] 3) = U4r1 at s4r1t s4r1n4 s4r1n14 ⊢
        generalize V3r1.heap.size = G4 at s4r1n14 ⊢
        refine hK.out _ _ ?_ (fun hHeld => ?_)
        · exact HP.out _ s4r1t
        clear hK K
        try simp only [Act.put, List.setIfInBounds_toArray, List.set_cons_zero, List.set_cons_succ]
        refine wpAnyH_ready (rs := [15]) (by kernel_rfl) (by simp) (AllReadyH.cons (o := { dst := some 18, op := Op.call { callee := Callee.value (Operand.func 23), args := #[Operand.tmp 17], argTypes := #[22] }, type := 9, pos := "bytes.go:12", after := #[{ on := 14, ground := Ground.data }, { on := 8, ground := Ground.chain }], guard := none }) rfl (fun K hK => ?_) AllReadyH.nil)
        (go_simp; (go_at_call 23; (with_reducible refine (HD.out _ _ s4r1n14).mono ?_); rintro e V5r1 ⟨rfl, s5r1b⟩))
        have s5r1t := s4r1t.trans (s5r1b.mono s4r1t.size)
        have s5r1n4 := s4r1n4.later s5r1b
        have s5r1n14 := s4r1n14.later s5r1b
        refine hK.out _ _ ?_ (fun hHeld => ?_)
        · exact HP.out _ s5r1t
        clear hK K
        try simp only [Act.put, List.setIfInBounds_toArray, List.set_cons_zero, List.set_cons_succ]
        refine wpAnyH_take (i := 16) (oi := { dst := some 19, op := Op.binOp BinOp.add 9 (Operand.tmp 12) (Operand.tmp 18) 9, type := 9, pos := "bytes.go:12", after := #[{ on := 9, ground := Ground.data }, { on := 15, ground := Ground.data }], guard := none }) (v := .string (sA ++ sB ++ sD)) rfl (by kernel_rfl) (by kernel_rfl) (by kernel_rfl) (fun _ _ _ h => h) (Or.inl ⟨by kernel_rfl, ?_⟩) (by assumption) ?_
        focus (intro w hSw; (try dsimp only at hSw); go_simp; (first | done | rfl | (simp [*]; done)))
        try simp only [Act.put, List.setIfInBounds_toArray, List.set_cons_zero, List.set_cons_succ]
        refine wpAnyH_ready (rs := [19]) (by kernel_rfl) (by simp) (AllReadyH.cons (o := { dst := some 22, op := Op.call { callee := Callee.value (Operand.func 24), args := #[Operand.tmp 21], argTypes := #[22] }, type := 9, pos := "bytes.go:12", after := #[{ on := 18, ground := Ground.data }, { on := 15, ground := Ground.chain }], guard := none }) rfl (fun K hK => ?_) AllReadyH.nil)
        (go_simp; (go_at_call 24; (with_reducible refine (HE.out _ s5r1t).mono ?_); rintro e V6r1 ⟨rfl, s6r1b⟩))
        have s6r1t := s5r1t.trans (s6r1b.mono s5r1t.size)
        have s6r1n4 := s5r1n4.later s6r1b
        have s6r1n14 := s5r1n14.later s6r1b
        refine hK.out _ _ ?_ (fun hHeld => ?_)
        · exact HP.out _ s6r1t
        clear hK K
        try simp only [Act.put, List.setIfInBounds_toArray, List.set_cons_zero, List.set_cons_succ]
        refine wpAnyH_take (i := 20) (oi := { dst := some 23, op := Op.binOp BinOp.add 9 (Operand.tmp 19) (Operand.tmp 22) 9, type := 9, pos := "bytes.go:12", after := #[{ on := 16, ground := Ground.data }, { on := 19, ground := Ground.data }], guard := none }) (v := .string (sA ++ sB ++ sD ++ sE)) rfl (by kernel_rfl) (by kernel_rfl) (by kernel_rfl) (fun _ _ _ h => h) (Or.inl ⟨by kernel_rfl, ?_⟩) (by assumption) ?_
        focus (intro w hSw; (try dsimp only at hSw); go_simp; (first | done | rfl | (simp [*]; done)))
        try simp only [Act.put, List.setIfInBounds_toArray, List.set_cons_zero, List.set_cons_succ]
        refine wpAnyH_take (i := 21) (oi := { dst := some 2, op := Op.assign (Operand.tmp 23), type := 9, pos := "bytes.go:12", after := #[{ on := 20, ground := Ground.data }, { on := 19, ground := Ground.chain }, { on := 0, ground := Ground.phase }, { on := 1, ground := Ground.phase }, { on := 2, ground := Ground.phase }, { on := 3, ground := Ground.phase }, { on := 4, ground := Ground.phase }, { on := 5, ground := Ground.phase }, { on := 6, ground := Ground.phase }, { on := 7, ground := Ground.phase }, { on := 8, ground := Ground.phase }, { on := 9, ground := Ground.phase }, { on := 10, ground := Ground.phase }, { on := 11, ground := Ground.phase }, { on := 12, ground := Ground.phase }, { on := 13, ground := Ground.phase }, { on := 14, ground := Ground.phase }, { on := 15, ground := Ground.phase }, { on := 16, ground := Ground.phase }, { on := 17, ground := Ground.phase }, { on := 18, ground := Ground.phase }, { on := 19, ground := Ground.phase }, { on := 20, ground := Ground.phase }], guard := none }) (v := ?_) rfl (by kernel_rfl) (by kernel_rfl) (by kernel_rfl) (fun _ _ _ h => h) (Or.inl ⟨by kernel_rfl, ?_⟩) (by assumption) ?_
        rotate_left 1
        focus (intro w hSw; (try dsimp only at hSw); go_simp; (try with_reducible rfl))
        try simp only [Act.put, List.setIfInBounds_toArray, List.set_cons_zero, List.set_cons_succ]
        refine wpAnyH_done (by kernel_rfl) ?_ _
        have HFN := Lib.hid s6r1t
        go_wp2_with fail
        go_ret
        exact ⟨O.ret_str HEQ.out, HWB.out.trans (HFN.out.mono HWB.out.size)⟩
      · have s7r1t := s2r1t.trans ((below1 (o := (.cells #[.int .i64 d, .int .i64 v] 3))).mono s2r1t.size)
        have s7r1n4 := s2r1n4.later (below1 (o := (.cells #[.int .i64 d, .int .i64 v] 3)))
        have s7r1n14 := cm_lit2 V2r1 d v
        refine wp_int2 (.tmp 14) (.tmp 16) rfl rfl rfl ?_
        generalize V2r1.alloc (.cells #[.int .i64 d, .int .i64 v] 3) = U7r1 at s7r1t s7r1n4 s7r1n14 ⊢
        generalize V2r1.heap.size = G7 at s7r1n14 ⊢
        refine hK.out _ _ ?_ (fun hHeld => ?_)
        · exact HP.out _ s7r1t
        clear hK K
        try simp only [Act.put, List.setIfInBounds_toArray, List.set_cons_zero, List.set_cons_succ]
        refine wpAnyH_ready (rs := [8]) (by kernel_rfl) (by simp) (AllReadyH.cons (o := { dst := some 11, op := Op.call { callee := Callee.value (Operand.func 24), args := #[Operand.tmp 10], argTypes := #[22] }, type := 9, pos := "bytes.go:12", after := #[{ on := 7, ground := Ground.data }, { on := 5, ground := Ground.chain }], guard := none }) rfl (fun K hK => ?_) AllReadyH.nil)
        (go_simp; (go_at_call 24; (with_reducible refine (HB.out _ s7r1t).mono ?_); rintro e V8r1 ⟨rfl, s8r1b⟩))
        have s8r1t := s7r1t.trans (s8r1b.mono s7r1t.size)
        have s8r1n4 := s7r1n4.later s8r1b
        have s8r1n14 := s7r1n14.later s8r1b
        refine hK.out _ _ ?_ (fun hHeld => ?_)
        · exact HP.out _ s8r1t
        clear hK K
        try simp only [Act.put, List.setIfInBounds_toArray, List.set_cons_zero, List.set_cons_succ]
        refine wpAnyH_take (i := 9) (oi := { dst := some 12, op := Op.binOp BinOp.add 9 (Operand.tmp 8) (Operand.tmp 11) 9, type := 9, pos := "bytes.go:12", after := #[{ on := 5, ground := Ground.data }, { on := 8, ground := Ground.data }], guard := none }) (v := .string (sA ++ sB)) rfl (by kernel_rfl) (by kernel_rfl) (by kernel_rfl) (fun _ _ _ h => h) (Or.inl ⟨by kernel_rfl, ?_⟩) (by assumption) ?_
        focus (intro w hSw; (try dsimp only at hSw); go_simp; (first | done | rfl | (simp [*]; done)))
        try simp only [Act.put, List.setIfInBounds_toArray, List.set_cons_zero, List.set_cons_succ]
        refine wpAnyH_ready (rs := [15]) (by kernel_rfl) (by simp) (AllReadyH.cons (o := { dst := some 18, op := Op.call { callee := Callee.value (Operand.func 23), args := #[Operand.tmp 17], argTypes := #[22] }, type := 9, pos := "bytes.go:12", after := #[{ on := 14, ground := Ground.data }, { on := 8, ground := Ground.chain }], guard := none }) rfl (fun K hK => ?_) AllReadyH.nil)
        (go_simp; (go_at_call 23; (with_reducible refine (HD.out _ _ s8r1n14).mono ?_); rintro e V9r1 ⟨rfl, s9r1b⟩))
        have s9r1t := s8r1t.trans (s9r1b.mono s8r1t.size)
        have s9r1n4 := s8r1n4.later s9r1b
        have s9r1n14 := s8r1n14.later s9r1b
        refine hK.out _ _ ?_ (fun hHeld => ?_)
        · exact HP.out _ s9r1t
        clear hK K
        try simp only [Act.put, List.setIfInBounds_toArray, List.set_cons_zero, List.set_cons_succ]
        refine wpAnyH_take (i := 16) (oi := { dst := some 19, op := Op.binOp BinOp.add 9 (Operand.tmp 12) (Operand.tmp 18) 9, type := 9, pos := "bytes.go:12", after := #[{ on := 9, ground := Ground.data }, { on := 15, ground := Ground.data }], guard := none }) (v := .string (sA ++ sB ++ sD)) rfl (by kernel_rfl) (by kernel_rfl) (by kernel_rfl) (fun _ _ _ h => h) (Or.inl ⟨by kernel_rfl, ?_⟩) (by assumption) ?_
        focus (intro w hSw; (try dsimp only at hSw); go_simp; (first | done | rfl | (simp [*]; done)))
        try simp only [Act.put, List.setIfInBounds_toArray, List.set_cons_zero, List.set_cons_succ]
        refine wpAnyH_ready (rs := [19]) (by kernel_rfl) (by simp) (AllReadyH.cons (o := { dst := some 22, op := Op.call { callee := Callee.value (Operand.func 24), args := #[Operand.tmp 21], argTypes := #[22] }, type := 9, pos := "bytes.go:12", after := #[{ on := 18, ground := Ground.data }, { on := 15, ground := Ground.chain }], guard := none }) rfl (fun K hK => ?_) AllReadyH.nil)
        (go_simp; (go_at_call 24; (with_reducible refine (HE.out _ s9r1t).mono ?_); rintro e V10r1 ⟨rfl, s10r1b⟩))
        have s10r1t := s9r1t.trans (s10r1b.mono s9r1t.size)
        have s10r1n4 := s9r1n4.later s10r1b
        have s10r1n14 := s9r1n14.later s10r1b
        refine hK.out _ _ ?_ (fun hHeld => ?_)
        · exact HP.out _ s10r1t
        clear hK K
        try simp only [Act.put, List.setIfInBounds_toArray, List.set_cons_zero, List.set_cons_succ]
        refine wpAnyH_take (i := 20) (oi := { dst := some 23, op := Op.binOp BinOp.add 9 (Operand.tmp 19) (Operand.tmp 22) 9, type := 9, pos := "bytes.go:12", after := #[{ on := 16, ground := Ground.data }, { on := 19, ground := Ground.data }], guard := none }) (v := .string (sA ++ sB ++ sD ++ sE)) rfl (by kernel_rfl) (by kernel_rfl) (by kernel_rfl) (fun _ _ _ h => h) (Or.inl ⟨by kernel_rfl, ?_⟩) (by assumption) ?_
        focus (intro w hSw; (try dsimp only at hSw); go_simp; (first | done | rfl | (simp [*]; done)))
        try simp only [Act.put, List.setIfInBounds_toArray, List.set_cons_zero, List.set_cons_succ]
        refine wpAnyH_take (i := 21) (oi := { dst := some 2, op := Op.assign (Operand.tmp 23), type := 9, pos := "bytes.go:12", after := #[{ on := 20, ground := Ground.data }, { on := 19, ground := Ground.chain }, { on := 0, ground := Ground.phase }, { on := 1, ground := Ground.phase }, { on := 2, ground := Ground.phase }, { on := 3, ground := Ground.phase }, { on := 4, ground := Ground.phase }, { on := 5, ground := Ground.phase }, { on := 6, ground := Ground.phase }, { on := 7, ground := Ground.phase }, { on := 8, ground := Ground.phase }, { on := 9, ground := Ground.phase }, { on := 10, ground := Ground.phase }, { on := 11, ground := Ground.phase }, { on := 12, ground := Ground.phase }, { on := 13, ground := Ground.phase }, { on := 14, ground := Ground.phase }, { on := 15, ground := Ground.phase }, { on := 16, ground := Ground.phase }, { on := 17, ground := Ground.phase }, { on := 18, ground := Ground.phase }, { on := 19, ground := Ground.phase }, { on := 20, ground := Ground.phase }], guard := none }) (v := ?_) rfl (by kernel_rfl) (by kernel_rfl) (by kernel_rfl) (fun _ _ _ h => h) (Or.inl ⟨by kernel_rfl, ?_⟩) (by assumption) ?_
        rotate_left 1
        focus (intro w hSw; (try dsimp only at hSw); go_simp; (try with_reducible rfl))
        try simp only [Act.put, List.setIfInBounds_toArray, List.set_cons_zero, List.set_cons_succ]
        refine wpAnyH_done (by kernel_rfl) ?_ _
        have HFN := Lib.hid s10r1t
        go_wp2_with fail
        go_ret
        exact ⟨O.ret_str HEQ.out, HWB.out.trans (HFN.out.mono HWB.out.size)⟩
    · have s11r1t := s1r1t.trans ((below1 (o := (.cells #[.int .i64 d, .int .i64 v] 3))).mono s1r1t.size)
      have s11r1n4 := s1r1n4.later (below1 (o := (.cells #[.int .i64 d, .int .i64 v] 3)))
      have s11r1n14 := cm_lit2 U1r1 d v
      refine wp_int2 (.tmp 14) (.tmp 16) rfl rfl rfl ?_
      generalize U1r1.alloc (.cells #[.int .i64 d, .int .i64 v] 3) = U11r1 at s11r1t s11r1n4 s11r1n14 ⊢
      generalize U1r1.heap.size = G11 at s11r1n14 ⊢
      refine hK.out _ _ ?_ (fun hHeld => ?_)
      · exact HP.out _ s11r1t
      clear hK K
      try simp only [Act.put, List.setIfInBounds_toArray, List.set_cons_zero, List.set_cons_succ]
      refine wpAnyH_ready (rs := [5]) (by kernel_rfl) (by simp) (AllReadyH.cons (o := { dst := some 8, op := Op.call { callee := Callee.value (Operand.func 23), args := #[Operand.tmp 7], argTypes := #[22] }, type := 9, pos := "bytes.go:12", after := #[{ on := 4, ground := Ground.data }], guard := none }) rfl (fun K hK => ?_) AllReadyH.nil)
      (go_simp; (go_at_call 23; (with_reducible refine (HA.out _ _ s11r1n4).mono ?_); rintro e V12r1 ⟨rfl, s12r1b⟩))
      have s12r1t := s11r1t.trans (s12r1b.mono s11r1t.size)
      have s12r1n4 := s11r1n4.later s12r1b
      have s12r1n14 := s11r1n14.later s12r1b
      refine hK.out _ _ ?_ (fun hHeld => ?_)
      · exact HP.out _ s12r1t
      clear hK K
      try simp only [Act.put, List.setIfInBounds_toArray, List.set_cons_zero, List.set_cons_succ]
      refine wpAnyH_ready (rs := [8]) (by kernel_rfl) (by simp) (AllReadyH.cons (o := { dst := some 11, op := Op.call { callee := Callee.value (Operand.func 24), args := #[Operand.tmp 10], argTypes := #[22] }, type := 9, pos := "bytes.go:12", after := #[{ on := 7, ground := Ground.data }, { on := 5, ground := Ground.chain }], guard := none }) rfl (fun K hK => ?_) AllReadyH.nil)
      (go_simp; (go_at_call 24; (with_reducible refine (HB.out _ s12r1t).mono ?_); rintro e V13r1 ⟨rfl, s13r1b⟩))
      have s13r1t := s12r1t.trans (s13r1b.mono s12r1t.size)
      have s13r1n4 := s12r1n4.later s13r1b
      have s13r1n14 := s12r1n14.later s13r1b
      refine hK.out _ _ ?_ (fun hHeld => ?_)
      · exact HP.out _ s13r1t
      clear hK K
      try simp only [Act.put, List.setIfInBounds_toArray, List.set_cons_zero, List.set_cons_succ]
      refine wpAnyH_take (i := 9) (oi := { dst := some 12, op := Op.binOp BinOp.add 9 (Operand.tmp 8) (Operand.tmp 11) 9, type := 9, pos := "bytes.go:12", after := #[{ on := 5, ground := Ground.data }, { on := 8, ground := Ground.data }], guard := none }) (v := .string (sA ++ sB)) rfl (by kernel_rfl) (by kernel_rfl) (by kernel_rfl) (fun _ _ _ h => h) (Or.inl ⟨by kernel_rfl, ?_⟩) (by assumption) ?_
      focus (intro w hSw; (try dsimp only at hSw); go_simp; (first | done | rfl | (simp [*]; done)))
      try simp only [Act.put, List.setIfInBounds_toArray, List.set_cons_zero, List.set_cons_succ]
      refine wpAnyH_ready (rs := [15]) (by kernel_rfl) (by simp) (AllReadyH.cons (o := { dst := some 18, op := Op.call { callee := Callee.value (Operand.func 23), args := #[Operand.tmp 17], argTypes := #[22] }, type := 9, pos := "bytes.go:12", after := #[{ on := 14, ground := Ground.data }, { on := 8, ground := Ground.chain }], guard := none }) rfl (fun K hK => ?_) AllReadyH.nil)
      (go_simp; (go_at_call 23; (with_reducible refine (HD.out _ _ s13r1n14).mono ?_); rintro e V14r1 ⟨rfl, s14r1b⟩))
      have s14r1t := s13r1t.trans (s14r1b.mono s13r1t.size)
      have s14r1n4 := s13r1n4.later s14r1b
      have s14r1n14 := s13r1n14.later s14r1b
      refine hK.out _ _ ?_ (fun hHeld => ?_)
      · exact HP.out _ s14r1t
      clear hK K
      try simp only [Act.put, List.setIfInBounds_toArray, List.set_cons_zero, List.set_cons_succ]
      refine wpAnyH_take (i := 16) (oi := { dst := some 19, op := Op.binOp BinOp.add 9 (Operand.tmp 12) (Operand.tmp 18) 9, type := 9, pos := "bytes.go:12", after := #[{ on := 9, ground := Ground.data }, { on := 15, ground := Ground.data }], guard := none }) (v := .string (sA ++ sB ++ sD)) rfl (by kernel_rfl) (by kernel_rfl) (by kernel_rfl) (fun _ _ _ h => h) (Or.inl ⟨by kernel_rfl, ?_⟩) (by assumption) ?_
      focus (intro w hSw; (try dsimp only at hSw); go_simp; (first | done | rfl | (simp [*]; done)))
      try simp only [Act.put, List.setIfInBounds_toArray, List.set_cons_zero, List.set_cons_succ]
      refine wpAnyH_ready (rs := [19]) (by kernel_rfl) (by simp) (AllReadyH.cons (o := { dst := some 22, op := Op.call { callee := Callee.value (Operand.func 24), args := #[Operand.tmp 21], argTypes := #[22] }, type := 9, pos := "bytes.go:12", after := #[{ on := 18, ground := Ground.data }, { on := 15, ground := Ground.chain }], guard := none }) rfl (fun K hK => ?_) AllReadyH.nil)
      (go_simp; (go_at_call 24; (with_reducible refine (HE.out _ s14r1t).mono ?_); rintro e V15r1 ⟨rfl, s15r1b⟩))
      have s15r1t := s14r1t.trans (s15r1b.mono s14r1t.size)
      have s15r1n4 := s14r1n4.later s15r1b
      have s15r1n14 := s14r1n14.later s15r1b
      refine hK.out _ _ ?_ (fun hHeld => ?_)
      · exact HP.out _ s15r1t
      clear hK K
      try simp only [Act.put, List.setIfInBounds_toArray, List.set_cons_zero, List.set_cons_succ]
      refine wpAnyH_take (i := 20) (oi := { dst := some 23, op := Op.binOp BinOp.add 9 (Operand.tmp 19) (Operand.tmp 22) 9, type := 9, pos := "bytes.go:12", after := #[{ on := 16, ground := Ground.data }, { on := 19, ground := Ground.data }], guard := none }) (v := .string (sA ++ sB ++ sD ++ sE)) rfl (by kernel_rfl) (by kernel_rfl) (by kernel_rfl) (fun _ _ _ h => h) (Or.inl ⟨by kernel_rfl, ?_⟩) (by assumption) ?_
      focus (intro w hSw; (try dsimp only at hSw); go_simp; (first | done | rfl | (simp [*]; done)))
      try simp only [Act.put, List.setIfInBounds_toArray, List.set_cons_zero, List.set_cons_succ]
      refine wpAnyH_take (i := 21) (oi := { dst := some 2, op := Op.assign (Operand.tmp 23), type := 9, pos := "bytes.go:12", after := #[{ on := 20, ground := Ground.data }, { on := 19, ground := Ground.chain }, { on := 0, ground := Ground.phase }, { on := 1, ground := Ground.phase }, { on := 2, ground := Ground.phase }, { on := 3, ground := Ground.phase }, { on := 4, ground := Ground.phase }, { on := 5, ground := Ground.phase }, { on := 6, ground := Ground.phase }, { on := 7, ground := Ground.phase }, { on := 8, ground := Ground.phase }, { on := 9, ground := Ground.phase }, { on := 10, ground := Ground.phase }, { on := 11, ground := Ground.phase }, { on := 12, ground := Ground.phase }, { on := 13, ground := Ground.phase }, { on := 14, ground := Ground.phase }, { on := 15, ground := Ground.phase }, { on := 16, ground := Ground.phase }, { on := 17, ground := Ground.phase }, { on := 18, ground := Ground.phase }, { on := 19, ground := Ground.phase }, { on := 20, ground := Ground.phase }], guard := none }) (v := ?_) rfl (by kernel_rfl) (by kernel_rfl) (by kernel_rfl) (fun _ _ _ h => h) (Or.inl ⟨by kernel_rfl, ?_⟩) (by assumption) ?_
      rotate_left 1
      focus (intro w hSw; (try dsimp only at hSw); go_simp; (try with_reducible rfl))
      try simp only [Act.put, List.setIfInBounds_toArray, List.set_cons_zero, List.set_cons_succ]
      refine wpAnyH_done (by kernel_rfl) ?_ _
      have HFN := Lib.hid s15r1t
      go_wp2_with fail
      go_ret
      exact ⟨O.ret_str HEQ.out, HWB.out.trans (HFN.out.mono HWB.out.size)⟩
  · have s16r1t := s0t.trans ((below1 (o := (.cells #[.int .i64 d, .int .i64 v] 3))).mono s0t.size)
    have s16r1n14 := cm_lit2 u0 d v
    refine wp_int2 (.tmp 14) (.tmp 16) rfl rfl rfl ?_
    generalize u0.alloc (.cells #[.int .i64 d, .int .i64 v] 3) = U16r1 at s16r1t s16r1n14 ⊢
    generalize u0.heap.size = G16 at s16r1n14 ⊢
    refine hK.out _ _ ?_ (fun hHeld => ?_)
    · exact HP.out _ s16r1t
    clear hK K
    try simp only [Act.put, List.setIfInBounds_toArray, List.set_cons_zero, List.set_cons_succ]
    refine wpAnyH_ready (rs := [4]) (by kernel_rfl) (by simp) (AllReadyH.cons (o := { dst := some 7, op := Op.buildSlice 22 2 #[(0, Operand.tmp 4), (1, Operand.tmp 6)], type := 22, pos := "bytes.go:12", after := #[{ on := 1, ground := Ground.data }, { on := 3, ground := Ground.data }], guard := none }) rfl (fun K hK => ?_) AllReadyH.nil)
    have s17r1t := s16r1t.trans ((below1 (o := (.cells #[.int .i64 k, .int .i64 r] 3))).mono s16r1t.size)
    have s17r1n14 := s16r1n14.later (below1 (o := (.cells #[.int .i64 k, .int .i64 r] 3)))
    have s17r1n4 := cm_lit2 U16r1 k r
    refine wp_int2 (.tmp 4) (.tmp 6) rfl rfl rfl ?_
    generalize U16r1.alloc (.cells #[.int .i64 k, .int .i64 r] 3) = U17r1 at s17r1t s17r1n14 s17r1n4 ⊢
    generalize U16r1.heap.size = G17 at s17r1n4 ⊢
    refine hK.out _ _ ?_ (fun hHeld => ?_)
    · exact HP.out _ s17r1t
    clear hK K
    try simp only [Act.put, List.setIfInBounds_toArray, List.set_cons_zero, List.set_cons_succ]
    refine wpAnyH_ready (rs := [5]) (by kernel_rfl) (by simp) (AllReadyH.cons (o := { dst := some 8, op := Op.call { callee := Callee.value (Operand.func 23), args := #[Operand.tmp 7], argTypes := #[22] }, type := 9, pos := "bytes.go:12", after := #[{ on := 4, ground := Ground.data }], guard := none }) rfl (fun K hK => ?_) AllReadyH.nil)
    (go_simp; (go_at_call 23; (with_reducible refine (HA.out _ _ s17r1n4).mono ?_); rintro e V18r1 ⟨rfl, s18r1b⟩))
    have s18r1t := s17r1t.trans (s18r1b.mono s17r1t.size)
    have s18r1n14 := s17r1n14.later s18r1b
    have s18r1n4 := s17r1n4.later s18r1b
    refine hK.out _ _ ?_ (fun hHeld => ?_)
    · exact HP.out _ s18r1t
    clear hK K
    try simp only [Act.put, List.setIfInBounds_toArray, List.set_cons_zero, List.set_cons_succ]
    refine wpAnyH_ready (rs := [8]) (by kernel_rfl) (by simp) (AllReadyH.cons (o := { dst := some 11, op := Op.call { callee := Callee.value (Operand.func 24), args := #[Operand.tmp 10], argTypes := #[22] }, type := 9, pos := "bytes.go:12", after := #[{ on := 7, ground := Ground.data }, { on := 5, ground := Ground.chain }], guard := none }) rfl (fun K hK => ?_) AllReadyH.nil)
    (go_simp; (go_at_call 24; (with_reducible refine (HB.out _ s18r1t).mono ?_); rintro e V19r1 ⟨rfl, s19r1b⟩))
    have s19r1t := s18r1t.trans (s19r1b.mono s18r1t.size)
    have s19r1n14 := s18r1n14.later s19r1b
    have s19r1n4 := s18r1n4.later s19r1b
    refine hK.out _ _ ?_ (fun hHeld => ?_)
    · exact HP.out _ s19r1t
    clear hK K
    try simp only [Act.put, List.setIfInBounds_toArray, List.set_cons_zero, List.set_cons_succ]
    refine wpAnyH_take (i := 9) (oi := { dst := some 12, op := Op.binOp BinOp.add 9 (Operand.tmp 8) (Operand.tmp 11) 9, type := 9, pos := "bytes.go:12", after := #[{ on := 5, ground := Ground.data }, { on := 8, ground := Ground.data }], guard := none }) (v := .string (sA ++ sB)) rfl (by kernel_rfl) (by kernel_rfl) (by kernel_rfl) (fun _ _ _ h => h) (Or.inl ⟨by kernel_rfl, ?_⟩) (by assumption) ?_
    focus (intro w hSw; (try dsimp only at hSw); go_simp; (first | done | rfl | (simp [*]; done)))
    try simp only [Act.put, List.setIfInBounds_toArray, List.set_cons_zero, List.set_cons_succ]
    refine wpAnyH_ready (rs := [15]) (by kernel_rfl) (by simp) (AllReadyH.cons (o := { dst := some 18, op := Op.call { callee := Callee.value (Operand.func 23), args := #[Operand.tmp 17], argTypes := #[22] }, type := 9, pos := "bytes.go:12", after := #[{ on := 14, ground := Ground.data }, { on := 8, ground := Ground.chain }], guard := none }) rfl (fun K hK => ?_) AllReadyH.nil)
    (go_simp; (go_at_call 23; (with_reducible refine (HD.out _ _ s19r1n14).mono ?_); rintro e V20r1 ⟨rfl, s20r1b⟩))
    have s20r1t := s19r1t.trans (s20r1b.mono s19r1t.size)
    have s20r1n14 := s19r1n14.later s20r1b
    have s20r1n4 := s19r1n4.later s20r1b
    refine hK.out _ _ ?_ (fun hHeld => ?_)
    · exact HP.out _ s20r1t
    clear hK K
    try simp only [Act.put, List.setIfInBounds_toArray, List.set_cons_zero, List.set_cons_succ]
    refine wpAnyH_take (i := 16) (oi := { dst := some 19, op := Op.binOp BinOp.add 9 (Operand.tmp 12) (Operand.tmp 18) 9, type := 9, pos := "bytes.go:12", after := #[{ on := 9, ground := Ground.data }, { on := 15, ground := Ground.data }], guard := none }) (v := .string (sA ++ sB ++ sD)) rfl (by kernel_rfl) (by kernel_rfl) (by kernel_rfl) (fun _ _ _ h => h) (Or.inl ⟨by kernel_rfl, ?_⟩) (by assumption) ?_
    focus (intro w hSw; (try dsimp only at hSw); go_simp; (first | done | rfl | (simp [*]; done)))
    try simp only [Act.put, List.setIfInBounds_toArray, List.set_cons_zero, List.set_cons_succ]
    refine wpAnyH_ready (rs := [19]) (by kernel_rfl) (by simp) (AllReadyH.cons (o := { dst := some 22, op := Op.call { callee := Callee.value (Operand.func 24), args := #[Operand.tmp 21], argTypes := #[22] }, type := 9, pos := "bytes.go:12", after := #[{ on := 18, ground := Ground.data }, { on := 15, ground := Ground.chain }], guard := none }) rfl (fun K hK => ?_) AllReadyH.nil)
    (go_simp; (go_at_call 24; (with_reducible refine (HE.out _ s20r1t).mono ?_); rintro e V21r1 ⟨rfl, s21r1b⟩))
    have s21r1t := s20r1t.trans (s21r1b.mono s20r1t.size)
    have s21r1n14 := s20r1n14.later s21r1b
    have s21r1n4 := s20r1n4.later s21r1b
    refine hK.out _ _ ?_ (fun hHeld => ?_)
    · exact HP.out _ s21r1t
    clear hK K
    try simp only [Act.put, List.setIfInBounds_toArray, List.set_cons_zero, List.set_cons_succ]
    refine wpAnyH_take (i := 20) (oi := { dst := some 23, op := Op.binOp BinOp.add 9 (Operand.tmp 19) (Operand.tmp 22) 9, type := 9, pos := "bytes.go:12", after := #[{ on := 16, ground := Ground.data }, { on := 19, ground := Ground.data }], guard := none }) (v := .string (sA ++ sB ++ sD ++ sE)) rfl (by kernel_rfl) (by kernel_rfl) (by kernel_rfl) (fun _ _ _ h => h) (Or.inl ⟨by kernel_rfl, ?_⟩) (by assumption) ?_
    focus (intro w hSw; (try dsimp only at hSw); go_simp; (first | done | rfl | (simp [*]; done)))
    try simp only [Act.put, List.setIfInBounds_toArray, List.set_cons_zero, List.set_cons_succ]
    refine wpAnyH_take (i := 21) (oi := { dst := some 2, op := Op.assign (Operand.tmp 23), type := 9, pos := "bytes.go:12", after := #[{ on := 20, ground := Ground.data }, { on := 19, ground := Ground.chain }, { on := 0, ground := Ground.phase }, { on := 1, ground := Ground.phase }, { on := 2, ground := Ground.phase }, { on := 3, ground := Ground.phase }, { on := 4, ground := Ground.phase }, { on := 5, ground := Ground.phase }, { on := 6, ground := Ground.phase }, { on := 7, ground := Ground.phase }, { on := 8, ground := Ground.phase }, { on := 9, ground := Ground.phase }, { on := 10, ground := Ground.phase }, { on := 11, ground := Ground.phase }, { on := 12, ground := Ground.phase }, { on := 13, ground := Ground.phase }, { on := 14, ground := Ground.phase }, { on := 15, ground := Ground.phase }, { on := 16, ground := Ground.phase }, { on := 17, ground := Ground.phase }, { on := 18, ground := Ground.phase }, { on := 19, ground := Ground.phase }, { on := 20, ground := Ground.phase }], guard := none }) (v := ?_) rfl (by kernel_rfl) (by kernel_rfl) (by kernel_rfl) (fun _ _ _ h => h) (Or.inl ⟨by kernel_rfl, ?_⟩) (by assumption) ?_
    rotate_left 1
    focus (intro w hSw; (try dsimp only at hSw); go_simp; (try with_reducible rfl))
    try simp only [Act.put, List.setIfInBounds_toArray, List.set_cons_zero, List.set_cons_succ]
    refine wpAnyH_done (by kernel_rfl) ?_ _
    have HFN := Lib.hid s21r1t
    go_wp2_with fail
    go_ret
    exact ⟨O.ret_str HEQ.out, HWB.out.trans (HFN.out.mono HWB.out.size)⟩
theorem cat_step {P : List UInt8} {c : List Int} {i : Nat} (hi : i < c.length) : O.str (P ++ vars (c.take i)) ++ O.str (O.Leb.varN (O.u64of (cg c i))) = O.str (P ++ vars (c.take (i + 1))) := by
  rw [O.str_append, List.append_assoc, vars_step hi]
theorem cat_sz {P : List UInt8} {c : List Int} (hP : P.length ≤ 100000) (hc : c.length ≤ 1000) (i : Nat) : (O.str (P ++ vars (c.take i))).size ≤ 1000000 := by
  have := vars_len (c.take i)
  rw [List.length_take] at this
  rw [O.str_size, List.length_append]
  omega
set_option maxHeartbeats 8000000 in
theorem rbytes_any (k r d v : Int) (ks cs : List Int) (K C : Value) (w : World) (hK : Cm w K ks) (hC : Cm w C cs) (hk : ks.length ≤ 1000) (hc : cs.length ≤ 1000) : Calls Tryz.prog 12 #[fv k r K d v C] w fun e w' => e = .returned (.string (O.str (byt k r ks d v cs))) ∧ Below w.heap.size w w' := by
  obtain ⟨pK, cK, rfl, ⟨hlk, hck⟩, hK1⟩ := cm_elem hK
  obtain ⟨pC, cC, rfl, ⟨hlc, hcc⟩, hC1⟩ := cm_elem hC
  have HLK0 := Lib.hid hK1; have HLC0 := Lib.hid hC1
  clear hK hC hK1 hC1
  have HEQ := Lib.hid (byt_eq2 k r ks d v cs)
  obtain ⟨nK, hnK⟩ : ∃ n, n = ks.length := ⟨_, rfl⟩
  obtain ⟨nC, hnC⟩ : ∃ n, n = cs.length := ⟨_, rfl⟩
  have HNnK := Lib.hid hnK; have HNnC := Lib.hid hnC
  obtain ⟨P1, hP1⟩ : ∃ P, O.Leb.varN (O.u64of k) ++ O.Leb.varN (O.u64of r) ++ O.Leb.varN (O.u64of (nK : Int)) = P := ⟨_, rfl⟩
  obtain ⟨P2, hP2⟩ : ∃ P, P1 ++ vars ks ++ O.Leb.varN (O.u64of d) ++ O.Leb.varN (O.u64of v) ++ O.Leb.varN (O.u64of (nC : Int)) = P := ⟨_, rfl⟩
  have HR := Lib.hid (show P2 ++ vars cs = byt k r ks d v cs by rw [← hP2, ← hP1, hnK, hnC]; exact HEQ.out)
  have l0 := O.Leb.varN_len64 (O.u64of_lt k); have l1 := O.Leb.varN_len64 (O.u64of_lt r); have l2 := O.Leb.varN_len64 (O.u64of_lt (nK : Int)); have l3 := O.Leb.varN_len64 (O.u64of_lt d); have l4 := O.Leb.varN_len64 (O.u64of_lt v); have l5 := O.Leb.varN_len64 (O.u64of_lt (nC : Int))
  have l6 := vars_len ks
  have hl1 : P1.length ≤ 30 := by rw [← hP1]; simp only [List.length_append]; omega
  have hl2 : P2.length ≤ 11000 := by rw [← hP2]; simp only [List.length_append]; omega
  have HZnK : Hid (∀ i, i ≤ nK → (O.str (P1 ++ vars (ks.take i))).size ≤ 10000000) := fun i _ => Nat.le_trans (cat_sz (by omega) hk i) (by decide)
  have HZnC : Hid (∀ i, i ≤ nC → (O.str (P2 ++ vars (cs.take i))).size ≤ 10000000) := fun i _ => Nat.le_trans (cat_sz (by omega) hc i) (by decide)
  have HS1 : Hid (O.str (O.Leb.varN (O.u64of k)) ++ O.str (O.Leb.varN (O.u64of r)) ++ O.str (O.Leb.varN (O.u64of (nK : Int))) = O.str P1) := by rw [← hP1]; simp only [O.str_append, Hid]
  have HS2 : Hid (O.str (P1 ++ vars ks) ++ O.str (O.Leb.varN (O.u64of d)) ++ O.str (O.Leb.varN (O.u64of v)) ++ O.str (O.Leb.varN (O.u64of (nC : Int))) = O.str P2) := by rw [← hP2]; simp only [O.str_append, Hid]
  have y0 : (O.str (O.Leb.varN (O.u64of k))).size ≤ 10 := O.var_size _
  have y1 : (O.str (O.Leb.varN (O.u64of r))).size ≤ 10 := O.var_size _
  have y2 : (O.str (O.Leb.varN (O.u64of (nK : Int)))).size ≤ 10 := O.var_size _
  have y3 : (O.str (O.Leb.varN (O.u64of d))).size ≤ 10 := O.var_size _
  have y4 : (O.str (O.Leb.varN (O.u64of v))).size ≤ 10 := O.var_size _
  have y5 : (O.str (O.Leb.varN (O.u64of (nC : Int)))).size ≤ 10 := O.var_size _
  have y6 : (O.str (P1 ++ vars ks)).size ≤ 100000 := by rw [O.str_size, List.length_append]; omega
  have hs := (St.start w).alloc (fq k r (.slice pK nK cK) d v (.slice pC nC cC))
  have HWB := Lib.hid hs.below
  have HP0 : Hid (∀ V, Below (w.alloc (fq k r (.slice pK nK cK) d v (.slice pC nC cC))).heap.size (w.alloc (fq k r (.slice pK nK cK) d v (.slice pC nC cC))) V → FA V w.heap.size k r (.slice pK nK cK) d v (.slice pC nC cC)) := fun V h => fa_st (hs.later h)
  rw [← hnK] at HLK0 hlk ⊢
  rw [← hnC] at HLC0 hlc ⊢
  clear hs hnK hnC hP1 hP2 l0 l1 l2 l3 l4 l5 l6 hl1 hl2 HEQ
  have hnk : nK ≤ 1000 := by rw [HNnK.out]; exact hk
  have hnc : nC ≤ 1000 := by rw [HNnC.out]; exact hc
  clear hk hc
  go_enter Tryz.func12, Tryz.ntmps12
  go_upto_region 1 with fail
  generalize w.alloc (fq k r (.slice pK nK cK) d v (.slice pC nC cC)) = w1 at HP0 HWB ⊢
  have HLnK : Hid (∀ V, Below w1.heap.size w1 V → ∀ i, i < nK → ∃ b off, pK = some ⟨b, off, none⟩ ∧ V.cell? ⟨b, off + i, none⟩ = some (.int .i64 (cg ks i))) := fun V h => HLK0.out V (HWB.out.trans (h.mono HWB.out.size))
  have HLnC : Hid (∀ V, Below w1.heap.size w1 V → ∀ i, i < nC → ∃ b off, pC = some ⟨b, off, none⟩ ∧ V.cell? ⟨b, off + i, none⟩ = some (.int .i64 (cg cs i))) := fun V h => HLC0.out V (HWB.out.trans (h.mono HWB.out.size))
  clear HLK0 HLC0
  have HV : Hid (∀ x V, Below w1.heap.size w1 V → Calls Tryz.prog 25 #[.int .i64 x] V fun e w' => e = .returned (.string (O.str (O.Leb.varN (O.u64of x)))) ∧ Below w1.heap.size w1 w') := fun x V h => Below.call h (O.refVar_any x V)
  have HVk := Lib.hid (HV.out k); have HVr := Lib.hid (HV.out r); have HVn := Lib.hid (HV.out (nK : Int)); have HVd := Lib.hid (HV.out d); have HVv := Lib.hid (HV.out v); have HVm := Lib.hid (HV.out (nC : Int))
  clear HV
  generalize O.str (O.Leb.varN (O.u64of k)) = X0 at HVk HS1 y0
  generalize O.str (O.Leb.varN (O.u64of r)) = X1 at HVr HS1 y1
  generalize O.str (O.Leb.varN (O.u64of (nK : Int))) = X2 at HVn HS1 y2
  generalize O.str (O.Leb.varN (O.u64of d)) = X3 at HVd HS2 y3
  generalize O.str (O.Leb.varN (O.u64of v)) = X4 at HVv HS2 y4
  generalize O.str (O.Leb.varN (O.u64of (nC : Int))) = X5 at HVm HS2 y5
  have HYS := Lib.hid (And.intro y3 (And.intro y4 (And.intro y5 y6)))
  have hz1 := gt_no (n := X0.size) (m := X1.size) (by omega) (by omega)
  have hz2 := gt_no (n := X0.size + X1.size) (m := X2.size) (by omega) (by omega)
  clear y0 y1 y2 y3 y4 y5 y6
  obtain ⟨b, hb⟩ : ∃ b, w.heap.size = b := ⟨_, rfl⟩
  simp only [hb] at HP0 ⊢
  have HP : Hid (∀ V, Below w1.heap.size w1 V → FA V b k r (.slice pK nK cK) d v (.slice pC nC cC) ∧ Below w1.heap.size w1 V) := fun V h => ⟨HP0.out V h, h⟩
  clear HP0
  have HB1 := Lib.hid (Below.refl w1.heap.size w1)
  have hd := (Below.refl w1.heap.size w1).drew
  obtain ⟨hFA, _⟩ := HP.out _ hd
  obtain ⟨a0, a1, a2, a3, a4, a5⟩ := hFA
  go_region_held3 (fun V => FA V b k r (.slice pK nK cK) d v (.slice pC nC cC) ∧ Below w1.heap.size w1 V) ((refine HP.out _ ?_; assumption)) (first
    | (go_at_call 25; (with_reducible refine (HVk.out _ (by assumption)).mono ?_); rintro e w4 ⟨rfl, h4⟩)
    | (go_at_call 25; (with_reducible refine (HVr.out _ (by assumption)).mono ?_); rintro e w4 ⟨rfl, h4⟩)
    | (go_at_call 25; (with_reducible refine (HVn.out _ (by assumption)).mono ?_); rintro e w4 ⟨rfl, h4⟩))
  rename_i hHeld
  obtain ⟨-, hX⟩ := hHeld
  have HX := Lib.hid hX
  clear hX hd a0 a1 a2 a3 a4 a5 hz1 hz2 HVk HVr HVn
  simp only [HS1.out]
  go_wp2_with fail
  go_loopw [3, 4] (fun v3 v4 wr => ∃ i : Nat, i ≤ nK ∧ v4 = .int .i64 i ∧ v3 = .string (O.str (P1 ++ vars (ks.take i))) ∧ Hid (Below w1.heap.size w1 wr)) (fun _ i _ => nK - (intOf i).toNat)
  case atStart => exact ⟨0, Nat.zero_le _, rfl, by rw [List.take_zero, vars_nil, List.append_nil], HX⟩
  case round =>
    obtain ⟨i, hi, rfl, rfl, HBr⟩ := hrel
    obtain ⟨hFA, _⟩ := HP.out _ HBr.out
    obtain ⟨a0, a1, a2, a3, a4, a5⟩ := hFA
    rcases Nat.lt_or_ge i nK with hlt | hge
    · as_aux_lemma =>
      have q1 : (0 : Int) ≤ i := Int.natCast_nonneg i
      have q2 : (i : Int) < nK := Int.ofNat_lt.2 hlt
      obtain ⟨bq, oq, rfl, cq⟩ := HLnK.out wr HBr.out i hlt
      have HST := Lib.hid (cat_step (P := P1) (HNnK.out ▸ hlt : i < ks.length))
      have hvs := O.var_size (cg ks i)
      generalize cg ks i = x at cq HST hvs
      have HVx : Hid (∀ V, Below w1.heap.size w1 V → Calls Tryz.prog 25 #[.int .i64 x] V fun e w' => e = .returned (.string (O.str (O.Leb.varN (O.u64of x)))) ∧ Below w1.heap.size w1 w') := fun V h => Below.call h (O.refVar_any x V)
      have hw1 : wrap64 ((i : Int) + 1) = i + 1 := wrap_in (by omega)
      have z1 := gt_no (n := (O.str (P1 ++ vars (ks.take i))).size) (m := (O.str (O.Leb.varN (O.u64of x))).size) (HZnK.out i hi) (by omega)
      clear hvs
      generalize O.str (P1 ++ vars (ks.take i)) = S at HST z1 ⊢
      generalize O.str (O.Leb.varN (O.u64of x)) = X at HST z1 HVx
      go_wp2_with (go_at_call 25; (with_reducible refine (HVx.out _ HBr.out).mono ?_); rintro e w4 ⟨rfl, h4⟩; have HB4 := Lib.hid h4; clear h4)
      go_roundw
      case rel => exact ⟨i + 1, by omega, by go_num, by rw [HST.out], HB4⟩
      case measure => simp [intOf]; omega
    · as_aux_lemma =>
      obtain rfl : nK = i := by omega
      have e0 : ks.take nK = ks := by rw [HNnK.out, List.take_length]
      rw [e0]
      clear HLnK HZnK HX HS1
      generalize O.str (P1 ++ vars ks) = S at HS2 HYS ⊢
      have hz1 := gt_no (n := S.size) (m := X3.size) (by have := HYS.out; omega) (by have := HYS.out; omega)
      have hz2 := gt_no (n := S.size + X3.size) (m := X4.size) (by have := HYS.out; omega) (by have := HYS.out; omega)
      have hz3 := gt_no (n := S.size + X3.size + X4.size) (m := X5.size) (by have := HYS.out; omega) (by have := HYS.out; omega)
      go_upto_region 6 with fail
      clear a0 a1 a2 a3 a4 a5
      have hd := HBr.out.drew
      obtain ⟨hFA, _⟩ := HP.out _ hd
      obtain ⟨a0, a1, a2, a3, a4, a5⟩ := hFA
      go_region_held3 (fun V => FA V b k r (.slice pK nK cK) d v (.slice pC nC cC) ∧ Below w1.heap.size w1 V) ((refine HP.out _ ?_; assumption)) (first
        | (go_at_call 25; (with_reducible refine (HVd.out _ (by assumption)).mono ?_); rintro e w4 ⟨rfl, h4⟩)
        | (go_at_call 25; (with_reducible refine (HVv.out _ (by assumption)).mono ?_); rintro e w4 ⟨rfl, h4⟩)
        | (go_at_call 25; (with_reducible refine (HVm.out _ (by assumption)).mono ?_); rintro e w4 ⟨rfl, h4⟩))
      rename_i hHeld
      obtain ⟨-, hX⟩ := hHeld
      have HX2 := Lib.hid hX
      clear hX hd a0 a1 a2 a3 a4 a5 hz1 hz2 hz3 HVd HVv HVm
      simp only [HS2.out]
      go_wp2_with fail
      go_loopw [3, 5] (fun v3 v4 wr => ∃ i : Nat, i ≤ nC ∧ v4 = .int .i64 i ∧ v3 = .string (O.str (P2 ++ vars (cs.take i))) ∧ Hid (Below w1.heap.size w1 wr)) (fun _ i _ => nC - (intOf i).toNat)
      case atStart => exact ⟨0, Nat.zero_le _, rfl, by rw [List.take_zero, vars_nil, List.append_nil], HX2⟩
      case round =>
        obtain ⟨i, hi, rfl, rfl, HBr⟩ := hrel
        obtain ⟨hFA, _⟩ := HP.out _ HBr.out
        obtain ⟨a0, a1, a2, a3, a4, a5⟩ := hFA
        rcases Nat.lt_or_ge i nC with hlt | hge
        · as_aux_lemma =>
          have q1 : (0 : Int) ≤ i := Int.natCast_nonneg i
          have q2 : (i : Int) < nC := Int.ofNat_lt.2 hlt
          obtain ⟨bq, oq, rfl, cq⟩ := HLnC.out wr HBr.out i hlt
          have HST := Lib.hid (cat_step (P := P2) (HNnC.out ▸ hlt : i < cs.length))
          have hvs := O.var_size (cg cs i)
          generalize cg cs i = x at cq HST hvs
          have HVx : Hid (∀ V, Below w1.heap.size w1 V → Calls Tryz.prog 25 #[.int .i64 x] V fun e w' => e = .returned (.string (O.str (O.Leb.varN (O.u64of x)))) ∧ Below w1.heap.size w1 w') := fun V h => Below.call h (O.refVar_any x V)
          have hw1 : wrap64 ((i : Int) + 1) = i + 1 := wrap_in (by omega)
          have z1 := gt_no (n := (O.str (P2 ++ vars (cs.take i))).size) (m := (O.str (O.Leb.varN (O.u64of x))).size) (HZnC.out i hi) (by omega)
          clear hvs
          generalize O.str (P2 ++ vars (cs.take i)) = S at HST z1 ⊢
          generalize O.str (O.Leb.varN (O.u64of x)) = X at HST z1 HVx
          go_wp2_with (go_at_call 25; (with_reducible refine (HVx.out _ HBr.out).mono ?_); rintro e w4 ⟨rfl, h4⟩; have HB4 := Lib.hid h4; clear h4)
          go_roundw
          case rel => exact ⟨i + 1, by omega, by go_num, by rw [HST.out], HB4⟩
          case measure => simp [intOf]; omega
        · as_aux_lemma =>
          obtain rfl : nC = i := by omega
          have e0 : cs.take nC = cs := by rw [HNnC.out, List.take_length]
          rw [e0]
          clear HLnC HZnC HX2
          rw [HR.out]
          go_wp2_with fail
          go_ret
          exact ⟨rfl, HWB.out.trans (HBr.out.mono HWB.out.size)⟩
end Go.Proofs.YtbodmeiecdomfaaGreat.W

namespace Go.Proofs.YtbodmeiecdomfaaGreat.W
open Go.RowKit
set_option maxRecDepth 100000
variable {W w w' : World} {L : List (Nat × Obj)}

theorem cell_heap {g j : Nat} (h : w'.heap[g]? = w.heap[g]?) : w'.cell? ⟨g, j, none⟩ = w.cell? ⟨g, j, none⟩ := by
  simp [World.cell?, h]
theorem put0 {b : Nat} {v0 v1 v2 v3 v4 v5 : Value} {t : TypeId} (h : St W ((b, .cells #[v0, v1, v2, v3, v4, v5] t) :: L) w) (hb : W.heap.size ≤ b) (hL : ∀ x ∈ L, x.1 ≠ b) (x : Value) : St W ((b, .cells #[x, v1, v2, v3, v4, v5] t) :: L) (w.setCell ⟨b, 0, none⟩ x) := by
  have := h.put (j := 0) (v := x) hb hL
  simpa only [List.setIfInBounds_toArray, List.set_cons_zero, List.set_cons_succ] using this
theorem ld_fqC {b : Nat} {k r d v : Int} {K C : Value} (h : w.heap[b]? = some (fq k r K d v C)) : (Instr.loadAt 23 (.pointer (some ⟨b, 5, none⟩))).run Tryz.prog w = .ok C w := by
  have c2 := cell_of_row _ _ 5 _ _ _ h
  simp at c2
  simp [Instr.loadAt, Instr.sureAddr, loadVar, go_sem, c2]
theorem st_fqC {b n c : Nat} {k r d v : Int} {K C : Value} {po : Option Addr} (h : w.heap[b]? = some (fq k r K d v C)) : (Instr.storeAt 23 (.pointer (some ⟨b, 5, none⟩)) (.slice po n c)).run Tryz.prog w = .ok () (w.setCell ⟨b, 5, none⟩ (.slice po n c)) := by
  have c2 := cell_of_row _ _ 5 _ _ _ h
  have f2 := frozen_of_row _ _ 5 _ _ h
  simp at c2
  simp [Instr.storeAt, Instr.sureAddr, storeVar, go_sem, c2, f2]
section
variable {o : Oper} {a : Act} {w : World} {K : Act → World → Prop} {Q : Exit → Act → World → Prop}
theorem wp_int0 (t : TypeId) (ht : Tryz.prog.underlying t = some (.slice 3)) (ho : o.op = .buildSlice t 0 #[]) (h : K (a.put o.dst (.slice (some ⟨w.heap.size, 0, none⟩) 0 0)) (w.alloc (.cells #[] 3))) : o.wp Tryz.prog a w K Q := by
  obtain ⟨i0, hi, hz0, hz1, hz2⟩ := info_parts Tryz.infoInt
  have hr : (Instr.buildSlice t 0 #[]).run Tryz.prog w = .ok (.slice (some ⟨w.heap.size, 0, none⟩) 0 0) (w.alloc (.cells #[] 3)) := by
    simp [Instr.buildSlice, run_underlying ht, sizeOf, typeInfo, hi, newRow, Instr.fill]
    first | done | rfl | kernel_rfl
  unfold Oper.wp execOp
  have hr' : (Instr.buildSlice t 0 ((#[] : Array (Nat × Operand)).map fun (i, x) => (i, a.eval x))).run Tryz.prog w = .ok (.slice (some ⟨w.heap.size, 0, none⟩) 0 0) (w.alloc (.cells #[] 3)) := by simpa using hr
  simp only [ho, Sem.run_bind, hr', Result.andThen_ok]
  exact h
theorem wp_intT {y : Int} (t : TypeId) (ht : Tryz.prog.underlying t = some (.slice 3)) (x : Operand) (ho : o.op = .buildSlice t 1 #[(0, x)]) (hx : a.eval x = .int .i64 y) (h : K (a.put o.dst (.slice (some ⟨w.heap.size, 0, none⟩) 1 1)) (w.alloc (.cells #[.int .i64 y] 3))) : o.wp Tryz.prog a w K Q := by
  obtain ⟨i0, hi, hz0, hz1, hz2⟩ := info_parts Tryz.infoInt
  refine wp_buildSlice t 3 1 _ ho #[.int .i64 y] i0 (.int .i64 0) ht hi hz0 (by first | (rw [hz1]; omega) | simp) (by first | (rw [hz1]; omega) | simp) ?_ h
  simp only [List.map_toArray, List.map_cons, List.map_nil, hx, hz1]
  first | kernel_rfl | (simp [Instr.fill]; done)
theorem wp_appT (t : TypeId) (ht : Tryz.prog.underlying t = some (.slice 3)) (s x : Operand) (ho : o.op = .call { callee := .builtin .append, args := #[s, x], argTypes := #[t, t] }) (B k : Nat) (v : Value) (p : List Int) (b : Int)
    (hs : a.eval s = v) (hown : OwnsI B w v p) (hx : a.eval x = .slice (some ⟨k, 0, none⟩) 1 1) (hk : w.cell? ⟨k, 0, none⟩ = some (.int .i64 b)) (hp : p.length < 137438953) (hB : B ≤ w.heap.size)
    (h : ∀ v' w', OwnsI B w' v' (p ++ [b]) → Below B w w' → K (a.put o.dst v') w') : o.wp Tryz.prog a w K Q := by
  obtain ⟨i0, hi, hz0, hz1, hz2⟩ := info_parts Tryz.infoInt
  obtain ⟨v', w', hr, h2, h3, _⟩ := run_append_own (P := Tryz.prog) w B t o.type 3 i0 (.int .i64 0) 1 8 ht hi hz0 hz1 hz2 rfl (by decide) v _ _ hown ⟨k, 0, none⟩ 1 1 [.int .i64 b] rfl
    (by intro j u hj; match j, hj with
        | 0, hj => simp at hj; subst hj; exact hk
        | j + 1, hj => simp at hj) (by intro u hu; simp at hu; subst hu; rfl) (by unfold maxLen; omega) (by omega) hB
  unfold Oper.wp execOp
  simp only [ho, resolve, invoke, builtin, Sem.run_bind, Sem.run_pure, Result.andThen_ok, List.map_toArray, List.map_cons, List.map_nil, hs, hx, hr]
  refine h v' w' (by simpa [OwnsI] using h2) ((Below.refl B w).grown h3 hB ?_)
  intro k hk
  obtain ⟨_, ⟨rfl, _⟩ | ⟨g, cap, cur, rfl, hg, _⟩⟩ := hown
  · simp [Value.ownBlock] at hk
  · simp [Value.ownBlock] at hk; omega
/-- a list appended to an empty one of one's own -/
theorem wp_appL (t : TypeId) (ht : Tryz.prog.underlying t = some (.slice 3)) (s x : Operand) (ho : o.op = .call { callee := .builtin .append, args := #[s, x], argTypes := #[t, t] }) (B g0 : Nat) (vx : Value) (xs : List Int)
    (hs : a.eval s = .slice (some ⟨g0, 0, none⟩) 0 0) (hown : OwnsI B w (.slice (some ⟨g0, 0, none⟩) 0 0) []) (hx : a.eval x = vx) (hc : Cm w vx xs) (hh : Hd vx xs) (hp : xs.length < 137438953) (hB : B ≤ w.heap.size)
    (h : ∀ v' w', OwnsI B w' v' xs → Below B w w' → (∀ g, g < w.heap.size → g ≠ g0 → w'.heap[g]? = w.heap[g]?) → K (a.put o.dst v') w') : o.wp Tryz.prog a w K Q := by
  obtain ⟨i0, hi, hz0, hz1, hz2⟩ := info_parts Tryz.infoInt
  have hgB : B ≤ g0 := by
    obtain ⟨_, ⟨h, _⟩ | ⟨g, cap, cur, h, hg, _⟩⟩ := hown
    · cases h
    · simp only [Value.slice.injEq, Option.some.injEq, Addr.mk.injEq] at h
      omega
  rcases hh with ⟨rfl, rfl⟩ | ⟨g, cap, rfl⟩
  · have hr := run_append_owned_none (P := Tryz.prog) (w := w) B t o.type 3 i0 1 ht hi _ _ _ hown
    unfold Oper.wp execOp
    simp only [ho, resolve, invoke, builtin, Sem.run_bind, Sem.run_pure, Result.andThen_ok, List.map_toArray, List.map_cons, List.map_nil, hs, hx, hr]
    exact h _ w hown (Below.refl B w) fun _ _ _ => rfl
  · have hel : ∀ j u, (xs.map (Value.int .i64))[j]? = some u → w.cell? ((⟨g, 0, none⟩ : Addr).add j) = some u := by
      intro j u hj
      rw [List.getElem?_map] at hj
      cases hx : xs[j]? with
      | none => rw [hx] at hj; cases hj
      | some z =>
        rw [hx] at hj
        cases hj
        have hj2 := (List.getElem?_eq_some_iff.1 hx).1
        obtain ⟨po, cap', e, _, _, h3⟩ := hc
        obtain ⟨b, off, e2, hrow⟩ := h3 (by omega)
        injection e with e1 _ _
        rw [e2] at e1
        injection e1 with e1
        injection e1 with e1 e3 _
        subst e1 e3
        have := hrow.at' j hj2
        simp only [cg, List.getD, hx, Option.getD_some] at this
        rw [show (⟨g, 0, none⟩ : Addr).add j = ⟨g, 0 + j, none⟩ by unfold Addr.add; split <;> simp_all]
        exact this
    obtain ⟨v', w', hr, h2, h3, _⟩ := run_append_own (P := Tryz.prog) w B t o.type 3 i0 (.int .i64 0) 1 8 ht hi hz0 hz1 hz2 rfl (by decide) _ _ _ hown ⟨g, 0, none⟩ xs.length cap (xs.map (Value.int .i64)) (by simp)
      hel (by intro u hu; obtain ⟨z, _, rfl⟩ := List.mem_map.1 hu; rfl) (by unfold maxLen; simp; omega) (by simp; omega) hB
    unfold Oper.wp execOp
    simp only [ho, resolve, invoke, builtin, Sem.run_bind, Sem.run_pure, Result.andThen_ok, List.map_toArray, List.map_cons, List.map_nil, hs, hx, hr]
    refine h v' w' (by simpa [OwnsI] using h2) ((Below.refl B w).grown h3 hB ?_) fun k hk hne => h3.block k hk (by simpa [Value.ownBlock] using fun e => hne e)
    intro k hk
    simp [Value.ownBlock] at hk
    omega
end
theorem ld_fa {b : Nat} {k r d v : Int} {K C : Value} (h : FA w b k r K d v C) : (Instr.loadAt 25 (.pointer (some ⟨b, 0, none⟩))).run Tryz.prog w = .ok (fv k r K d v C) w := by
  obtain ⟨c0, c1, c2, c3, c4, c5⟩ := h
  simp [Instr.loadAt, Instr.sureAddr, loadVar, go_sem, c0, c1, c2, c3, c4, c5]
theorem wl_build3 {P : Program} {ops : Array Oper} {rest : List Oper} {o : Oper} {a : Act} {Q : Exit → Act → World → Prop} {w : World} (hg : o.guard = none) (t : TypeId) (x1 x2 x3 : Operand) (ho : o.op = .build t #[(0, x1), (1, x2), (2, x3)]) (v1 v2 v3 v : Value)
    (h1 : a.eval x1 = v1) (h2 : a.eval x2 = v2) (h3 : a.eval x3 = v3) (hl : (Instr.build t #[(0, v1), (1, v2), (2, v3)]).run P w = .ok v w) (h : wpList P ops Q rest (a.put o.dst v) w) : wpList P ops Q (o :: rest) a w :=
  wpList_plain hg fun K hK => by
    unfold Oper.wp execOp
    have hl' : (Instr.build t ((#[(0, x1), (1, x2), (2, x3)] : Array (Nat × Operand)).map fun (i, x) => (i, a.eval x))).run P w = .ok v w := by
      simp only [List.map_toArray, List.map_cons, List.map_nil, h1, h2, h3]
      exact hl
    simp only [ho, Sem.run_bind, hl', Result.andThen_ok, Sem.run_pure]
    exact hK _ _ h
/-- three filters in a row -/
abbrev f18 (a0 a1 : Int) (a2 : Value) (a3 a4 : Int) (a5 : Value) (b0 b1 : Int) (b2 : Value) (b3 b4 : Int) (b5 : Value) (c0 c1 : Int) (c2 : Value) (c3 c4 : Int) (c5 : Value) : Array Value :=
  #[.int .i64 a0, .int .i64 a1, a2, .int .i64 a3, .int .i64 a4, a5, .int .i64 b0, .int .i64 b1, b2, .int .i64 b3, .int .i64 b4, b5, .int .i64 c0, .int .i64 c1, c2, .int .i64 c3, .int .i64 c4, c5]
abbrev o18 : Obj := .cells (f18 0 0 (.slice none 0 0) 0 0 (.slice none 0 0) 0 0 (.slice none 0 0) 0 0 (.slice none 0 0) 0 0 (.slice none 0 0) 0 0 (.slice none 0 0)) 29
theorem zero18 (w : World) : (zeroValue 29).run Tryz.prog w = .ok (.agg (f18 0 0 (.slice none 0 0) 0 0 (.slice none 0 0) 0 0 (.slice none 0 0) 0 0 (.slice none 0 0) 0 0 (.slice none 0 0) 0 0 (.slice none 0 0))) w := by kernel_rfl
theorem build18 (w : World) (a0 a1 : Int) (a2 : Value) (a3 a4 : Int) (a5 : Value) (b0 b1 : Int) (b2 : Value) (b3 b4 : Int) (b5 : Value) (c0 c1 : Int) (c2 : Value) (c3 c4 : Int) (c5 : Value) :
    (Instr.build 29 #[(0, fv a0 a1 a2 a3 a4 a5), (1, fv b0 b1 b2 b3 b4 b5), (2, fv c0 c1 c2 c3 c4 c5)]).run Tryz.prog w = .ok (.agg (f18 a0 a1 a2 a3 a4 a5 b0 b1 b2 b3 b4 b5 c0 c1 c2 c3 c4 c5)) w := by kernel_rfl
theorem info18 : (Tryz.prog.info? 29).map (fun i => i.size) = some 18 := by kernel_rfl
theorem store18 (b : Nat) (w : World) (h : w.heap[b]? = some o18) (a0 a1 : Int) (p2 : Option Addr) (n2 e2 : Nat) (a3 a4 : Int) (p5 : Option Addr) (n5 e5 : Nat) (b0 b1 : Int) (q2 : Option Addr) (l2 i2 : Nat) (b3 b4 : Int) (q5 : Option Addr) (l5 i5 : Nat) (c0 c1 : Int) (r2 : Option Addr) (s2 t2 : Nat) (c3 c4 : Int) (r5 : Option Addr) (s5 t5 : Nat) :
    (Instr.storeAt 29 (.pointer (some ⟨b, 0, none⟩)) (.agg (f18 a0 a1 (.slice p2 n2 e2) a3 a4 (.slice p5 n5 e5) b0 b1 (.slice q2 l2 i2) b3 b4 (.slice q5 l5 i5) c0 c1 (.slice r2 s2 t2) c3 c4 (.slice r5 s5 t5)))).run Tryz.prog w = .ok () (w.setRow b (f18 a0 a1 (.slice p2 n2 e2) a3 a4 (.slice p5 n5 e5) b0 b1 (.slice q2 l2 i2) b3 b4 (.slice q5 l5 i5) c0 c1 (.slice r2 s2 t2) c3 c4 (.slice r5 s5 t5))) := by
  simp only [Instr.storeAt, Instr.sureAddr, Sem.run_bind, Sem.run_pure, Result.andThen_ok, run_storeVar_row w b _ 29 (f18 0 0 (.slice none 0 0) 0 0 (.slice none 0 0) 0 0 (.slice none 0 0) 0 0 (.slice none 0 0) 0 0 (.slice none 0 0) 0 0 (.slice none 0 0)) (f18 a0 a1 (.slice p2 n2 e2) a3 a4 (.slice p5 n5 e5) b0 b1 (.slice q2 l2 i2) b3 b4 (.slice q5 l5 i5) c0 c1 (.slice r2 s2 t2) c3 c4 (.slice r5 s5 t5)) h (by rw [info18]; rfl) rfl (by simp [Value.oneCell'])]
theorem below_row (w : World) (o : Obj) (cs : Array Value) : Below w.heap.size w ((w.alloc o).setRow w.heap.size cs) :=
  (below1 (o := o)).trans ⟨rfl, rfl, rfl, by simp [World.setRow], fun k hk => setRow_other _ _ _ _ (by omega)⟩
end Go.Proofs.YtbodmeiecdomfaaGreat.W
