/-
  The bytes of a pixel, the mean of a tile, the best predictor (contracts). The best predictor of a tile (contract).
-/
import Derived.Test.YtfncldaodbfakaaGreatZSane
import Derived.Test.YtfncldaodbfakaaGreatPFwd
import Derived.Test.YtfncldaodbfakaaGreatPStr
import Derived.Test.YtfncldaodbfakaaGreatQGrow
namespace Go.Proofs.YtfncldaodbfakaaGreat.Z
open Go.RowKit Go.Shelf T Q
set_option maxRecDepth 100000
variable {V W w w' : World} {L : List (Nat × Obj)} {b : Nat}

theorem sSl4 {c d e f : Int} {ops : Array Oper} {rest : List Oper} {dst : Option Tmp} {ty : TypeId} {pos : String} {after : Array Edge} {a : Act} {Q : Exit → Act → World → Prop} {x y z u : Operand} (hx : a.eval x = .int .u8 c) (hy : a.eval y = .int .u8 d) (hz : a.eval z = .int .u8 e) (hu : a.eval u = .int .u8 f)
    (h : wpList Tryz.prog ops Q rest (a.put dst (.slice (some ⟨w.heap.size, 0, none⟩) 4 4)) (w.alloc (.cells #[.int .u8 c, .int .u8 d, .int .u8 e, .int .u8 f] 5))) :
    wpList Tryz.prog ops Q ({ dst := dst, op := .buildSlice 84 4 #[(0, x), (1, y), (2, z), (3, u)], type := ty, pos := pos, after := after, guard := none } :: rest) a w :=
  wpList_plain rfl fun _ hK => wp_sl4 x y z u rfl hx hy hz hu (hK _ _ h)
theorem sConv {ops : Array Oper} {rest : List Oper} {dst : Option Tmp} {ty t t' : TypeId} {pos : String} {after : Array Edge} {a : Act} {Q : Exit → Act → World → Prop} {x : Operand} {v : Value} (hr : (convert t t' (a.eval x)).run Tryz.prog w = .ok v w) (h : wpList Tryz.prog ops Q rest (a.put dst v) w) :
    wpList Tryz.prog ops Q ({ dst := dst, op := .convert t t' x, type := ty, pos := pos, after := after, guard := none } :: rest) a w :=
  wpList_plain rfl fun _ hK => wp_conv t t' x rfl rfl hr (hK _ _ h)
theorem u8n {x : Int} (h : Ch x) : ((u8 x).toNat : Int) = x := i8_u8 h
theorem convP {p : Px} (hp : Pc p) (h : w.heap[b]? = some (.cells #[.int .u8 p.r, .int .u8 p.g, .int .u8 p.b, .int .u8 p.a] 5)) : (convert 84 9 (.slice (some ⟨b, 0, none⟩) 4 4)).run Tryz.prog w = .ok (.string (O.str (pb p))) w := by
  refine run_convert_bytes_back w _ _ _ ⟨b, 0, none⟩ 4 (pb p) Tryz.underlying84 Tryz.underlying5 Tryz.underlying9 fun j hj => ?_
  have hadd : (⟨b, 0, none⟩ : Addr).add j = ⟨b, j, none⟩ := by unfold Addr.add; split <;> simp_all
  rw [hadd, cell_of_row _ _ _ _ _ _ h]
  have h0 := u8n hp.1; have h1 := u8n hp.2.1; have h2 := u8n hp.2.2.1; have h3 := u8n hp.2.2.2
  have hj4 : j < 4 := hj
  rcases j with _ | _ | _ | _ | j
  · simp [pb, h0]
  · simp [pb, h1]
  · simp [pb, h2]
  · simp [pb, h3]
  · omega
theorem pixb_any (p : Px) (hp : Pc p) (w : World) : Calls Tryz.prog 109 #[p.v] w fun e w' => e = .returned (.string (O.str (pb p))) ∧ Below w.heap.size w w' := by
  have hs := (St.start w).alloc (po p.r p.g p.b p.a)
  obtain ⟨c0, c1, c2, c3⟩ := hs.pix (List.mem_cons_self ..)
  have h2 := hs.alloc (.cells #[.int .u8 p.r, .int .u8 p.g, .int .u8 p.b, .int .u8 p.a] 5)
  have HC := Lib.hid (convP hp (h2.row (List.mem_cons_self ..)))
  have HB := Lib.hid h2.below
  clear hs h2
  go_enter Tryz.func109, Tryz.ntmps109
  go_wp2_with (first
    | ((with_reducible refine sSl4 (c := p.r) (d := p.g) (e := p.b) (f := p.a) ?_ ?_ ?_ ?_ ?_); (iterate 4 (focus rfl)))
    | ((with_reducible refine sConv (t := 84) (t' := 9) (v := .string (O.str (pb p))) ?_ ?_); · exact HC.out))
  go_ret
  exact ⟨rfl, HB.out⟩
/-- the mean of a tile's pixels -/
def mea (f : Nat → Px) : Px := mpx 64 (ma f 64) (mx f 64) (my f 64) (mz f 64)
theorem mb64 (P : Nat → Px) (k : Nat) (hk : k ≤ 64) (hP : ∀ j, j < 64 → Pc (P j)) : Mb k (ma P k) (mx P k) (my P k) (mz P k) := by
  induction k with
  | zero => simp [Mb, ma, mx, my, mz]
  | succ k ih =>
    have h := hP k (by omega)
    have := (ih (by omega)).add (k := 1) (by omega) h.1 h.2.1 h.2.2.1 h.2.2.2
    rw [show (k : Int) + cnt 1 = ((k + 1 : Nat) : Int) by rw [cnt_one]; omega] at this
    exact this
theorem idx_tv (f : Nat → Px) (i : Nat) (hi : i < 64) (w : World) : (Instr.index 38 (tv f) (.int .i64 (i : Int))).run Tryz.prog w = .ok (f i).v w := P.index_tv f i hi rfl w
set_option maxHeartbeats 4000000 in
theorem mean_any (f : Nat → Px) (hf : ∀ i, i < 64 → Pc (f i)) (w : World) : Calls Tryz.prog 75 #[tv f] w fun e w' => e = .returned (mea f).v ∧ Below w.heap.size w w' := by
  have hs := (((St.start w).alloc (tob f)).alloc (po 0 0 0 0)).alloc (mo 0 0 0 0 0)
  simp only [World.size_alloc] at hs
  have HL := Lib.hid (load_tile w.heap.size f _ (hs.row (b := w.heap.size) (o := tob f) (by simp)))
  have H1 := Lib.hid (hs.sub (L' := [(w.heap.size + 1 + 1, mo 0 0 0 0 0), (w.heap.size + 1, po 0 0 0 0)]) (by simp))
  have HME : Hid (mea f = mpx 64 (ma f 64) (mx f 64) (my f 64) (mz f 64)) := rfl
  have HMB := Lib.hid (mb64 f)
  clear hs
  go_enter Tryz.func75, Tryz.ntmps75
  go_upto_region 2 with fail
  generalize ((w.alloc (.cells (tc f) 38)).alloc (.cells #[.int .u8 0, .int .u8 0, .int .u8 0, .int .u8 0] 36)).alloc (.cells #[.int .i64 0, .int .i64 0, .int .i64 0, .int .i64 0, .int .i64 0] 183) = V1 at H1 HL ⊢
  go_upto_region 3 with ((with_reducible refine sLoad (ty := 38) (v := tv f) ?_ ?_); · exact HL.out)
  clear HL
  go_loopw [7] (fun v wr => ∃ k : Nat, k ≤ 64 ∧ v = .int .i64 k ∧ Hid (St w [(w.heap.size + 1 + 1, mo k (ma f k) (mx f k) (my f k) (mz f k)), (w.heap.size + 1, po 0 0 0 0)] wr)) (fun i _ => 64 - (intOf i).toNat)
  case atStart => exact ⟨0, by omega, rfl, H1⟩
  case round =>
    obtain ⟨k, hk, rfl, HT⟩ := hrel
    clear H1
    by_cases hlt : k < 64
    · have hix := idx_tv f k hlt
      have hp := hf k hlt
      have h4 := (HT.out.alloc (po (f k).r (f k).g (f k).b (f k).a)).sub (L' := [(w.heap.size + 1 + 1, mo k (ma f k) (mx f k) (my f k) (mz f k)), (w.heap.size + 1, po 0 0 0 0)]) (by simp)
      obtain ⟨c0, c1, c2, c3⟩ := (HT.out.alloc (po (f k).r (f k).g (f k).b (f k).a)).pix (List.mem_cons_self ..)
      have HA : Hid (∀ V, St w [(w.heap.size + 1 + 1, mo k (ma f k) (mx f k) (my f k) (mz f k)), (w.heap.size + 1, po 0 0 0 0)] V → Calls Tryz.prog 127 #[ptr (w.heap.size + 1 + 1), pv (f k).r (f k).g (f k).b (f k).a, .int .i64 1] V fun e w' => e = .returned (.tuple #[]) ∧ St w [(w.heap.size + 1 + 1, mo (k + 1 : Nat) (ma f (k + 1)) (mx f (k + 1)) (my f (k + 1)) (mz f (k + 1))), (w.heap.size + 1, po 0 0 0 0)] w') := fun V hV => by
        have h := add_any (w.heap.size + 1 + 1) k (ma f k) (mx f k) (my f k) (mz f k) (f k).r (f k).g (f k).b (f k).a 1 V hV (by omega) (by simp) (HMB.out k hk hf) (by omega) hp.1 hp.2.1 hp.2.2.1 hp.2.2.2
        rw [show (k : Int) + cnt 1 = ((k + 1 : Nat) : Int) by rw [cnt_one]; omega] at h
        exact h
      clear HT
      go_upto_region 5 with (first | (rw [hix]))
      generalize wr.alloc (.cells #[.int .u8 (f k).r, .int .u8 (f k).g, .int .u8 (f k).b, .int .u8 (f k).a] 36) = V4 at *
      generalize wr.heap.size = b4 at *
      clear hix
      go_wp2_with (go_at_call 127; with_reducible refine (HA.out _ h4).mono ?_; rintro e V5 ⟨rfl, h5⟩; have H5 := Lib.hid h5)
      go_roundw
      case rel => exact ⟨k + 1, by omega, by go_num, H5⟩
      case measure => simp [intOf]; omega
    · obtain rfl : k = 64 := by omega
      have HX : Hid (Calls Tryz.prog 128 #[ptr (w.heap.size + 1 + 1)] wr fun e w' => e = .returned (mea f).v ∧ St w [(w.heap.size + 1 + 1, mo (64 : Nat) (ma f 64) (mx f 64) (my f 64) (mz f 64)), (w.heap.size + 1, po 0 0 0 0)] w') := HT.out.call (pix_any (w.heap.size + 1 + 1) (64 : Nat) _ _ _ _ wr HT.out (HMB.out 64 (by omega) hf))
      generalize hM : mea f = M at *
      go_wp2_with (first
        | (go_at_call 128; with_reducible refine HX.out.mono ?_; rintro e V5 ⟨rfl, h5⟩; have HR := Lib.hid (h5.row (b := w.heap.size + 1) (o := po 0 0 0 0) (by simp)))
        | ((with_reducible refine sStore (ty := 36) (w' := V5.setRow (w.heap.size + 1) (pl M).toArray) ?_ ?_); · exact store_px0 _ zp M _ HR.out))
      exact bodyPost_ret (v := M.v) (results_cell_row rfl _ _ (w.heap.size + 1) _ _ _ _ rfl (setRow_heap _ _ _ _ _ _ HR.out) Tryz.underlying36 rfl info_px) rfl ⟨by rw [hM], Below.setRow h5.below (by omega) _⟩
/-- the predictors up to number k: the best one, and its cost -/
def bgo (f : Nat → Px) : Nat → Nat × Int
  | 0 => (0, P.cst (P.fwd 0 f))
  | k + 1 => if P.cst (P.fwd (k + 1) f) < (bgo f k).2 then (k + 1, P.cst (P.fwd (k + 1) f)) else bgo f k
def bst (f : Nat → Px) : Nat := (bgo f 5).1
theorem bgo_le (f : Nat → Px) : ∀ k, (bgo f k).1 ≤ k
  | 0 => Nat.le_refl _
  | k + 1 => by
    have := bgo_le f k
    unfold bgo
    split
    · exact Nat.le_refl _
    · omega
theorem fwd_len (k : Nat) (f : Nat → Px) : (P.fwd k f).length = 256 := by unfold P.fwd P.bl; simp
end Go.Proofs.YtfncldaodbfakaaGreat.Z

namespace Go.Proofs.YtfncldaodbfakaaGreat.Z
open Go.RowKit Go.Shelf T Q
set_option maxRecDepth 100000
variable {V W w w' : World} {L : List (Nat × Obj)} {b : Nat}

theorem best1_any (f : Nat → Px) (k b : Nat) (w : World) (hk : k < 6) (hf : ∀ i, i < 64 → Pc (f i)) (hb : w.heap[b]? = some (tob f)) : Calls Tryz.prog 176 #[.int .i64 (k : Int), ptrB b] w fun e w' => e = .returned (.int .i64 (P.cst (P.fwd k f))) ∧ Below w.heap.size w w' := by
  have h0 := St.start w
  have HL := Lib.hid (load_tile b f w hb)
  have HF := Lib.hid (fun V => P.fwd_any k f V hk hf)
  have HC : Hid (∀ V, Calls Tryz.prog 177 #[.string (P.str (P.fwd k f))] V fun e w' => e = .returned (.int .i64 (P.cst (P.fwd k f))) ∧ V = w') := fun V => by
    have h := P.cost_any (P.str (P.fwd k f)) V (by rw [show (P.str (P.fwd k f)).size = (P.fwd k f).length by simp [P.str, ByteArray.size], fwd_len]; omega)
    rw [show (P.str (P.fwd k f)).data.toList = P.fwd k f by simp [P.str]] at h
    exact h
  generalize P.str (P.fwd k f) = s at *
  generalize P.cst (P.fwd k f) = c at *
  go_enter Tryz.func176, Tryz.ntmps176
  go_wp2_with (first
    | ((with_reducible refine sLoad (ty := 38) (v := tv f) ?_ ?_); · exact HL.out)
    | (go_at_call 150; with_reducible refine (h0.call (HF.out _)).mono ?_; rintro e w1 ⟨rfl, h1⟩)
    | (go_at_call 177; with_reducible refine (HC.out _).mono ?_; rintro e wq ⟨rfl, rfl⟩))
  go_ret
  exact ⟨rfl, h1.below⟩
theorem bgo_succ (f : Nat → Px) (k : Nat) : bgo f (k + 1) = if P.cst (P.fwd (k + 1) f) < (bgo f k).2 then (k + 1, P.cst (P.fwd (k + 1) f)) else bgo f k := rfl
set_option maxHeartbeats 4000000 in
theorem best_any (f : Nat → Px) (w : World) (hf : ∀ i, i < 64 → Pc (f i)) : Calls Tryz.prog 149 #[tv f] w fun e w' => e = .returned (.int .i64 (bst f)) ∧ Below w.heap.size w w' := by
  have hs := (St.start w).alloc (tob f)
  have H1 := Lib.hid hs
  have HB : Hid (bst f = (bgo f 5).1) := by unfold Hid; rw [bst]
  have HC1 : Hid (∀ (k : Nat) (V : World), k < 6 → St w [(w.heap.size, tob f)] V → Calls Tryz.prog 176 #[.int .i64 (k : Int), ptrB w.heap.size] V fun e w' => e = .returned (.int .i64 (P.cst (P.fwd k f))) ∧ St w [(w.heap.size, tob f)] w') := by
    intro k V hk hV
    have hr : V.heap[w.heap.size]? = some (tob f) := hV.row (List.mem_cons_self ..)
    have h := best1_any f k w.heap.size V hk hf hr
    generalize P.cst (P.fwd k f) = c at h ⊢
    exact hV.call h
  have h1 := hs
  clear hs
  go_enter Tryz.func149, Tryz.ntmps149
  go_upto_region 2 with fail
  generalize w.alloc (.cells (tc f) 38) = V1 at h1 H1 ⊢
  go_upto_region 4 with (first
    | (go_at_call 176; refine (HC1.out 0 _ (by omega) h1).mono ?_; rintro e V2 ⟨rfl, h2⟩))
  have H2 := Lib.hid h2
  clear h1 h2 H1
  go_loopw [4, 5, 6] (fun bb cc v wr => ∃ k : Nat, k ≤ 5 ∧ v = .int .i64 ((k : Int) + 1) ∧ bb = .int .i64 ((bgo f k).1 : Nat) ∧ cc = .int .i64 (bgo f k).2 ∧ Hid (St w [(w.heap.size, tob f)] wr)) (fun _ _ i _ => 6 - (intOf i).toNat)
  case atStart => exact ⟨0, by omega, rfl, rfl, rfl, H2⟩
  case round =>
    obtain ⟨k, hk, rfl, rfl, rfl, HT⟩ := hrel
    clear H2
    by_cases hlt : k < 5
    · have hb : decide ((k : Int) + 1 < 6) = true := decide_eq_true (by omega)
      have HG := Lib.hid (bgo_succ f k)
      have h3 := HT.out
      have HC2 : Hid (Calls Tryz.prog 176 #[.int .i64 ((k : Int) + 1), ptrB w.heap.size] wr fun e w' => e = .returned (.int .i64 (P.cst (P.fwd (k + 1) f))) ∧ St w [(w.heap.size, tob f)] w') := HC1.out (k + 1) _ (by omega) h3
      generalize P.cst (P.fwd (k + 1) f) = c at *
      generalize hbk : bgo f k = q at *
      obtain ⟨q1, q2⟩ := q
      by_cases hc : c < q2
      · have hc2 : decide (c < q2) = true := decide_eq_true hc
        have HG2 : Hid (bgo f (k + 1) = (k + 1, c)) := by rw [HG.out]; exact if_pos hc
        clear hc HG
        go_wp2_with (first
          | (go_at_call 178; with_reducible refine (P.count_any _).mono ?_; rintro e wq ⟨rfl, rfl⟩)
          | (go_at_call 176; refine HC2.out.mono ?_; rintro e V4 ⟨rfl, h4⟩; have H4 := Lib.hid h4))
        go_roundw
        case rel => exact ⟨k + 1, by omega, by go_num, by rw [HG2.out]; rfl, by rw [HG2.out], H4⟩
        case measure => simp [intOf]; omega
      · have hc2 : decide (c < q2) = false := decide_eq_false hc
        have HG2 : Hid (bgo f (k + 1) = (q1, q2)) := by rw [HG.out]; exact if_neg hc
        clear hc HG
        go_wp2_with (first
          | (go_at_call 178; with_reducible refine (P.count_any _).mono ?_; rintro e wq ⟨rfl, rfl⟩)
          | (go_at_call 176; refine HC2.out.mono ?_; rintro e V4 ⟨rfl, h4⟩; have H4 := Lib.hid h4))
        go_roundw
        case rel => exact ⟨k + 1, by omega, by go_num, by rw [HG2.out], by rw [HG2.out], H4⟩
        case measure => simp [intOf]; omega
    · obtain rfl : k = 5 := by omega
      go_wp2_with (first
        | (go_at_call 178; with_reducible refine (P.count_any _).mono ?_; rintro e wq ⟨rfl, rfl⟩))
      go_ret
      exact ⟨by rw [HB.out]; rfl, HT.out.below⟩
end Go.Proofs.YtfncldaodbfakaaGreat.Z
