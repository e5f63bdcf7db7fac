/-
  The sums of a convolution's round.
-/
import Derived.Test.YtbodmeiecdomfaaGreatWInv
import Derived.Test.YtbodmeiecdomfaaGreatWIter
namespace Go.Proofs.YtbodmeiecdomfaaGreat.W
open Go.RowKit
set_option maxRecDepth 100000
/-- what operation j leaves -/
def sval (_b0 _b1 _b2 _b3 bx : Nat) (p t0 : Px) (wt pr pg pb : Int) (j : Nat) : Value := match j with
  | 0 => .int .i64 (t0.r)
  | 1 => .int .i64 (wt)
  | 2 => .pointer (some ⟨bx, 0, none⟩)
  | 3 => .int .u8 p.r
  | 4 => .int .i64 (p.r)
  | 5 => .int .i64 (pr)
  | 6 => .int .i64 (t0.r + pr)
  | 7 => .int .i64 (t0.g)
  | 8 => .int .i64 (wt)
  | 9 => .pointer (some ⟨bx, 1, none⟩)
  | 10 => .int .u8 p.g
  | 11 => .int .i64 (p.g)
  | 12 => .int .i64 (pg)
  | 13 => .int .i64 (t0.g + pg)
  | 14 => .int .i64 (t0.b)
  | 15 => .int .i64 (wt)
  | 16 => .pointer (some ⟨bx, 2, none⟩)
  | 17 => .int .u8 p.b
  | 18 => .int .i64 (p.b)
  | 19 => .int .i64 (pb)
  | 20 => .int .i64 (t0.b + pb)
  | 21 => .int .i64 (t0.a)
  | 22 => .int .i64 (wt)
  | _ => .int .i64 (t0.a + wt)
theorem sval_cases {j : Nat} (h : j < 24) : j = 0 ∨ j = 1 ∨ j = 2 ∨ j = 3 ∨ j = 4 ∨ j = 5 ∨ j = 6 ∨ j = 7 ∨ j = 8 ∨ j = 9 ∨ j = 10 ∨ j = 11 ∨ j = 12 ∨ j = 13 ∨ j = 14 ∨ j = 15 ∨ j = 16 ∨ j = 17 ∨ j = 18 ∨ j = 19 ∨ j = 20 ∨ j = 21 ∨ j = 22 ∨ j = 23 := by omega
/-- a sum's block -/
def sbox (b0 b1 b2 b3 : Nat) (q : Nat) : Nat := match q with
  | 0 => b0 | 1 => b1 | 2 => b2 | _ => b3
def sold (t0 : Px) (q : Nat) : Int := match q with
  | 0 => t0.r | 1 => t0.g | 2 => t0.b | _ => t0.a
def snew (t0 : Px) (wt pr pg pb : Int) (q : Nat) : Int := match q with
  | 0 => t0.r + pr | 1 => t0.g + pg | 2 => t0.b + pb | _ => t0.a + wt
structure SInv (a0 : Act) (W : World) (b0 b1 b2 b3 bx : Nat) (p t0 : Px) (wt pr pg pb : Int) (listed : Array Bool) (a : Act) (w : World) : Prop where
  size : a.tmps.size = a0.tmps.size
  keep : ∀ t : Nat, t < 29 → a.eval (.tmp t) = a0.eval (.tmp t)
  vals : ∀ j, j < 24 → listed.getD j true = true → a.eval (.tmp (29 + j)) = sval b0 b1 b2 b3 bx p t0 wt pr pg pb j
  mv : Mv [b0, b1, b2, b3] W w
  rows : ∀ q, q < 4 → w.heap[sbox b0 b1 b2 b3 q]? = some (numo (if listed.getD (24 + q) true = true then snew t0 wt pr pg pb q else sold t0 q))
  shut : ∀ q, q < 4 → listed.getD (24 + q) true = true → listed.getD (7 * q) true = true
variable {a0 : Act} {W : World} {b0 b1 b2 b3 bx : Nat} {p t0 : Px} {wt pr pg pb : Int} {listed : Array Bool} {a : Act} {w : World}
theorem SInv.next {j : Nat} {v : Value} (h : SInv a0 W b0 b1 b2 b3 bx p t0 wt pr pg pb listed a w) (hs : 60 ≤ a0.tmps.size) (hj : j < 24) (hv : v = sval b0 b1 b2 b3 bx p t0 wt pr pg pb j) : SInv a0 W b0 b1 b2 b3 bx p t0 wt pr pg pb (listed.setIfInBounds j true) (a.put (some (29 + j)) v) w where
  size := put_size.trans h.size
  keep t ht := by rw [put_eval (by rw [h.size]; omega), if_neg (by omega)]; exact h.keep t ht
  vals i hi hl := by
    rw [put_eval (by rw [h.size]; omega)]
    by_cases e : i = j
    · subst e; rw [if_pos rfl]; exact hv
    · rw [if_neg (by omega)]; exact h.vals i hi (by rwa [getD_set e] at hl)
  mv := h.mv
  rows q hq := by rw [getD_set (by omega)]; exact h.rows q hq
  shut q hq hl := by
    rw [getD_set (by omega)] at hl
    by_cases e : 7 * q = j
    · rw [e]; exact getD_new
    · rw [getD_set e]; exact h.shut q hq hl
theorem SInv.store {q : Nat} (h : SInv a0 W b0 b1 b2 b3 bx p t0 wt pr pg pb listed a w) (hq : q < 4) (hd : b0 ≠ b1 ∧ b0 ≠ b2 ∧ b0 ≠ b3 ∧ b1 ≠ b2 ∧ b1 ≠ b3 ∧ b2 ≠ b3) (hl : listed.getD (7 * q) true = true) :
    SInv a0 W b0 b1 b2 b3 bx p t0 wt pr pg pb (listed.setIfInBounds (24 + q) true) (a.put none undef) (w.setCell ⟨sbox b0 b1 b2 b3 q, 0, none⟩ (.int .i64 (snew t0 wt pr pg pb q))) where
  size := h.size
  keep := h.keep
  vals i hi hli := h.vals i hi (by rwa [getD_set (by omega)] at hli)
  mv := h.mv.trans (Mv.set (by rcases (by omega : q = 0 ∨ q = 1 ∨ q = 2 ∨ q = 3) with rfl | rfl | rfl | rfl <;> simp [sbox]))
  rows r hr := by
    by_cases e : r = q
    · subst e
      rw [getD_new, if_pos rfl]
      have h0 := h.rows r hr
      obtain ⟨hlt, hk⟩ := Array.getElem?_eq_some_iff.1 h0
      show (w.heap.modify (sbox b0 b1 b2 b3 r) _)[sbox b0 b1 b2 b3 r]? = _
      rw [Array.getElem?_eq_getElem (by rw [Array.size_modify]; exact hlt), Array.getElem_modify_self, hk]
      simp
    · rw [getD_set (by omega)]
      refine (Below.heap_setCell _ _ _ _ ?_).trans (h.rows r hr)
      rcases (by omega : q = 0 ∨ q = 1 ∨ q = 2 ∨ q = 3) with rfl | rfl | rfl | rfl <;> rcases (by omega : r = 0 ∨ r = 1 ∨ r = 2 ∨ r = 3) with rfl | rfl | rfl | rfl <;> simp [sbox] <;> first | omega | exact e rfl
  shut r hr hlr := by
    by_cases e : r = q
    · subst e
      rw [getD_set (by omega)]; exact hl
    · rw [getD_set (by omega)] at hlr
      rw [getD_set (by omega)]; exact h.shut r hr hlr

theorem store_i {b : Nat} {x : Value} {n : Int} (h : w.heap[b]? = some (.cells #[x] 3)) : (Instr.storeAt 3 (.pointer (some ⟨b, 0, none⟩)) (.int .i64 n)).run Tryz.prog w = .ok () (w.setCell ⟨b, 0, none⟩ (.int .i64 n)) := by
  have hc := nb_of h
  have hf : w.frozen? ⟨b, 0, none⟩ = false := frozen_of_row _ _ 0 _ _ h
  simp [Instr.storeAt, Instr.sureAddr, storeVar, Sem.run_bind, Sem.run_pure, Result.andThen_ok, aggI, go_sem, hc, hf]
set_option maxHeartbeats 4000000 in
theorem sums_region {id m : Nat} {ro : Option Nat} {Q : Exit → Act → World → Prop} (hs : 60 ≤ a0.tmps.size) (hd : b0 ≠ b1 ∧ b0 ≠ b2 ∧ b0 ≠ b3 ∧ b1 ≠ b2 ∧ b1 ≠ b3 ∧ b2 ≠ b3)
    (e5 : a0.eval (.tmp 5) = .pointer (some ⟨b0, 0, none⟩)) (e6 : a0.eval (.tmp 6) = .pointer (some ⟨b1, 0, none⟩)) (e7 : a0.eval (.tmp 7) = .pointer (some ⟨b2, 0, none⟩)) (e8 : a0.eval (.tmp 8) = .pointer (some ⟨b3, 0, none⟩)) (e10 : a0.eval (.tmp 10) = .pointer (some ⟨bx, 0, none⟩)) (e11 : a0.eval (.tmp 11) = .int .i64 wt)
    (hpx : ∀ V, Mv [b0, b1, b2, b3] W V → V.cell? ⟨bx, 0, none⟩ = some (.int .u8 p.r) ∧ V.cell? ⟨bx, 1, none⟩ = some (.int .u8 p.g) ∧ V.cell? ⟨bx, 2, none⟩ = some (.int .u8 p.b)) (hc : Ch p.r ∧ Ch p.g ∧ Ch p.b)
    (hw : IntKind.i64.wrap (wt * p.r) = pr ∧ IntKind.i64.wrap (wt * p.g) = pg ∧ IntKind.i64.wrap (wt * p.b) = pb) (ha : IntKind.i64.wrap (t0.r + pr) = t0.r + pr ∧ IntKind.i64.wrap (t0.g + pg) = t0.g + pg ∧ IntKind.i64.wrap (t0.b + pb) = t0.b + pb ∧ IntKind.i64.wrap (t0.a + wt) = t0.a + wt)
    (hr : ∀ q, q < 4 → W.heap[sbox b0 b1 b2 b3 q]? = some (numo (sold t0 q)))
    (hQ : ∀ a w, Mv [b0, b1, b2, b3] W w → (∀ q, q < 4 → w.heap[sbox b0 b1 b2 b3 q]? = some (numo (snew t0 wt pr pg pb q))) → Q .normal a w) :
    (Code.region id #[{ dst := some 29, op := Op.load 3 (Operand.tmp 5), type := 3, pos := "effect.go:39", after := #[], guard := none },
      { dst := some 30, op := Op.move (Operand.tmp 11), type := 3, pos := "effect.go:39", after := #[], guard := none },
      { dst := some 31, op := Op.fieldAddr 39 (Operand.tmp 10) 0, type := 0, pos := "effect.go:39", after := #[], guard := none },
      { dst := some 32, op := Op.load 5 (Operand.tmp 31), type := 5, pos := "effect.go:39", after := #[{ on := 2, ground := Ground.data }], guard := none },
      { dst := some 33, op := Op.convert 5 3 (Operand.tmp 32), type := 3, pos := "effect.go:39", after := #[{ on := 3, ground := Ground.data }], guard := none },
      { dst := some 34, op := Op.binOp BinOp.mul 3 (Operand.tmp 30) (Operand.tmp 33) 3, type := 3, pos := "effect.go:39", after := #[{ on := 1, ground := Ground.data }, { on := 4, ground := Ground.data }], guard := none },
      { dst := some 35, op := Op.binOp BinOp.add 3 (Operand.tmp 29) (Operand.tmp 34) 3, type := 3, pos := "effect.go:39", after := #[{ on := 0, ground := Ground.data }, { on := 5, ground := Ground.data }], guard := none },
      { dst := some 36, op := Op.load 3 (Operand.tmp 6), type := 3, pos := "effect.go:39", after := #[], guard := none },
      { dst := some 37, op := Op.move (Operand.tmp 11), type := 3, pos := "effect.go:39", after := #[], guard := none },
      { dst := some 38, op := Op.fieldAddr 39 (Operand.tmp 10) 1, type := 0, pos := "effect.go:39", after := #[], guard := none },
      { dst := some 39, op := Op.load 5 (Operand.tmp 38), type := 5, pos := "effect.go:39", after := #[{ on := 9, ground := Ground.data }], guard := none },
      { dst := some 40, op := Op.convert 5 3 (Operand.tmp 39), type := 3, pos := "effect.go:39", after := #[{ on := 10, ground := Ground.data }], guard := none },
      { dst := some 41, op := Op.binOp BinOp.mul 3 (Operand.tmp 37) (Operand.tmp 40) 3, type := 3, pos := "effect.go:39", after := #[{ on := 8, ground := Ground.data }, { on := 11, ground := Ground.data }], guard := none },
      { dst := some 42, op := Op.binOp BinOp.add 3 (Operand.tmp 36) (Operand.tmp 41) 3, type := 3, pos := "effect.go:39", after := #[{ on := 7, ground := Ground.data }, { on := 12, ground := Ground.data }], guard := none },
      { dst := some 43, op := Op.load 3 (Operand.tmp 7), type := 3, pos := "effect.go:39", after := #[], guard := none },
      { dst := some 44, op := Op.move (Operand.tmp 11), type := 3, pos := "effect.go:39", after := #[], guard := none },
      { dst := some 45, op := Op.fieldAddr 39 (Operand.tmp 10) 2, type := 0, pos := "effect.go:39", after := #[], guard := none },
      { dst := some 46, op := Op.load 5 (Operand.tmp 45), type := 5, pos := "effect.go:39", after := #[{ on := 16, ground := Ground.data }], guard := none },
      { dst := some 47, op := Op.convert 5 3 (Operand.tmp 46), type := 3, pos := "effect.go:39", after := #[{ on := 17, ground := Ground.data }], guard := none },
      { dst := some 48, op := Op.binOp BinOp.mul 3 (Operand.tmp 44) (Operand.tmp 47) 3, type := 3, pos := "effect.go:39", after := #[{ on := 15, ground := Ground.data }, { on := 18, ground := Ground.data }], guard := none },
      { dst := some 49, op := Op.binOp BinOp.add 3 (Operand.tmp 43) (Operand.tmp 48) 3, type := 3, pos := "effect.go:39", after := #[{ on := 14, ground := Ground.data }, { on := 19, ground := Ground.data }], guard := none },
      { dst := some 50, op := Op.load 3 (Operand.tmp 8), type := 3, pos := "effect.go:39", after := #[], guard := none },
      { dst := some 51, op := Op.move (Operand.tmp 11), type := 3, pos := "effect.go:39", after := #[], guard := none },
      { dst := some 52, op := Op.binOp BinOp.add 3 (Operand.tmp 50) (Operand.tmp 51) 3, type := 3, pos := "effect.go:39", after := #[{ on := 21, ground := Ground.data }, { on := 22, ground := Ground.data }], guard := none },
      { dst := none, op := Op.store 3 (Operand.tmp 5) (Operand.tmp 35), type := 0, pos := "effect.go:39", after := #[{ on := 6, ground := Ground.data }, { on := 0, ground := Ground.phase }, { on := 1, ground := Ground.phase }, { on := 2, ground := Ground.phase }, { on := 3, ground := Ground.phase }, { on := 4, ground := Ground.phase }, { on := 5, ground := Ground.phase }, { on := 6, ground := Ground.phase }, { on := 7, ground := Ground.textOnly Departure.inlinedCapture }, { on := 8, ground := Ground.textOnly Departure.lateStores }, { on := 9, ground := Ground.textOnly Departure.lateStores }, { on := 10, ground := Ground.textOnly Departure.lateStores }, { on := 11, ground := Ground.textOnly Departure.lateStores }, { on := 12, ground := Ground.textOnly Departure.lateStores }, { on := 13, ground := Ground.textOnly Departure.inlinedCapture }, { on := 14, ground := Ground.textOnly Departure.inlinedCapture }, { on := 15, ground := Ground.textOnly Departure.lateStores }, { on := 16, ground := Ground.textOnly Departure.lateStores }, { on := 17, ground := Ground.textOnly Departure.lateStores }, { on := 18, ground := Ground.textOnly Departure.lateStores }, { on := 19, ground := Ground.textOnly Departure.lateStores }, { on := 20, ground := Ground.textOnly Departure.inlinedCapture }, { on := 21, ground := Ground.textOnly Departure.inlinedCapture }, { on := 22, ground := Ground.textOnly Departure.lateStores }, { on := 23, ground := Ground.textOnly Departure.inlinedCapture }], guard := none },
      { dst := none, op := Op.store 3 (Operand.tmp 6) (Operand.tmp 42), type := 0, pos := "effect.go:39", after := #[{ on := 13, ground := Ground.data }, { on := 24, ground := Ground.chain }, { on := 0, ground := Ground.phase }, { on := 1, ground := Ground.phase }, { on := 2, ground := Ground.phase }, { on := 3, ground := Ground.phase }, { on := 4, ground := Ground.phase }, { on := 5, ground := Ground.phase }, { on := 6, ground := Ground.phase }, { on := 7, ground := Ground.phase }, { on := 8, ground := Ground.phase }, { on := 9, ground := Ground.phase }, { on := 10, ground := Ground.phase }, { on := 11, ground := Ground.phase }, { on := 12, ground := Ground.phase }, { on := 13, ground := Ground.phase }, { on := 14, ground := Ground.textOnly Departure.inlinedCapture }, { on := 15, ground := Ground.textOnly Departure.lateStores }, { on := 16, ground := Ground.textOnly Departure.lateStores }, { on := 17, ground := Ground.textOnly Departure.lateStores }, { on := 18, ground := Ground.textOnly Departure.lateStores }, { on := 19, ground := Ground.textOnly Departure.lateStores }, { on := 20, ground := Ground.textOnly Departure.inlinedCapture }, { on := 21, ground := Ground.textOnly Departure.inlinedCapture }, { on := 22, ground := Ground.textOnly Departure.lateStores }, { on := 23, ground := Ground.textOnly Departure.inlinedCapture }, { on := 24, ground := Ground.phase }], guard := none },
      { dst := none, op := Op.store 3 (Operand.tmp 7) (Operand.tmp 49), type := 0, pos := "effect.go:39", after := #[{ on := 20, ground := Ground.data }, { on := 25, ground := Ground.chain }, { on := 0, ground := Ground.phase }, { on := 1, ground := Ground.phase }, { on := 2, ground := Ground.phase }, { on := 3, ground := Ground.phase }, { on := 4, ground := Ground.phase }, { on := 5, ground := Ground.phase }, { on := 6, ground := Ground.phase }, { on := 7, ground := Ground.phase }, { on := 8, ground := Ground.phase }, { on := 9, ground := Ground.phase }, { on := 10, ground := Ground.phase }, { on := 11, ground := Ground.phase }, { on := 12, ground := Ground.phase }, { on := 13, ground := Ground.phase }, { on := 14, ground := Ground.phase }, { on := 15, ground := Ground.phase }, { on := 16, ground := Ground.phase }, { on := 17, ground := Ground.phase }, { on := 18, ground := Ground.phase }, { on := 19, ground := Ground.phase }, { on := 20, ground := Ground.phase }, { on := 21, ground := Ground.textOnly Departure.inlinedCapture }, { on := 22, ground := Ground.textOnly Departure.lateStores }, { on := 23, ground := Ground.textOnly Departure.inlinedCapture }, { on := 24, ground := Ground.phase }, { on := 25, ground := Ground.phase }], guard := none },
      { dst := none, op := Op.store 3 (Operand.tmp 8) (Operand.tmp 52), type := 0, pos := "effect.go:39", after := #[{ on := 23, ground := Ground.data }, { on := 26, ground := Ground.chain }, { on := 0, ground := Ground.phase }, { on := 1, ground := Ground.phase }, { on := 2, ground := Ground.phase }, { on := 3, ground := Ground.phase }, { on := 4, ground := Ground.phase }, { on := 5, ground := Ground.phase }, { on := 6, ground := Ground.phase }, { on := 7, ground := Ground.phase }, { on := 8, ground := Ground.phase }, { on := 9, ground := Ground.phase }, { on := 10, ground := Ground.phase }, { on := 11, ground := Ground.phase }, { on := 12, ground := Ground.phase }, { on := 13, ground := Ground.phase }, { on := 14, ground := Ground.phase }, { on := 15, ground := Ground.phase }, { on := 16, ground := Ground.phase }, { on := 17, ground := Ground.phase }, { on := 18, ground := Ground.phase }, { on := 19, ground := Ground.phase }, { on := 20, ground := Ground.phase }, { on := 21, ground := Ground.phase }, { on := 22, ground := Ground.phase }, { on := 23, ground := Ground.phase }, { on := 24, ground := Ground.phase }, { on := 25, ground := Ground.phase }, { on := 26, ground := Ground.phase }], guard := none }] true).wpIn (FW ro) m Tryz.prog Q a0 W := by
  refine wpIn_region_inv (SInv a0 W b0 b1 b2 b3 bx p t0 wt pr pg pb) (by kernel_rfl) (by kernel_rfl) (by kernel_rfl) ?_ ?_ ?_
  · have hno : ∀ j, j < 28 → (Array.replicate 28 false).getD j true = false := fun j hj => by
      rw [Array.getD_eq_getD_getElem?, Array.getElem?_replicate, if_pos hj]; rfl
    exact ⟨rfl, fun _ _ => rfl, fun j hj hl => absurd (hl.symm.trans (hno j (by omega))) (by decide), Mv.drew _, fun q hq => (hr q hq).trans (congrArg (fun z => some (numo z)) (if_neg (fun hz => absurd ((hno (24 + q) (by omega)).symm.trans hz) (by decide))).symm), fun q hq hl => absurd (hl.symm.trans (hno (24 + q) (by omega))) (by decide)⟩
  · intro listed a w i o hsz ho hun hdep h
    have hi : i < 28 := (Array.getElem?_eq_some_iff.1 ho).1
    rcases (by omega : i = 0 ∨ i = 1 ∨ i = 2 ∨ i = 3 ∨ i = 4 ∨ i = 5 ∨ i = 6 ∨ i = 7 ∨ i = 8 ∨ i = 9 ∨ i = 10 ∨ i = 11 ∨ i = 12 ∨ i = 13 ∨ i = 14 ∨ i = 15 ∨ i = 16 ∨ i = 17 ∨ i = 18 ∨ i = 19 ∨ i = 20 ∨ i = 21 ∨ i = 22 ∨ i = 23 ∨ i = 24 ∨ i = 25 ∨ i = 26 ∨ i = 27) with rfl | rfl | rfl | rfl | rfl | rfl | rfl | rfl | rfl | rfl | rfl | rfl | rfl | rfl | rfl | rfl | rfl | rfl | rfl | rfl | rfl | rfl | rfl | rfl | rfl | rfl | rfl | rfl
    · obtain rfl : { dst := some 29, op := Op.load 3 (Operand.tmp 5), type := 3, pos := "effect.go:39", after := #[], guard := none } = o := Option.some.inj ho
      refine wpOp_of ho rfl ?_
      have hn : listed.getD (24 + 0) true = false := by
        cases hz : listed.getD (24 + 0) true with
        | false => rfl
        | true => have := h.shut 0 (by omega) hz; rw [hun] at this; cases this
      have hr := h.rows 0 (by omega)
      rw [hn, if_neg (by decide)] at hr
      exact wp_load_of 3 (.tmp 5) (.pointer (some ⟨b0, 0, none⟩)) rfl ((h.keep 5 (by omega)).trans e5) (load_i (nb_of hr)) (h.next (j := 0) hs (by omega) rfl)
    · obtain rfl : { dst := some 30, op := Op.move (Operand.tmp 11), type := 3, pos := "effect.go:39", after := #[], guard := none } = o := Option.some.inj ho
      refine wpOp_of ho rfl ?_
      exact wp_move (.tmp 11) rfl ((h.keep 11 (by omega)).trans e11) (h.next (j := 1) hs (by omega) rfl)
    · obtain rfl : { dst := some 31, op := Op.fieldAddr 39 (Operand.tmp 10) 0, type := 0, pos := "effect.go:39", after := #[], guard := none } = o := Option.some.inj ho
      refine wpOp_of ho rfl ?_
      exact wp_field 39 (.tmp 10) 0 rfl ((h.keep 10 (by omega)).trans e10) (by kernel_rfl) (h.next (j := 2) hs (by omega) rfl)
    · obtain rfl : { dst := some 32, op := Op.load 5 (Operand.tmp 31), type := 5, pos := "effect.go:39", after := #[{ on := 2, ground := Ground.data }], guard := none } = o := Option.some.inj ho
      refine wpOp_of ho rfl ?_
      have q2 : a.eval (.tmp 31) = .pointer (some ⟨bx, 0, none⟩) := h.vals 2 (by omega) (hdep { on := 2, ground := Ground.data } (by simp) rfl)
      exact wp_load_of 5 (.tmp 31) _ rfl q2 (load_b (hpx w h.mv).1) (h.next (j := 3) hs (by omega) rfl)
    · obtain rfl : { dst := some 33, op := Op.convert 5 3 (Operand.tmp 32), type := 3, pos := "effect.go:39", after := #[{ on := 3, ground := Ground.data }], guard := none } = o := Option.some.inj ho
      refine wpOp_of ho rfl ?_
      have q3 : a.eval (.tmp 32) = .int .u8 p.r := h.vals 3 (by omega) (hdep { on := 3, ground := Ground.data } (by simp) rfl)
      exact wp_conv 5 3 (.tmp 32) rfl q3 (conv_u8 hc.1 _) (h.next (j := 4) hs (by omega) rfl)
    · obtain rfl : { dst := some 34, op := Op.binOp BinOp.mul 3 (Operand.tmp 30) (Operand.tmp 33) 3, type := 3, pos := "effect.go:39", after := #[{ on := 1, ground := Ground.data }, { on := 4, ground := Ground.data }], guard := none } = o := Option.some.inj ho
      refine wpOp_of ho rfl ?_
      have q4 : a.eval (.tmp 33) = .int .i64 (p.r) := h.vals 4 (by omega) (hdep { on := 4, ground := Ground.data } (by simp) rfl)
      have q1 : a.eval (.tmp 30) = .int .i64 (wt) := h.vals 1 (by omega) (hdep { on := 1, ground := Ground.data } (by simp) rfl)
      exact wp_bin .mul (.tmp 30) (.tmp 33) rfl q1 q4 (bin_mul hw.1 _) (h.next (j := 5) hs (by omega) rfl)
    · obtain rfl : { dst := some 35, op := Op.binOp BinOp.add 3 (Operand.tmp 29) (Operand.tmp 34) 3, type := 3, pos := "effect.go:39", after := #[{ on := 0, ground := Ground.data }, { on := 5, ground := Ground.data }], guard := none } = o := Option.some.inj ho
      refine wpOp_of ho rfl ?_
      have q0 : a.eval (.tmp 29) = .int .i64 (t0.r) := h.vals 0 (by omega) (hdep { on := 0, ground := Ground.data } (by simp) rfl)
      have q5 : a.eval (.tmp 34) = .int .i64 (pr) := h.vals 5 (by omega) (hdep { on := 5, ground := Ground.data } (by simp) rfl)
      exact wp_bin .add (.tmp 29) (.tmp 34) rfl q0 q5 (bin_add ha.1 _) (h.next (j := 6) hs (by omega) rfl)
    · obtain rfl : { dst := some 36, op := Op.load 3 (Operand.tmp 6), type := 3, pos := "effect.go:39", after := #[], guard := none } = o := Option.some.inj ho
      refine wpOp_of ho rfl ?_
      have hn : listed.getD (24 + 1) true = false := by
        cases hz : listed.getD (24 + 1) true with
        | false => rfl
        | true => have := h.shut 1 (by omega) hz; rw [hun] at this; cases this
      have hr := h.rows 1 (by omega)
      rw [hn, if_neg (by decide)] at hr
      exact wp_load_of 3 (.tmp 6) (.pointer (some ⟨b1, 0, none⟩)) rfl ((h.keep 6 (by omega)).trans e6) (load_i (nb_of hr)) (h.next (j := 7) hs (by omega) rfl)
    · obtain rfl : { dst := some 37, op := Op.move (Operand.tmp 11), type := 3, pos := "effect.go:39", after := #[], guard := none } = o := Option.some.inj ho
      refine wpOp_of ho rfl ?_
      exact wp_move (.tmp 11) rfl ((h.keep 11 (by omega)).trans e11) (h.next (j := 8) hs (by omega) rfl)
    · obtain rfl : { dst := some 38, op := Op.fieldAddr 39 (Operand.tmp 10) 1, type := 0, pos := "effect.go:39", after := #[], guard := none } = o := Option.some.inj ho
      refine wpOp_of ho rfl ?_
      exact wp_field 39 (.tmp 10) 1 rfl ((h.keep 10 (by omega)).trans e10) (by kernel_rfl) (h.next (j := 9) hs (by omega) rfl)
    · obtain rfl : { dst := some 39, op := Op.load 5 (Operand.tmp 38), type := 5, pos := "effect.go:39", after := #[{ on := 9, ground := Ground.data }], guard := none } = o := Option.some.inj ho
      refine wpOp_of ho rfl ?_
      have q9 : a.eval (.tmp 38) = .pointer (some ⟨bx, 1, none⟩) := h.vals 9 (by omega) (hdep { on := 9, ground := Ground.data } (by simp) rfl)
      exact wp_load_of 5 (.tmp 38) _ rfl q9 (load_b (hpx w h.mv).2.1) (h.next (j := 10) hs (by omega) rfl)
    · obtain rfl : { dst := some 40, op := Op.convert 5 3 (Operand.tmp 39), type := 3, pos := "effect.go:39", after := #[{ on := 10, ground := Ground.data }], guard := none } = o := Option.some.inj ho
      refine wpOp_of ho rfl ?_
      have q10 : a.eval (.tmp 39) = .int .u8 p.g := h.vals 10 (by omega) (hdep { on := 10, ground := Ground.data } (by simp) rfl)
      exact wp_conv 5 3 (.tmp 39) rfl q10 (conv_u8 hc.2.1 _) (h.next (j := 11) hs (by omega) rfl)
    · obtain rfl : { dst := some 41, op := Op.binOp BinOp.mul 3 (Operand.tmp 37) (Operand.tmp 40) 3, type := 3, pos := "effect.go:39", after := #[{ on := 8, ground := Ground.data }, { on := 11, ground := Ground.data }], guard := none } = o := Option.some.inj ho
      refine wpOp_of ho rfl ?_
      have q11 : a.eval (.tmp 40) = .int .i64 (p.g) := h.vals 11 (by omega) (hdep { on := 11, ground := Ground.data } (by simp) rfl)
      have q8 : a.eval (.tmp 37) = .int .i64 (wt) := h.vals 8 (by omega) (hdep { on := 8, ground := Ground.data } (by simp) rfl)
      exact wp_bin .mul (.tmp 37) (.tmp 40) rfl q8 q11 (bin_mul hw.2.1 _) (h.next (j := 12) hs (by omega) rfl)
    · obtain rfl : { dst := some 42, op := Op.binOp BinOp.add 3 (Operand.tmp 36) (Operand.tmp 41) 3, type := 3, pos := "effect.go:39", after := #[{ on := 7, ground := Ground.data }, { on := 12, ground := Ground.data }], guard := none } = o := Option.some.inj ho
      refine wpOp_of ho rfl ?_
      have q7 : a.eval (.tmp 36) = .int .i64 (t0.g) := h.vals 7 (by omega) (hdep { on := 7, ground := Ground.data } (by simp) rfl)
      have q12 : a.eval (.tmp 41) = .int .i64 (pg) := h.vals 12 (by omega) (hdep { on := 12, ground := Ground.data } (by simp) rfl)
      exact wp_bin .add (.tmp 36) (.tmp 41) rfl q7 q12 (bin_add ha.2.1 _) (h.next (j := 13) hs (by omega) rfl)
    · obtain rfl : { dst := some 43, op := Op.load 3 (Operand.tmp 7), type := 3, pos := "effect.go:39", after := #[], guard := none } = o := Option.some.inj ho
      refine wpOp_of ho rfl ?_
      have hn : listed.getD (24 + 2) true = false := by
        cases hz : listed.getD (24 + 2) true with
        | false => rfl
        | true => have := h.shut 2 (by omega) hz; rw [hun] at this; cases this
      have hr := h.rows 2 (by omega)
      rw [hn, if_neg (by decide)] at hr
      exact wp_load_of 3 (.tmp 7) (.pointer (some ⟨b2, 0, none⟩)) rfl ((h.keep 7 (by omega)).trans e7) (load_i (nb_of hr)) (h.next (j := 14) hs (by omega) rfl)
    · obtain rfl : { dst := some 44, op := Op.move (Operand.tmp 11), type := 3, pos := "effect.go:39", after := #[], guard := none } = o := Option.some.inj ho
      refine wpOp_of ho rfl ?_
      exact wp_move (.tmp 11) rfl ((h.keep 11 (by omega)).trans e11) (h.next (j := 15) hs (by omega) rfl)
    · obtain rfl : { dst := some 45, op := Op.fieldAddr 39 (Operand.tmp 10) 2, type := 0, pos := "effect.go:39", after := #[], guard := none } = o := Option.some.inj ho
      refine wpOp_of ho rfl ?_
      exact wp_field 39 (.tmp 10) 2 rfl ((h.keep 10 (by omega)).trans e10) (by kernel_rfl) (h.next (j := 16) hs (by omega) rfl)
    · obtain rfl : { dst := some 46, op := Op.load 5 (Operand.tmp 45), type := 5, pos := "effect.go:39", after := #[{ on := 16, ground := Ground.data }], guard := none } = o := Option.some.inj ho
      refine wpOp_of ho rfl ?_
      have q16 : a.eval (.tmp 45) = .pointer (some ⟨bx, 2, none⟩) := h.vals 16 (by omega) (hdep { on := 16, ground := Ground.data } (by simp) rfl)
      exact wp_load_of 5 (.tmp 45) _ rfl q16 (load_b (hpx w h.mv).2.2) (h.next (j := 17) hs (by omega) rfl)
    · obtain rfl : { dst := some 47, op := Op.convert 5 3 (Operand.tmp 46), type := 3, pos := "effect.go:39", after := #[{ on := 17, ground := Ground.data }], guard := none } = o := Option.some.inj ho
      refine wpOp_of ho rfl ?_
      have q17 : a.eval (.tmp 46) = .int .u8 p.b := h.vals 17 (by omega) (hdep { on := 17, ground := Ground.data } (by simp) rfl)
      exact wp_conv 5 3 (.tmp 46) rfl q17 (conv_u8 hc.2.2 _) (h.next (j := 18) hs (by omega) rfl)
    · obtain rfl : { dst := some 48, op := Op.binOp BinOp.mul 3 (Operand.tmp 44) (Operand.tmp 47) 3, type := 3, pos := "effect.go:39", after := #[{ on := 15, ground := Ground.data }, { on := 18, ground := Ground.data }], guard := none } = o := Option.some.inj ho
      refine wpOp_of ho rfl ?_
      have q18 : a.eval (.tmp 47) = .int .i64 (p.b) := h.vals 18 (by omega) (hdep { on := 18, ground := Ground.data } (by simp) rfl)
      have q15 : a.eval (.tmp 44) = .int .i64 (wt) := h.vals 15 (by omega) (hdep { on := 15, ground := Ground.data } (by simp) rfl)
      exact wp_bin .mul (.tmp 44) (.tmp 47) rfl q15 q18 (bin_mul hw.2.2 _) (h.next (j := 19) hs (by omega) rfl)
    · obtain rfl : { dst := some 49, op := Op.binOp BinOp.add 3 (Operand.tmp 43) (Operand.tmp 48) 3, type := 3, pos := "effect.go:39", after := #[{ on := 14, ground := Ground.data }, { on := 19, ground := Ground.data }], guard := none } = o := Option.some.inj ho
      refine wpOp_of ho rfl ?_
      have q14 : a.eval (.tmp 43) = .int .i64 (t0.b) := h.vals 14 (by omega) (hdep { on := 14, ground := Ground.data } (by simp) rfl)
      have q19 : a.eval (.tmp 48) = .int .i64 (pb) := h.vals 19 (by omega) (hdep { on := 19, ground := Ground.data } (by simp) rfl)
      exact wp_bin .add (.tmp 43) (.tmp 48) rfl q14 q19 (bin_add ha.2.2.1 _) (h.next (j := 20) hs (by omega) rfl)
    · obtain rfl : { dst := some 50, op := Op.load 3 (Operand.tmp 8), type := 3, pos := "effect.go:39", after := #[], guard := none } = o := Option.some.inj ho
      refine wpOp_of ho rfl ?_
      have hn : listed.getD (24 + 3) true = false := by
        cases hz : listed.getD (24 + 3) true with
        | false => rfl
        | true => have := h.shut 3 (by omega) hz; rw [hun] at this; cases this
      have hr := h.rows 3 (by omega)
      rw [hn, if_neg (by decide)] at hr
      exact wp_load_of 3 (.tmp 8) (.pointer (some ⟨b3, 0, none⟩)) rfl ((h.keep 8 (by omega)).trans e8) (load_i (nb_of hr)) (h.next (j := 21) hs (by omega) rfl)
    · obtain rfl : { dst := some 51, op := Op.move (Operand.tmp 11), type := 3, pos := "effect.go:39", after := #[], guard := none } = o := Option.some.inj ho
      refine wpOp_of ho rfl ?_
      exact wp_move (.tmp 11) rfl ((h.keep 11 (by omega)).trans e11) (h.next (j := 22) hs (by omega) rfl)
    · obtain rfl : { dst := some 52, op := Op.binOp BinOp.add 3 (Operand.tmp 50) (Operand.tmp 51) 3, type := 3, pos := "effect.go:39", after := #[{ on := 21, ground := Ground.data }, { on := 22, ground := Ground.data }], guard := none } = o := Option.some.inj ho
      refine wpOp_of ho rfl ?_
      have q21 : a.eval (.tmp 50) = .int .i64 (t0.a) := h.vals 21 (by omega) (hdep { on := 21, ground := Ground.data } (by simp) rfl)
      have q22 : a.eval (.tmp 51) = .int .i64 (wt) := h.vals 22 (by omega) (hdep { on := 22, ground := Ground.data } (by simp) rfl)
      exact wp_bin .add (.tmp 50) (.tmp 51) rfl q21 q22 (bin_add ha.2.2.2 _) (h.next (j := 23) hs (by omega) rfl)
    · obtain rfl : { dst := none, op := Op.store 3 (Operand.tmp 5) (Operand.tmp 35), type := 0, pos := "effect.go:39", after := #[{ on := 6, ground := Ground.data }, { on := 0, ground := Ground.phase }, { on := 1, ground := Ground.phase }, { on := 2, ground := Ground.phase }, { on := 3, ground := Ground.phase }, { on := 4, ground := Ground.phase }, { on := 5, ground := Ground.phase }, { on := 6, ground := Ground.phase }, { on := 7, ground := Ground.textOnly Departure.inlinedCapture }, { on := 8, ground := Ground.textOnly Departure.lateStores }, { on := 9, ground := Ground.textOnly Departure.lateStores }, { on := 10, ground := Ground.textOnly Departure.lateStores }, { on := 11, ground := Ground.textOnly Departure.lateStores }, { on := 12, ground := Ground.textOnly Departure.lateStores }, { on := 13, ground := Ground.textOnly Departure.inlinedCapture }, { on := 14, ground := Ground.textOnly Departure.inlinedCapture }, { on := 15, ground := Ground.textOnly Departure.lateStores }, { on := 16, ground := Ground.textOnly Departure.lateStores }, { on := 17, ground := Ground.textOnly Departure.lateStores }, { on := 18, ground := Ground.textOnly Departure.lateStores }, { on := 19, ground := Ground.textOnly Departure.lateStores }, { on := 20, ground := Ground.textOnly Departure.inlinedCapture }, { on := 21, ground := Ground.textOnly Departure.inlinedCapture }, { on := 22, ground := Ground.textOnly Departure.lateStores }, { on := 23, ground := Ground.textOnly Departure.inlinedCapture }], guard := none } = o := Option.some.inj ho
      refine wpOp_of ho rfl ?_
      have q6 : a.eval (.tmp 35) = .int .i64 (t0.r + pr) := h.vals 6 (by omega) (hdep { on := 6, ground := Ground.data } (by simp) rfl)
      have hl : listed.getD (7 * 0) true = true := hdep { on := 0, ground := Ground.phase } (by simp) rfl
      have hr := h.rows 0 (by omega)
      exact wp_store_of 3 (.tmp 5) (.tmp 35) rfl ((h.keep 5 (by omega)).trans e5) q6 (store_i hr) (h.store (q := 0) (by omega) hd hl)
    · obtain rfl : { dst := none, op := Op.store 3 (Operand.tmp 6) (Operand.tmp 42), type := 0, pos := "effect.go:39", after := #[{ on := 13, ground := Ground.data }, { on := 24, ground := Ground.chain }, { on := 0, ground := Ground.phase }, { on := 1, ground := Ground.phase }, { on := 2, ground := Ground.phase }, { on := 3, ground := Ground.phase }, { on := 4, ground := Ground.phase }, { on := 5, ground := Ground.phase }, { on := 6, ground := Ground.phase }, { on := 7, ground := Ground.phase }, { on := 8, ground := Ground.phase }, { on := 9, ground := Ground.phase }, { on := 10, ground := Ground.phase }, { on := 11, ground := Ground.phase }, { on := 12, ground := Ground.phase }, { on := 13, ground := Ground.phase }, { on := 14, ground := Ground.textOnly Departure.inlinedCapture }, { on := 15, ground := Ground.textOnly Departure.lateStores }, { on := 16, ground := Ground.textOnly Departure.lateStores }, { on := 17, ground := Ground.textOnly Departure.lateStores }, { on := 18, ground := Ground.textOnly Departure.lateStores }, { on := 19, ground := Ground.textOnly Departure.lateStores }, { on := 20, ground := Ground.textOnly Departure.inlinedCapture }, { on := 21, ground := Ground.textOnly Departure.inlinedCapture }, { on := 22, ground := Ground.textOnly Departure.lateStores }, { on := 23, ground := Ground.textOnly Departure.inlinedCapture }, { on := 24, ground := Ground.phase }], guard := none } = o := Option.some.inj ho
      refine wpOp_of ho rfl ?_
      have q13 : a.eval (.tmp 42) = .int .i64 (t0.g + pg) := h.vals 13 (by omega) (hdep { on := 13, ground := Ground.data } (by simp) rfl)
      have hl : listed.getD (7 * 1) true = true := hdep { on := 7, ground := Ground.phase } (by simp) rfl
      have hr := h.rows 1 (by omega)
      exact wp_store_of 3 (.tmp 6) (.tmp 42) rfl ((h.keep 6 (by omega)).trans e6) q13 (store_i hr) (h.store (q := 1) (by omega) hd hl)
    · obtain rfl : { dst := none, op := Op.store 3 (Operand.tmp 7) (Operand.tmp 49), type := 0, pos := "effect.go:39", after := #[{ on := 20, ground := Ground.data }, { on := 25, ground := Ground.chain }, { on := 0, ground := Ground.phase }, { on := 1, ground := Ground.phase }, { on := 2, ground := Ground.phase }, { on := 3, ground := Ground.phase }, { on := 4, ground := Ground.phase }, { on := 5, ground := Ground.phase }, { on := 6, ground := Ground.phase }, { on := 7, ground := Ground.phase }, { on := 8, ground := Ground.phase }, { on := 9, ground := Ground.phase }, { on := 10, ground := Ground.phase }, { on := 11, ground := Ground.phase }, { on := 12, ground := Ground.phase }, { on := 13, ground := Ground.phase }, { on := 14, ground := Ground.phase }, { on := 15, ground := Ground.phase }, { on := 16, ground := Ground.phase }, { on := 17, ground := Ground.phase }, { on := 18, ground := Ground.phase }, { on := 19, ground := Ground.phase }, { on := 20, ground := Ground.phase }, { on := 21, ground := Ground.textOnly Departure.inlinedCapture }, { on := 22, ground := Ground.textOnly Departure.lateStores }, { on := 23, ground := Ground.textOnly Departure.inlinedCapture }, { on := 24, ground := Ground.phase }, { on := 25, ground := Ground.phase }], guard := none } = o := Option.some.inj ho
      refine wpOp_of ho rfl ?_
      have q20 : a.eval (.tmp 49) = .int .i64 (t0.b + pb) := h.vals 20 (by omega) (hdep { on := 20, ground := Ground.data } (by simp) rfl)
      have hl : listed.getD (7 * 2) true = true := hdep { on := 14, ground := Ground.phase } (by simp) rfl
      have hr := h.rows 2 (by omega)
      exact wp_store_of 3 (.tmp 7) (.tmp 49) rfl ((h.keep 7 (by omega)).trans e7) q20 (store_i hr) (h.store (q := 2) (by omega) hd hl)
    · obtain rfl : { dst := none, op := Op.store 3 (Operand.tmp 8) (Operand.tmp 52), type := 0, pos := "effect.go:39", after := #[{ on := 23, ground := Ground.data }, { on := 26, ground := Ground.chain }, { on := 0, ground := Ground.phase }, { on := 1, ground := Ground.phase }, { on := 2, ground := Ground.phase }, { on := 3, ground := Ground.phase }, { on := 4, ground := Ground.phase }, { on := 5, ground := Ground.phase }, { on := 6, ground := Ground.phase }, { on := 7, ground := Ground.phase }, { on := 8, ground := Ground.phase }, { on := 9, ground := Ground.phase }, { on := 10, ground := Ground.phase }, { on := 11, ground := Ground.phase }, { on := 12, ground := Ground.phase }, { on := 13, ground := Ground.phase }, { on := 14, ground := Ground.phase }, { on := 15, ground := Ground.phase }, { on := 16, ground := Ground.phase }, { on := 17, ground := Ground.phase }, { on := 18, ground := Ground.phase }, { on := 19, ground := Ground.phase }, { on := 20, ground := Ground.phase }, { on := 21, ground := Ground.phase }, { on := 22, ground := Ground.phase }, { on := 23, ground := Ground.phase }, { on := 24, ground := Ground.phase }, { on := 25, ground := Ground.phase }, { on := 26, ground := Ground.phase }], guard := none } = o := Option.some.inj ho
      refine wpOp_of ho rfl ?_
      have q23 : a.eval (.tmp 52) = .int .i64 (t0.a + wt) := h.vals 23 (by omega) (hdep { on := 23, ground := Ground.data } (by simp) rfl)
      have hl : listed.getD (7 * 3) true = true := hdep { on := 21, ground := Ground.phase } (by simp) rfl
      have hr := h.rows 3 (by omega)
      exact wp_store_of 3 (.tmp 8) (.tmp 52) rfl ((h.keep 8 (by omega)).trans e8) q23 (store_i hr) (h.store (q := 3) (by omega) hd hl)
  · intro listed a w hall h
    exact hQ a w h.mv (fun q hq => (h.rows q hq).trans (by rw [hall (24 + q) (by show 24 + q < 28; omega), if_pos rfl]))
end Go.Proofs.YtbodmeiecdomfaaGreat.W
