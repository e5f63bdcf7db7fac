/-
  Drawn regions in a round, by an invariant: what each operation that has come up has left, whatever order was picked.
-/
import Derived.Test.YtbodmeiecdomfaaGreatWFen
import Derived.Test.YtbodmeiecdomfaaGreatWPix
namespace Go.Proofs.YtbodmeiecdomfaaGreat.W
open Go.RowKit
set_option maxRecDepth 100000
section
variable {P : Program} {md : Region.Mode} {ops : Array Oper} {Q : Exit → Act → World → Prop} {m : Nat} {ro : Option Nat}
theorem getD_tf {l : Array Bool} {k : Nat} (h : l.getD k false = true) : l.getD k true = true := by
  rw [Array.getD_eq_getD_getElem?] at h ⊢
  cases hl : l[k]? with
  | none => rw [hl] at h; cases h
  | some b => rw [hl] at h; exact h
theorem all_listed (hord : ∀ i o, ops[i]? = some o → ∀ e ∈ o.after, Region.binds md e = true → e.on < i) {listed : Array Bool} (hs : listed.size = ops.size) (h : Region.ready md ops listed = []) :
    ∀ i, i < ops.size → listed.getD i true = true := by
  intro i
  induction i using Nat.strongRecOn with
  | ind i ih =>
    intro hi
    cases hl : listed.getD i true with
    | true => rfl
    | false =>
      have hm : i ∈ Region.ready md ops listed := by
        refine mem_ready.2 ⟨hl, ops[i], Array.getElem?_eq_getElem hi, fun e he hb => ?_⟩
        have hlt := hord i _ (Array.getElem?_eq_getElem hi) e he hb
        have h1 := ih e.on hlt (by omega)
        rw [Array.getD_eq_getD_getElem?, Array.getElem?_eq_getElem (by omega)] at h1 ⊢
        exact h1
      rw [h] at hm; cases hm
def unl (l : Array Bool) : Nat := l.toList.countP (fun b => !b)
theorem cnt_set : ∀ (t : List Bool) (i : Nat) (h : i < t.length), t[i] = false → (t.set i true).countP (fun b => !b) + 1 = t.countP (fun b => !b)
  | [], i, h, _ => by simp at h
  | x :: t, 0, _, hl => by
    have hl : x = false := hl
    subst hl
    simp
  | x :: t, i + 1, h, hl => by
    have ih := cnt_set t i (by simpa using h) (by simpa using hl)
    rw [List.set_cons_succ, List.countP_cons, List.countP_cons]
    omega
theorem unl_set {l : Array Bool} {i : Nat} (hi : i < l.size) (h : l.getD i true = false) : unl (l.setIfInBounds i true) + 1 = unl l := by
  unfold unl
  rw [Array.toList_setIfInBounds]
  refine cnt_set l.toList i (by simpa using hi) ?_
  rw [Array.getD_eq_getD_getElem?, Array.getElem?_eq_getElem hi] at h
  rw [Array.getElem_toList]; exact h
theorem opIn_of_op {i : Nat} {a : Act} {w : World} {K : Act → World → Prop} (hd : noDefer ops = true) (h1 : wpOp P ops (fun _ _ _ => False) i K a w) : wpOpIn (FW ro) m P ops Q i K a w := by
  unfold wpOp at h1
  unfold wpOpIn
  cases hi : ops[i]? with
  | none => simpa [hi] using h1
  | some o =>
    simp only [hi] at h1 ⊢
    split
    · rename_i hw
      simp only [hw, if_true] at h1
      rcases h1 with h1 | ⟨_, h1⟩
      · exact oper_fw (noDefer_spec hd hi) h1
      · exact absurd h1 (fun ⟨_, _, h⟩ => h)
    · rename_i hw
      simp only [hw] at h1
      exact ⟨fun _ _ => trivial, h1⟩
theorem anyIn_inv (I : Array Bool → Act → World → Prop) (hd : noDefer ops = true) (hord : ∀ i o, ops[i]? = some o → ∀ e ∈ o.after, Region.binds md e = true → e.on < i)
    (hstep : ∀ listed a w i o, listed.size = ops.size → ops[i]? = some o → listed.getD i true = false → (∀ e ∈ o.after, Region.binds md e = true → listed.getD e.on true = true) → I listed a w → wpOp P ops (fun _ _ _ => False) i (I (listed.setIfInBounds i true)) a w)
    (hdone : ∀ listed a w, (∀ i, i < ops.size → listed.getD i true = true) → I listed a w → Q .normal a w) :
    ∀ (fuel : Nat) (listed : Array Bool) (a : Act) (w : World), listed.size = ops.size → unl listed ≤ fuel → I listed a w → wpAnyIn (FW ro) m P md ops Q fuel listed a w := by
  intro fuel
  induction fuel with
  | zero =>
    intro listed a w hs hu hI
    have hr : Region.ready md ops listed = [] := by
      cases hr : Region.ready md ops listed with
      | nil => rfl
      | cons i r =>
        obtain ⟨h1, o, ho, _⟩ := mem_ready.1 (hr ▸ List.mem_cons_self .. : i ∈ Region.ready md ops listed)
        have hi : i < listed.size := hs ▸ (Array.getElem?_eq_some_iff.1 ho).1
        have := unl_set hi h1
        omega
    exact ⟨hr, hdone _ _ _ (all_listed hord hs hr) hI⟩
  | succ fuel ih =>
    intro listed a w hs hu hI
    refine ⟨fun hr => hdone _ _ _ (all_listed hord hs hr) hI, fun i hi => ?_⟩
    obtain ⟨h1, o, ho, hdp⟩ := mem_ready.1 hi
    have hi2 : i < listed.size := hs ▸ (Array.getElem?_eq_some_iff.1 ho).1
    have hu2 := unl_set hi2 h1
    exact opIn_mono (fun a' w' h' => ih _ a' w' (by rw [Array.size_setIfInBounds]; exact hs) (by omega) h') (opIn_of_op hd (hstep listed a w i o hs ho h1 (fun e he hb => getD_tf (hdp e he hb)) hI))
def ordB (md : Region.Mode) (ops : Array Oper) : Bool := (List.range ops.size).all fun i => ((ops[i]?).map fun o => o.after.all fun e => !Region.binds md e || decide (e.on < i)).getD true
theorem ord_of (h : ordB md ops = true) : ∀ i o, ops[i]? = some o → ∀ e ∈ o.after, Region.binds md e = true → e.on < i := by
  intro i o ho e he hb
  have hi := (Array.getElem?_eq_some_iff.1 ho).1
  have h1 := List.all_eq_true.1 h i (List.mem_range.2 hi)
  rw [ho] at h1
  have h2 := Array.all_eq_true'.1 h1 e he
  rw [hb] at h2
  simpa using h2
/-- a drawn region by an invariant -/
theorem wpIn_region_inv {id : Nat} {a : Act} {w : World} (I : Array Bool → Act → World → Prop) (hm : P.follows .mixedOrders = true) (hd : noDefer ops = true) (hord : ordB .any ops = true)
    (h0 : I (Array.replicate ops.size false) a w.drew)
    (hstep : ∀ listed a w i o, listed.size = ops.size → ops[i]? = some o → listed.getD i true = false → (∀ e ∈ o.after, Region.binds .any e = true → listed.getD e.on true = true) → I listed a w → wpOp P ops (fun _ _ _ => False) i (I (listed.setIfInBounds i true)) a w)
    (hdone : ∀ listed a w, (∀ i, i < ops.size → listed.getD i true = true) → I listed a w → Q .normal a w) : (Code.region id ops true).wpIn (FW ro) m P Q a w :=
  wpIn_region_any hm (anyIn_inv I hd (ord_of hord) hstep hdone _ _ _ _ (by simp) (by
    unfold unl
    exact Nat.le_trans (List.countP_le_length ..) (by simp)) h0)
theorem wpOp_of {i : Nat} {o : Oper} {a : Act} {w : World} {K : Act → World → Prop} (ho : ops[i]? = some o) (hw : Region.wanted o (yielded ops a.tmps) = true) (h : o.wp P a w K Q) : wpOp P ops Q i K a w := by
  unfold wpOp
  rw [ho]
  simp only [hw, if_true]
  exact .inl h
theorem getD_set {l : Array Bool} {i j : Nat} (h : j ≠ i) : (l.setIfInBounds i true).getD j true = l.getD j true := by
  rw [Array.getD_eq_getD_getElem?, Array.getElem?_setIfInBounds, if_neg (by omega), Array.getD_eq_getD_getElem?]
theorem getD_new {l : Array Bool} {i : Nat} : (l.setIfInBounds i true).getD i true = true := by
  rw [Array.getD_eq_getD_getElem?, Array.getElem?_setIfInBounds]
  simp only [if_true]
  split <;> simp
end
/-! ### operations, one by one -/
section
variable {o : Oper} {a : Act} {w w' : World} {K : Act → World → Prop} {Q : Exit → Act → World → Prop}
theorem wp_move {v : Value} (x : Operand) (ho : o.op = .move x) (hx : a.eval x = v) (h : K (a.put o.dst v) w) : o.wp Tryz.prog a w K Q := by
  unfold Oper.wp execOp
  simp only [ho, hx, Sem.run_pure]
  exact h
theorem wp_conv {v v' : Value} (t t' : TypeId) (x : Operand) (ho : o.op = .convert t t' x) (hx : a.eval x = v) (hr : (convert t t' v).run Tryz.prog w = .ok v' w) (h : K (a.put o.dst v') w) : o.wp Tryz.prog a w K Q := by
  unfold Oper.wp execOp
  simp only [ho, hx, Sem.run_bind, hr, Result.andThen_ok, Sem.run_pure]
  exact h
theorem wp_load_of {v : Value} (ty : TypeId) (x : Operand) (q : Value) (ho : o.op = .load ty x) (hx : a.eval x = q)
    (hl : (Instr.loadAt ty q).run Tryz.prog w = .ok v w) (h : K (a.put o.dst v) w) : o.wp Tryz.prog a w K Q := by
  unfold Oper.wp execOp
  simp only [ho, hx, Sem.run_bind, hl, Result.andThen_ok, Sem.run_pure]
  exact h
theorem wp_store_of {v q : Value} (ty : TypeId) (x y : Operand) (ho : o.op = .store ty x y) (hx : a.eval x = q) (hy : a.eval y = v)
    (hl : (Instr.storeAt ty q v).run Tryz.prog w = .ok () w') (h : K (a.put o.dst undef) w') : o.wp Tryz.prog a w K Q := by
  unfold Oper.wp execOp
  simp only [ho, hx, hy, Sem.run_bind, hl, Result.andThen_ok, Sem.run_pure]
  exact h
theorem wp_field {v q : Value} (t : TypeId) (x : Operand) (j : Nat) (ho : o.op = .fieldAddr t x j) (hx : a.eval x = q) (hr : (Instr.fieldAt t q j).run Tryz.prog w = .ok v w) (h : K (a.put o.dst v) w) : o.wp Tryz.prog a w K Q := by
  unfold Oper.wp execOp
  simp only [ho, hx, Sem.run_bind, hr, Result.andThen_ok, Sem.run_pure]
  exact h
theorem wp_bin {n k : Int} {v : Value} (op : BinOp) (x y : Operand) (ho : o.op = .binOp op 3 x y 3) (hx : a.eval x = .int .i64 n) (hy : a.eval y = .int .i64 k) (hr : (Go.binOp op 3 (.int .i64 n) (.int .i64 k)).run Tryz.prog w = .ok v w) (h : K (a.put o.dst v) w) : o.wp Tryz.prog a w K Q := by
  unfold Oper.wp execOp
  have hg : (eqGuard op 3 x y (.int .i64 n) (.int .i64 k)).run Tryz.prog w = .ok () w := by cases op <;> rfl
  simp only [ho, hx, hy, hg, Sem.run_bind, Sem.run_pure, hr, Result.andThen_ok]
  exact h
theorem bin_mul {n k r : Int} (hr : IntKind.i64.wrap (n * k) = r) (w : World) : (Go.binOp .mul 3 (.int .i64 n) (.int .i64 k)).run Tryz.prog w = .ok (.int .i64 r) w := by
  have : (Go.binOp .mul 3 (.int .i64 n) (.int .i64 k)).run Tryz.prog w = .ok (.int .i64 (IntKind.i64.wrap (n * k))) w := by kernel_rfl
  rw [this, hr]
theorem bin_add {n k r : Int} (hr : IntKind.i64.wrap (n + k) = r) (w : World) : (Go.binOp .add 3 (.int .i64 n) (.int .i64 k)).run Tryz.prog w = .ok (.int .i64 r) w := by
  have : (Go.binOp .add 3 (.int .i64 n) (.int .i64 k)).run Tryz.prog w = .ok (.int .i64 (IntKind.i64.wrap (n + k))) w := by kernel_rfl
  rw [this, hr]
theorem conv_u8 {n : Int} (h : Ch n) (w : World) : (convert 5 3 (.int .u8 n)).run Tryz.prog w = .ok (.int .i64 n) w := by
  have hw : IntKind.i64.wrap n = n := wr_in (by unfold Ch at h; omega)
  have : (convert 5 3 (.int .u8 n)).run Tryz.prog w = .ok (.int .i64 (IntKind.i64.wrap n)) w := by kernel_rfl
  rw [this, hw]
theorem aggI (w : World) : (isAgg 3).run Tryz.prog w = .ok false w := by kernel_rfl
theorem aggB (w : World) : (isAgg 5).run Tryz.prog w = .ok false w := by kernel_rfl
theorem load_i {b j : Nat} {v : Value} (h : w.cell? ⟨b, j, none⟩ = some v) : (Instr.loadAt 3 (.pointer (some ⟨b, j, none⟩))).run Tryz.prog w = .ok v w := by
  simp only [Instr.loadAt, Instr.sureAddr, loadVar, Sem.run_bind, Sem.run_pure, Result.andThen_ok, aggI, run_load, h, Bool.false_eq_true, if_false]
theorem load_b {b j : Nat} {v : Value} (h : w.cell? ⟨b, j, none⟩ = some v) : (Instr.loadAt 5 (.pointer (some ⟨b, j, none⟩))).run Tryz.prog w = .ok v w := by
  simp only [Instr.loadAt, Instr.sureAddr, loadVar, Sem.run_bind, Sem.run_pure, Result.andThen_ok, aggB, run_load, h, Bool.false_eq_true, if_false]
theorem put_eval {s t : Nat} {v : Value} (hs : s < a.tmps.size) : (a.put (some s) v).eval (.tmp t) = if t = s then v else a.eval (.tmp t) := by
  show (a.tmps.setIfInBounds s v).getD t undef = if t = s then v else a.tmps.getD t undef
  rw [Array.getD_eq_getD_getElem?, Array.getD_eq_getD_getElem?, Array.getElem?_setIfInBounds]
  by_cases h : t = s
  · subst h; rw [if_pos rfl, if_pos rfl, if_pos hs]; rfl
  · rw [if_neg (fun e => h e.symm), if_neg h]
theorem put_size {d : Option Nat} {v : Value} : (a.put d v).tmps.size = a.tmps.size := by cases d <;> simp [Act.put]
end
end Go.Proofs.YtbodmeiecdomfaaGreat.W
