/-
  The closure that predicts a plane's values (contracts).
-/
import Derived.Test.YtjaipjgnchpjcaaPNei
namespace Go.Proofs.Ytjaipjgnchpjcaa.P
open Go.RowKit T
set_option maxRecDepth 100000

/-- a rule as a value and in memory; the closure over the neighbours -/
abbrev ruV (k : Nat) : Value := .agg #[.func (.func (rf k)) #[] #[]]
abbrev ruO (k : Nat) : Obj := .cells #[.func (.func (rf k)) #[] #[]] 55
abbrev nbO (m : Nat) : Obj := vo (.func (.func 43) #[] #[ptrB m]) 73
theorem neiIn_any (b : Nat) (w : World) : Calls Try.prog 39 #[ptrB b] w fun e w' =>
    e = .returned (.func (.func 43) #[] #[ptrB (w.heap.size + 1)]) ∧ w' = (w.alloc (bx b)).alloc (atO w.heap.size) := by
  go_enter Try.func39, Try.ntmps39
  go_wp2
  go_ret
  exact ⟨rfl, rfl⟩
/-- what the closure needs: four blocks from n on -/
structure PrdAt (V : World) (n k b : Nat) : Prop where
  r0 : V.heap[n]? = some (ruO k)
  r1 : V.heap[n + 1]? = some (bx b)
  r2 : V.heap[n + 1 + 1]? = some (atO (n + 1))
  r3 : V.heap[n + 1 + 1 + 1]? = some (nbO (n + 1 + 1))
theorem PrdAt.later {V V' : World} {n k b B : Nat} (h : PrdAt V n k b) (hb : Below B V V') (hB : n + 1 + 1 + 1 < B) : PrdAt V' n k b :=
  ⟨(hb.block _ (by omega)).trans h.r0, (hb.block _ (by omega)).trans h.r1, (hb.block _ (by omega)).trans h.r2, (hb.block _ (by omega)).trans h.r3⟩
theorem PrdAt.lt {V : World} {n k b : Nat} (h : PrdAt V n k b) : n + 1 + 1 + 1 < V.heap.size := (Array.getElem?_eq_some_iff.1 h.r3).1
theorem prdIn_any (k b : Nat) (w : World) : Calls Try.prog 37 #[ruV k, ptrB b] w fun e w' =>
    e = .returned (.func (.func 40) #[] #[ptrB w.heap.size, ptrB (w.heap.size + 1 + 1 + 1)]) ∧ PrdAt w' w.heap.size k b ∧ Below w.heap.size w w' := by
  have h0 := (((St.start w).alloc (ruO k)).alloc (bx b)).alloc (atO (w.heap.size + 1))
  simp only [World.size_alloc] at h0
  have hz : ((((w.alloc (ruO k)).alloc (bx b)).alloc (atO (w.heap.size + 1)))).heap.size = w.heap.size + 1 + 1 + 1 := by simp
  have h1 := h0.alloc (nbO (w.heap.size + 1 + 1))
  rw [hz] at h1
  have HP : Hid (PrdAt (((((w.alloc (ruO k)).alloc (bx b)).alloc (atO (w.heap.size + 1)))).alloc (nbO (w.heap.size + 1 + 1))) w.heap.size k b ∧ Below w.heap.size w (((((w.alloc (ruO k)).alloc (bx b)).alloc (atO (w.heap.size + 1)))).alloc (nbO (w.heap.size + 1 + 1)))) :=
    ⟨⟨h1.row (b := w.heap.size) (o := ruO k) (by simp), h1.row (b := w.heap.size + 1) (o := bx b) (by simp), h1.row (b := w.heap.size + 1 + 1) (o := atO (w.heap.size + 1)) (by simp), h1.row (b := w.heap.size + 1 + 1 + 1) (o := nbO (w.heap.size + 1 + 1)) (by simp)⟩, h1.below⟩
  have HC : Hid (Calls Try.prog 39 #[ptrB b] (w.alloc (ruO k)) fun e w' =>
    e = .returned (.func (.func 43) #[] #[ptrB (w.heap.size + 1 + 1)]) ∧ w' = ((w.alloc (ruO k)).alloc (bx b)).alloc (atO (w.heap.size + 1))) := by
    have := neiIn_any b (w.alloc (ruO k)); rw [World.size_alloc] at this; exact this
  clear h0 h1 hz
  go_enter Try.func37, Try.ntmps37
  go_wp2_with (go_at_call 39; refine HC.out.mono ?_; rintro e w4 ⟨rfl, rfl⟩)
  go_ret
  exact ⟨rfl, HP.out⟩
set_option maxHeartbeats 1000000 in
theorem prd1_any (f : Nat → Int) (k i n b : Nat) (w : World) (hi : i < 64) (hP : PrdAt w n k b) (hb : w.heap[b]? = some (pob f)) (hf : ∀ i, i < 64 → Ch (f i)) :
    Calls Try.prog 40 #[.int .i64 i, ptrB n, ptrB (n + 1 + 1 + 1)] w fun e w' => e = .returned (.int .u8 (gs k f i)) ∧ Below w.heap.size w w' := by
  have hL : Ch (nL f i) := by unfold nL; (repeat' split) <;> first | exact hf _ (by omega) | exact ⟨by omega, by omega⟩
  have hU : Ch (nU f i) := by unfold nU; (repeat' split) <;> first | exact hf _ (by omega) | exact ⟨by omega, by omega⟩
  have hC : Ch (nC f i) := by unfold nC; (repeat' split) <;> first | exact hf _ (by omega) | exact ⟨by omega, by omega⟩
  have HF : Hid (∀ V, St w [] V → St w [] V ∧ V.cell? ⟨n, 0, none⟩ = some (.func (.func (rf k)) #[] #[]) ∧ V.cell? ⟨n + 1 + 1 + 1, 0, none⟩ = some (.func (.func 43) #[] #[ptrB (n + 1 + 1)])) := fun V hV => by
    have h := hP.later hV.below hP.lt
    exact ⟨hV, cell_of_row _ _ 0 _ _ _ h.r0, cell_of_row _ _ 0 _ _ _ h.r3⟩
  have HN : Hid (∀ V, St w [] V → Calls Try.prog 43 #[.int .i64 i, ptrB (n + 1 + 1)] V fun e w' => e = .returned (.tuple #[.int .i64 (nL f i), .int .i64 (nU f i), .int .i64 (nC f i)]) ∧ St w [] w') := fun V hV => by
    have h := hP.later hV.below hP.lt
    exact St.call hV (nei_any f i (n + 1 + 1) (n + 1) b V hi h.r2 h.r1 (old_row hb hV.below) hf)
  have e0 : gs k f i = b8 (prd k (nL f i) (nU f i) (nC f i)) := rfl
  rw [e0]
  clear e0
  generalize nL f i = l at *
  generalize nU f i = u at *
  generalize nC f i = c at *
  have HR : Hid (∀ V, St w [] V → Calls Try.prog (rf k) #[.int .i64 l, .int .i64 u, .int .i64 c] V fun e w' => e = .returned (.int .i64 (prd k l u c)) ∧ St w [] w') := fun V hV => St.call hV (rule_any k l u c V hL hU hC)
  have hE := rf_enters k
  have hs := (St.start w)
  clear hP hb hf hL hU hC
  generalize prd k l u c = z at *
  generalize rf k = g at *
  go_enter Try.func40, Try.ntmps40
  go_upto_region 1 with fail
  have hd := hs.drew
  obtain ⟨_, hc1, hc2⟩ := HF.out _ hd
  go_region_held3 (fun V => St w [] V ∧ V.cell? ⟨n, 0, none⟩ = some (.func (.func g) #[] #[]) ∧ V.cell? ⟨n + 1 + 1 + 1, 0, none⟩ = some (.func (.func 43) #[] #[ptrB (n + 1 + 1)])) ((refine HF.out _ ?_; assumption)) (first
    | (go_at_call 43; (with_reducible refine (HN.out _ ?_).mono ?_); (focus assumption); rintro e w4 ⟨rfl, h4⟩)
    | ((with_reducible refine (HR.out _ ?_).mono ?_); (focus assumption); rintro e w5 ⟨rfl, h5⟩))
  go_wp2
  go_ret
  exact ⟨ret_int (by first | rfl | (simp [b8, IntKind.wrap_u8]; done)), h5.below⟩
end Go.Proofs.Ytjaipjgnchpjcaa.P
