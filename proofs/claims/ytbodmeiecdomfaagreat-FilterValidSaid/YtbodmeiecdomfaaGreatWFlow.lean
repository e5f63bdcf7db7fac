/-
  Drawn regions in which values flow, blocks are laid and one of them is stored into: an invariant for all of them.
-/
import Derived.Test.YtbodmeiecdomfaaGreatWMth
namespace Go.Proofs.YtbodmeiecdomfaaGreat.W
open Go.RowKit
set_option maxRecDepth 100000

/-- what n operations leave; number st stores into the block whose pointer operation ja has left -/
structure Flw (n st ja : Nat) (dst : Nat → Nat) (P : Nat → Value → World → Prop) (F : Value → World → Prop) (a0 : Act) (W : World) (listed : Array Bool) (a : Act) (w : World) : Prop where
  size : a.tmps.size = a0.tmps.size
  defs : a.defers = a0.defers
  keep : ∀ t : Nat, (∀ j, j < n → j ≠ st → dst j ≠ t) → a.eval (.tmp t) = a0.eval (.tmp t)
  vals : ∀ j, j < n → j ≠ st → listed.getD j true = true → P j (a.eval (.tmp (dst j))) w
  mem : Below W.heap.size W w
  last : listed.getD st true = true → listed.getD ja true = true ∧ F (a.eval (.tmp (dst ja))) w
variable {n st ja : Nat} {dst : Nat → Nat} {P : Nat → Value → World → Prop} {F : Value → World → Prop} {a0 a : Act} {W w w' : World} {listed : Array Bool}
theorem Flw.next {j : Nat} {v : Value} (h : Flw n st ja dst P F a0 W listed a w) (hi : ∀ i k, i < n → k < n → i ≠ st → k ≠ st → dst i = dst k → i = k) (hz : ∀ i, i < n → i ≠ st → dst i < a0.tmps.size) (hS : ∀ i v w w', P i v w → Below w.heap.size w w' → P i v w') (hF : ∀ v w w', F v w → Below w.heap.size w w' → F v w') (hja : ja < n ∧ ja ≠ st)
    (hj : j < n) (hjs : j ≠ st) (hu : listed.getD j true = false) (hb : Below w.heap.size w w') (hv : P j v w') : Flw n st ja dst P F a0 W (listed.setIfInBounds j true) (a.put (some (dst j)) v) w' where
  size := put_size.trans h.size
  defs := put_defers.trans h.defs
  keep t ht := by rw [put_eval (by rw [h.size]; exact hz j hj hjs), if_neg (fun e => ht j hj hjs e.symm)]; exact h.keep t ht
  vals i hin his hl := by
    rw [put_eval (by rw [h.size]; exact hz j hj hjs)]
    by_cases e : i = j
    · subst e; rw [if_pos rfl]; exact hv
    · rw [if_neg (fun e2 => e (hi i j hin hj his hjs e2))]
      exact hS _ _ _ _ (h.vals i hin his (by rwa [getD_set e] at hl)) hb
  mem := h.mem.trans (hb.mono h.mem.size)
  last hl := by
    rw [getD_set (fun e => hjs e.symm)] at hl
    obtain ⟨h1, h2⟩ := h.last hl
    have e : ja ≠ j := fun e => by subst e; rw [hu] at h1; cases h1
    refine ⟨by rw [getD_set e]; exact h1, ?_⟩
    rw [put_eval (by rw [h.size]; exact hz j hj hjs), if_neg (fun e2 => e (hi ja j hja.1 hj hja.2 hjs e2))]
    exact hF _ _ _ h2 hb
theorem Flw.store (h : Flw n st ja dst P F a0 W listed a w) (hl : listed.getD ja true = true) (hjs : ja ≠ st) (hP : ∀ i, i < n → i ≠ st → listed.getD i true = true → P i (a.eval (.tmp (dst i))) w') (hb : Below W.heap.size W w') (hF : F (a.eval (.tmp (dst ja))) w') : Flw n st ja dst P F a0 W (listed.setIfInBounds st true) (a.put none undef) w' where
  size := h.size
  defs := h.defs
  keep := h.keep
  vals i hin his hli := hP i hin his (by rwa [getD_set his] at hli)
  mem := hb
  last _ := ⟨by rw [getD_set hjs]; exact hl, hF⟩
/-- a state whose slots are known -/
def puts (a : Act) : List (Nat × Value) → Act
  | [] => a
  | (t, v) :: l => puts (a.put (some t) v) l
theorem puts_size : ∀ (l : List (Nat × Value)) (a : Act), (puts a l).tmps.size = a.tmps.size
  | [], _ => rfl
  | (_, _) :: l, _ => (puts_size l _).trans put_size
theorem puts_defs : ∀ (l : List (Nat × Value)) (a : Act), (puts a l).defers = a.defers
  | [], _ => rfl
  | (_, _) :: l, _ => (puts_defs l _).trans put_defers
theorem puts_eval : ∀ (l : List (Nat × Value)) (a : Act) (b : Act) (t : Nat), (∀ x ∈ l, x.1 < a.tmps.size ∧ b.eval (.tmp x.1) = x.2) → ((∀ x ∈ l, x.1 ≠ t) → b.eval (.tmp t) = a.eval (.tmp t)) → (puts a l).eval (.tmp t) = b.eval (.tmp t)
  | [], a, b, t, _, h => (h (by simp)).symm
  | (s, v) :: l, a, b, t, hl, h => by
    have h0 := hl (s, v) (by simp)
    refine puts_eval l (a.put (some s) v) b t (fun x hx => ⟨by rw [put_size]; exact (hl x (by simp [hx])).1, (hl x (by simp [hx])).2⟩) (fun hx => ?_)
    rw [put_eval h0.1]
    by_cases e : t = s
    · subst e; rw [if_pos rfl]; exact h0.2
    · rw [if_neg e]; exact h (fun x hm => by rcases List.mem_cons.1 hm with rfl | hm; · exact fun e2 => e e2.symm
                                             · exact hx x hm)
/-- all have come up -/
theorem Flw.act (h : Flw n st ja dst P F a0 W listed a w) (hz : ∀ i, i < n → i ≠ st → dst i < a0.tmps.size) (js : List Nat) (hjs : ∀ j, j ∈ js ↔ j < n ∧ j ≠ st) : a = puts a0 (js.map fun j => (dst j, a.eval (.tmp (dst j)))) := by
  refine (act_eq ((puts_defs _ _).trans h.defs.symm) ((puts_size _ _).trans h.size.symm) fun t => puts_eval _ _ _ t (fun x hx => ?_) (fun hx => h.keep t (fun j hj hs e => hx (dst j, a.eval (.tmp (dst j))) (List.mem_map.2 ⟨j, (hjs j).2 ⟨hj, hs⟩, rfl⟩) e))).symm
  obtain ⟨j, hj, rfl⟩ := List.mem_map.1 hx
  exact ⟨hz j ((hjs j).1 hj).1 ((hjs j).1 hj).2, rfl⟩
end Go.Proofs.YtbodmeiecdomfaaGreat.W
