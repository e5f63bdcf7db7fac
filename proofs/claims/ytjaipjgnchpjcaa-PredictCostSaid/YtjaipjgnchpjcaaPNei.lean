/-
  The neighbours of a value of a plane, and its prediction: the closures over a plane (contracts).
-/
import Derived.Test.YtjaipjgnchpjcaaPMem
import Derived.Test.YtjaipjgnchpjcaaPRule
import Derived.Test.YtjaipjgnchpjcaaPSwap
namespace Go.Proofs.Ytjaipjgnchpjcaa.P
open Go.RowKit T
set_option maxRecDepth 100000

/-- the neighbours of the value number i -/
def nL (f : Nat → Int) (i : Nat) : Int := if 0 < i % 8 then f (i - 1) else if 0 < i / 8 then f (i - 8) else 0
def nU (f : Nat → Int) (i : Nat) : Int := if 0 < i / 8 then f (i - 8) else if 0 < i % 8 then f (i - 1) else 0
def nC (f : Nat → Int) (i : Nat) : Int := if 0 < i % 8 then (if 0 < i / 8 then f (i - 9) else f (i - 1)) else if 0 < i / 8 then f (i - 8) else 0
/-- what predictor k predicts for the value number i -/
def gs (k : Nat) (f : Nat → Int) (i : Nat) : Int := b8 (prd k (nL f i) (nU f i) (nC f i))
theorem quiet_same {P : Program} {f : FuncId} {args : Array Value} {w : World} {n : Nat} {v : Value} (h : Calls P f args (w.drewN n) fun e w' => e = .returned v ∧ w.drewN n = w') : Calls P f args (w.drewN n) fun e w' => e = .returned v ∧ ∃ m, w' = w.drewN m :=
  h.mono fun _ _ ⟨h1, h2⟩ => ⟨h1, n, h2.symm⟩
/-- the box of the plane's address, and that of the closure over it -/
abbrev bx (b : Nat) : Obj := vo (ptrB b) 71
abbrev atO (n : Nat) : Obj := vo (.func (.func 42) #[] #[ptrB n]) 78
theorem at_any (f : Nat → Int) (x y n b : Nat) (w : World) (hx : x < 8) (hy : y < 8) (hn : w.heap[n]? = some (bx b)) (hb : w.heap[b]? = some (pob f)) (hf : ∀ i, i < 64 → Ch (f i)) :
    Calls Try.prog 42 #[.int .i64 x, .int .i64 y, ptrB n] w fun e w' => e = .returned (.int .i64 (f (8 * y + x))) ∧ w = w' := by
  have hc : w.cell? ⟨n, 0, none⟩ = some (ptrB b) := cell_of_row _ _ 0 _ _ _ hn
  have hp : w.cell? ⟨b, 8 * y + x, none⟩ = some (.int .u8 (f (8 * y + x))) := by rw [cell_of_row w b _ _ _ _ hb]; exact pc_get f _ (by omega)
  have hi := fun W => index_pl b (8 * y + x) (by omega) W
  have e : wrap64 (f (8 * y + x)) = f (8 * y + x) := by have := hf (8 * y + x) (by omega); unfold Ch at this; exact IntWalk.wrap64_in _ (by omega)
  go_enter Try.func42, Try.ntmps42
  go_wp2
  go_ret
  exact ⟨ret_int (by first | rfl | exact e), rfl⟩
theorem f_fact {f : Nat → Int} {i j : Nat} (h : j = i) : f j = f i := by rw [h]
set_option maxHeartbeats 1000000 in
theorem nei_any (f : Nat → Int) (i m n b : Nat) (w : World) (hi : i < 64) (hm : w.heap[m]? = some (atO n)) (hn : w.heap[n]? = some (bx b)) (hb : w.heap[b]? = some (pob f)) (hf : ∀ i, i < 64 → Ch (f i)) :
    Calls Try.prog 43 #[.int .i64 i, ptrB m] w fun e w' => e = .returned (.tuple #[.int .i64 (nL f i), .int .i64 (nU f i), .int .i64 (nC f i)]) ∧ Below w.heap.size w w' := by
  have hc : w.cell? ⟨m, 0, none⟩ = some (.func (.func 42) #[] #[ptrB n]) := cell_of_row _ _ 0 _ _ _ hm
  have HA : Hid (∀ nq (X Y : Int) (x y : Nat), X = x → Y = y → x < 8 → y < 8 → Calls Try.prog 42 #[.int .i64 X, .int .i64 Y, ptrB n] (w.drewN nq) fun e w' => e = .returned (.int .i64 (f (8 * y + x))) ∧ w.drewN nq = w') := fun nq X Y x y hX hY hx hy => by
    subst hX hY
    exact at_any f x y n b _ hx hy hn hb hf
  obtain ⟨x, hx⟩ : ∃ x, x = i % 8 := ⟨_, rfl⟩
  obtain ⟨y, hy⟩ : ∃ y, y = i / 8 := ⟨_, rfl⟩
  have hx8 : x < 8 := by omega
  have hy8 : y < 8 := by omega
  have ei : i = 8 * y + x := by omega
  have HB : Hid (∀ (X Y : Int) (x y : Nat), X = x → Y = y → x < 8 → y < 8 → Calls Try.prog 42 #[.int .i64 X, .int .i64 Y, ptrB n] w fun e w' => e = .returned (.int .i64 (f (8 * y + x))) ∧ w = w') := fun X Y x y hX hY hx hy => by
    subst hX hY
    exact at_any f x y n b _ hx hy hn hb hf
  clear hm hn hb hf
  have k1 : (i : Int) % 8 = x := by omega
  have k2 : (i : Int) / 8 = y := by omega
  by_cases h1 : 0 < x
  · have k3 : (0 : Int) < x := by omega
    by_cases h2 : 0 < y
    · have eL : nL f i = f (8 * y + (x - 1)) := by unfold nL; rw [← hx, if_pos h1]; congr 1; omega
      have eU : nU f i = f (8 * (y - 1) + x) := by unfold nU; rw [← hy, if_pos h2]; congr 1; omega
      have eC : nC f i = f (8 * (y - 1) + (x - 1)) := by unfold nC; rw [← hx, ← hy, if_pos h1, if_pos h2]; congr 1; omega
      have k4 : (0 : Int) < y := by omega
      rw [eL, eU, eC]
      clear hx hy ei eL eU eC
      go_enter Try.func43, Try.ntmps43
      go_upto_region 3 with fail
      simp only [k1]
      go_quiet ((go_at_call 42; (first | (exact quiet_same (HA.out _ _ _ (x - 1) (y - 1) (by omega) (by omega) (by omega) (by omega))) | (exact quiet_same (HA.out _ _ _ (x - 1) (y) (by omega) (by omega) (by omega) (by omega))) | (exact quiet_same (HA.out _ _ _ (x) (y - 1) (by omega) (by omega) (by omega) (by omega))))))
      go_wp2
      exact bodyPost_ret (v := .tuple #[.int .i64 (f (8 * y + (x - 1))), .int .i64 (f (8 * (y - 1) + x)), .int .i64 (f (8 * (y - 1) + (x - 1)))]) (by simp [results, Try.results43, go_sem]) rfl ⟨rfl, ⟨rfl, rfl, rfl, Nat.le_refl _, fun _ _ => rfl⟩⟩
    · obtain rfl : y = 0 := by omega
      have e1 : f (i - 1) = f (8 * 0 + (x - 1)) := by congr 1; omega
      have eL : nL f i = f (8 * 0 + (x - 1)) := by unfold nL; rw [← hx, if_pos h1, e1]
      have eU : nU f i = f (8 * 0 + (x - 1)) := by unfold nU; rw [← hx, ← hy, if_neg (by omega), if_pos h1, e1]
      have eC : nC f i = f (8 * 0 + (x - 1)) := by unfold nC; rw [← hx, ← hy, if_pos h1, if_neg (by omega), e1]
      rw [eL, eU, eC]
      clear hx hy ei eL eU eC e1
      have k2' : (i : Int) / 8 = 0 := k2
      clear k2
      go_enter Try.func43, Try.ntmps43
      go_upto_region 5 with fail
      simp only [k1]
      go_wp2_with (go_at_call 42; refine (HB.out _ _ (x - 1) (0) (by omega) (by omega) (by omega) (by omega)).mono ?_; rintro e w4 ⟨rfl, rfl⟩)
      exact bodyPost_ret (v := .tuple #[.int .i64 (f (8 * 0 + (x - 1))), .int .i64 (f (8 * 0 + (x - 1))), .int .i64 (f (8 * 0 + (x - 1)))]) (by simp [results, Try.results43, go_sem]) rfl ⟨rfl, Below.refl _ _⟩
  · obtain rfl : x = 0 := by omega
    by_cases h2 : 0 < y
    · have k4 : (0 : Int) < y := by omega
      have e1 : f (i - 8) = f (8 * (y - 1) + 0) := by congr 1; omega
      have eL : nL f i = f (8 * (y - 1) + 0) := by unfold nL; rw [← hx, ← hy, if_neg (by omega), if_pos h2, e1]
      have eU : nU f i = f (8 * (y - 1) + 0) := by unfold nU; rw [← hy, if_pos h2, e1]
      have eC : nC f i = f (8 * (y - 1) + 0) := by unfold nC; rw [← hx, ← hy, if_neg (by omega), if_pos h2, e1]
      rw [eL, eU, eC]
      clear hx hy ei eL eU eC e1
      have k1' : (i : Int) % 8 = 0 := k1
      clear k1
      go_enter Try.func43, Try.ntmps43
      go_wp2_with (go_at_call 42; refine (HB.out _ _ (0) (y - 1) (by omega) (by omega) (by omega) (by omega)).mono ?_; rintro e w4 ⟨rfl, rfl⟩)
      exact bodyPost_ret (v := .tuple #[.int .i64 (f (8 * (y - 1) + 0)), .int .i64 (f (8 * (y - 1) + 0)), .int .i64 (f (8 * (y - 1) + 0))]) (by simp [results, Try.results43, go_sem]) rfl ⟨rfl, Below.refl _ _⟩
    · obtain rfl : y = 0 := by omega
      obtain rfl : i = 0 := by omega
      clear hx hy ei HA HB
      go_enter Try.func43, Try.ntmps43
      go_wp2
      exact bodyPost_ret (v := .tuple #[.int .i64 0, .int .i64 0, .int .i64 0]) (by simp [results, Try.results43, go_sem]) rfl ⟨rfl, Below.refl _ _⟩
end Go.Proofs.Ytjaipjgnchpjcaa.P
