/-
  A tile whose pixels are a function of their indices and places (contract of generate).
-/
import Derived.Test.YtjaipjgnchpjcaaTRange
import Derived.Test.YtjaipjgnchpjcaaMath
namespace Go.Proofs.Ytjaipjgnchpjcaa.T
open Go.RowKit Go.Shelf
attribute [local go_sem] Oper.semAt_some
variable {w : World}

/-- the first n pixels of f -/
def upto (f : Nat → Px) (n : Nat) : Nat → Px := fun k => if k < n then f k else zp
theorem upto_zero (f : Nat → Px) : upto f 0 = z0 := by funext k; simp [upto, z0]
theorem upto_succ (f : Nat → Px) (n : Nat) : upd (upto f n) n (f n) = upto f (n + 1) := by
  funext k
  unfold upd upto
  by_cases h : k = n
  · subst h; rw [if_pos rfl, if_pos (by omega)]
  · rw [if_neg h]; by_cases h2 : k < n
    · rw [if_pos h2, if_pos (by omega)]
    · rw [if_neg h2, if_neg (by omega)]
theorem upto_all (f : Nat → Px) : tc (upto f 64) = tc f := tc_ext fun _ hi => if_pos hi
/-- a closure gives the pixel f i at the place number i -/
def Gives (g : Nat) (cb : Array Value) (f : Nat → Px) (w : World) : Prop :=
  ∀ V, Below w.heap.size w V → ∀ i, i < 64 → Calls Try.prog g (#[.int .i64 i, ptv i] ++ cb) V fun e w' => e = .returned (f i).v ∧ Below V.heap.size V w'
theorem Kept.setRow {M : Nat → Prop} {W W' : World} (h : Kept M W W') {b : Nat} (hb : M b) (cs : Array Value) : Kept M W (W'.setRow b cs) :=
  ⟨h.os, h.tape, h.output, by simpa [World.setRow] using h.size, fun k hk hm => (setRow_other W' b k cs (fun e => hm (e ▸ hb))).trans (h.block k hk hm)⟩
theorem abd_kept {β : Type} {M : Nat → Prop} {W : World} (n : Nat) (hn : W.heap.size ≤ n) : Abd n (fun (_ : β) V => Kept M W V) := fun _ _ _ h hb =>
  ⟨hb.os.trans h.os, hb.tape.trans h.tape, hb.output.trans h.output, Nat.le_trans h.size hb.size, fun k hk hm => (hb.block k (by omega)).trans (h.block k hk hm)⟩
/-- the places before number n -/
theorem pre_of {pre : List Nat} {x : Nat} (h : pre ++ [x] <+: List.range 64) : x = pre.length ∧ x < 64 := by
  obtain ⟨t, ht⟩ := h
  have hlen := congrArg List.length ht
  have hx : (pre ++ [x] ++ t)[pre.length]? = some x := by simp
  rw [ht] at hx
  have := List.getElem?_eq_some_iff.1 hx
  obtain ⟨h1, h2⟩ := this
  simp at h1 h2
  exact ⟨h2.symm, by omega⟩
end Go.Proofs.Ytjaipjgnchpjcaa.T
