/-
  What the functions of pixel and of the reference that only compute on numbers return (contracts of their calls).
-/
import Derived.Test.YtfncldaodbfakaaGreatRows
import Derived.WalkKit
import Derived.WalkSpells
import Derived.WalkLawsBesides
import Derived.PlainAid
import Derived.Outline
import Derived.Lib.Hide
namespace Go.Proofs.YtfncldaodbfakaaGreat
open Go.RowKit

theorem ret_int {k : IntKind} {a b : Int} (h : a = b) : Ending.returned (.int k a) = .returned (.int k b) := by rw [h]
theorem ret_bool {a b : Bool} (h : a = b) : Ending.returned (.bool a) = .returned (.bool b) := by rw [h]
theorem Below.call {P : Program} {f : FuncId} {args : Array Value} {w : World} {v : Value} {w0 : World} (hs : Below w0.heap.size w0 w)
    (h : Calls P f args w fun e w' => e = .returned v ∧ Below w.heap.size w w') : Calls P f args w fun e w' => e = .returned v ∧ Below w0.heap.size w0 w' ∧ Below w.heap.size w w' :=
  h.mono fun _ _ ⟨h1, h2⟩ => ⟨h1, hs.trans (h2.mono hs.size), h2⟩
theorem below1 {w : World} {o : Obj} : Below w.heap.size w (w.alloc o) := (Below.refl _ _).alloc (Nat.le_refl _) _

/-- the range of channel values -/
abbrev Ch (x : Int) : Prop := 0 ≤ x ∧ x ≤ 255
def cl (n : Int) : Int := if n < 0 then 0 else if 255 < n then 255 else n
def rd (n d : Int) : Int := (2 * n + d) / (2 * d)
def pr (a b : Int) : Int := rd (a * b) 255
def mul (a b : Int) : Int := pr (cl a) (cl b)
theorem cl_ch (n : Int) : Ch (cl n) := by unfold cl; constructor <;> (split <;> (try split)) <;> omega
theorem cl_of {n : Int} (h : Ch n) : cl n = n := by unfold cl; (split <;> (try split)) <;> omega
theorem sq_ch {a b : Int} (ha : Ch a) (hb : Ch b) : 0 ≤ a * b ∧ a * b ≤ 65025 :=
  ⟨Int.mul_nonneg ha.1 hb.1, Int.le_trans (Int.mul_le_mul ha.2 hb.2 hb.1 (by omega)) (by decide)⟩
theorem pr_ch {a b : Int} (ha : Ch a) (hb : Ch b) : Ch (pr a b) := by
  have := sq_ch ha hb; unfold pr rd; generalize a * b = x at *; constructor <;> omega

/-- the closure of 'nearest' over the variable in block b -/
abbrev nf (b : Nat) : Value := .func (.func 192) #[] #[.pointer (some ⟨b, 0, none⟩)]

theorem near_any (d : Int) (w : World) : Calls Tryz.prog 161 #[.int .i64 d] w fun e w' => e = .returned (nf w.heap.size) ∧ w' = w.alloc (.cells #[.int .i64 d] 3) := by
  go_enter Tryz.func161, Tryz.ntmps161
  go_wp2
  all_goals go_ret
  all_goals exact ⟨rfl, rfl⟩

theorem near1_any (n d : Int) (b : Nat) (w : World) (hn : 0 ≤ n) (hn' : n ≤ 9007199254740992) (hd : 0 < d) (hd' : d ≤ 9007199254740992) (hc : w.cell? ⟨b, 0, none⟩ = some (.int .i64 d)) :
    Calls Tryz.prog 192 #[.int .i64 n, .pointer (some ⟨b, 0, none⟩)] w fun e w' => e = .returned (.int .i64 (rd n d)) ∧ w = w' := by
  go_enter Tryz.func192, Tryz.ntmps192
  go_wp2
  all_goals go_ret
  all_goals exact ⟨ret_int rfl, rfl⟩
theorem refRound_any (n d : Int) (w : World) (hn : 0 ≤ n) (hn' : n ≤ 9007199254740992) (hd : 0 < d) (hd' : d ≤ 9007199254740992) :
    Calls Tryz.prog 143 #[.int .i64 n, .int .i64 d] w fun e w' => e = .returned (.int .i64 (rd n d)) ∧ w = w' := by
  go_enter Tryz.func143, Tryz.ntmps143
  go_wp2
  all_goals go_ret
  all_goals exact ⟨ret_int rfl, rfl⟩
end Go.Proofs.YtfncldaodbfakaaGreat
