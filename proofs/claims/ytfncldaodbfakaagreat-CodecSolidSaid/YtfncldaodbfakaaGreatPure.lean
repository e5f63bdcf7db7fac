/-
  What the functions of pixel and of the reference that only compute on numbers return (contracts of their calls). Memory in a walk: what was there at the call is as it was, and the listed blocks of one's own hold what is listed. Products of channel values and the blend functions, of pixel and of the reference (contracts). A range over a function whose body never leaves: the iterator may itself range over a function, and the body writes blocks that are named ahead. Clean, Fade and combine: what they return for all pixels. The plain arithmetic of Over and Mix: what lies in which range.
-/
import Derived.Test.YtfncldaodbfakaaGreatRows
import Derived.WalkKit
import Derived.WalkSpells
import Derived.WalkLawsBesides
import Derived.PlainAid
import Derived.Outline
import Derived.Lib.Hide
import Derived.Laws.Rows
import Derived.Deep.Draws
import Derived.StillTailTactics
import Derived.Deep.QuietTactic
import Derived.BigQuiet
import Derived.Deep.RegionHeld3
import Derived.Deep.Cut
import Derived.Deep.CutBlock
import Derived.Deep.CutRange
import Derived.Deep.RegionWith
import Derived.Deep.DeepCutAuto
import Derived.RangeFuncNested
import Derived.RangeFuncBound
import Derived.RangeFuncCalls
import Derived.RangeFuncLeaves
import Derived.RangeFuncBox
import Derived.Shelf.Abstract
import Derived.Shelf.RegionOpen
import Derived.OwnWalkIn
import Derived.TacticsInMore
import Derived.LoopNIn
import Derived.LoopIn
import Derived.Maps.AppendAt
import Derived.Sort.CutIn
namespace Go.Proofs.YtfncldaodbfakaaGreat
open Go.RowKit

theorem ret_int {k : IntKind} {a b : Int} (h : a = b) : Ending.returned (.int k a) = .returned (.int k b) := by rw [h]
theorem ret_bool {a b : Bool} (h : a = b) : Ending.returned (.bool a) = .returned (.bool b) := by rw [h]
theorem Below.call {P : Program} {f : FuncId} {args : Array Value} {w : World} {v : Value} {w0 : World} (hs : Below w0.heap.size w0 w)
    (h : Calls P f args w fun e w' => e = .returned v ∧ Below w.heap.size w w') : Calls P f args w fun e w' => e = .returned v ∧ Below w0.heap.size w0 w' ∧ Below w.heap.size w w' :=
  h.mono fun _ _ ⟨h1, h2⟩ => ⟨h1, hs.trans (h2.mono hs.size), h2⟩
theorem below1 {w : World} {o : Obj} : Below w.heap.size w (w.alloc o) := (Below.refl _ _).alloc (Nat.le_refl _) _

/-- the range of channel values -/
abbrev Ch (x : Int) : Prop := 0 ≤ x ∧ x ≤ 255
def cl (n : Int) : Int := if n < 0 then 0 else if 255 < n then 255 else n
def rd (n d : Int) : Int := (2 * n + d) / (2 * d)
def pr (a b : Int) : Int := rd (a * b) 255
def mul (a b : Int) : Int := pr (cl a) (cl b)
theorem cl_ch (n : Int) : Ch (cl n) := by unfold cl; constructor <;> (split <;> (try split)) <;> omega
theorem cl_of {n : Int} (h : Ch n) : cl n = n := by unfold cl; (split <;> (try split)) <;> omega
theorem sq_ch {a b : Int} (ha : Ch a) (hb : Ch b) : 0 ≤ a * b ∧ a * b ≤ 65025 :=
  ⟨Int.mul_nonneg ha.1 hb.1, Int.le_trans (Int.mul_le_mul ha.2 hb.2 hb.1 (by omega)) (by decide)⟩
theorem pr_ch {a b : Int} (ha : Ch a) (hb : Ch b) : Ch (pr a b) := by
  have := sq_ch ha hb; unfold pr rd; generalize a * b = x at *; constructor <;> omega

/-- the closure of 'nearest' over the variable in block b -/
abbrev nf (b : Nat) : Value := .func (.func 192) #[] #[.pointer (some ⟨b, 0, none⟩)]

theorem near_any (d : Int) (w : World) : Calls Tryz.prog 161 #[.int .i64 d] w fun e w' => e = .returned (nf w.heap.size) ∧ w' = w.alloc (.cells #[.int .i64 d] 3) := by
  go_enter Tryz.func161, Tryz.ntmps161
  go_wp2
  all_goals go_ret
  all_goals exact ⟨rfl, rfl⟩

theorem near1_any (n d : Int) (b : Nat) (w : World) (hn : 0 ≤ n) (hn' : n ≤ 9007199254740992) (hd : 0 < d) (hd' : d ≤ 9007199254740992) (hc : w.cell? ⟨b, 0, none⟩ = some (.int .i64 d)) :
    Calls Tryz.prog 192 #[.int .i64 n, .pointer (some ⟨b, 0, none⟩)] w fun e w' => e = .returned (.int .i64 (rd n d)) ∧ w = w' := by
  go_enter Tryz.func192, Tryz.ntmps192
  go_wp2
  all_goals go_ret
  all_goals exact ⟨ret_int rfl, rfl⟩
theorem refRound_any (n d : Int) (w : World) (hn : 0 ≤ n) (hn' : n ≤ 9007199254740992) (hd : 0 < d) (hd' : d ≤ 9007199254740992) :
    Calls Tryz.prog 143 #[.int .i64 n, .int .i64 d] w fun e w' => e = .returned (.int .i64 (rd n d)) ∧ w = w' := by
  go_enter Tryz.func143, Tryz.ntmps143
  go_wp2
  all_goals go_ret
  all_goals exact ⟨ret_int rfl, rfl⟩
end Go.Proofs.YtfncldaodbfakaaGreat

namespace Go.Proofs.YtfncldaodbfakaaGreat
open Go.RowKit

structure St (W : World) (L : List (Nat × Obj)) (w : World) : Prop where
  below : Below W.heap.size W w
  rows : ∀ x ∈ L, w.heap[x.1]? = some x.2
variable {W w w' : World} {L : List (Nat × Obj)}
theorem St.start (w : World) : St w [] w := ⟨Below.refl _ _, by intro x hx; cases hx⟩
theorem St.later (h : St W L w) (hb : Below w.heap.size w w') : St W L w' :=
  ⟨h.below.trans (hb.mono h.below.size), fun x hx => by
    have h1 := h.rows x hx
    rw [hb.block x.1 (Array.getElem?_eq_some_iff.1 h1).1]; exact h1⟩
theorem St.drew (h : St W L w) : St W L w.drew := h.later (Below.refl _ w).drew
theorem St.drewN (h : St W L w) (n : Nat) : St W L (w.drewN n) := h.later ⟨rfl, rfl, rfl, Nat.le_refl _, fun _ _ => rfl⟩
theorem St.call {P : Program} {f : FuncId} {args : Array Value} {v : Value} (h : St W L w) (hc : Calls P f args w fun e w' => e = .returned v ∧ Below w.heap.size w w') :
    Calls P f args w fun e w' => e = .returned v ∧ St W L w' := hc.mono fun _ _ ⟨h1, h2⟩ => ⟨h1, h.later h2⟩
theorem St.call2 {P : Program} {f : FuncId} {args : Array Value} {v : Value} (h : St W L w) (hc : Calls P f args w fun e w' => e = .returned v ∧ Below w.heap.size w w') :
    Calls P f args w fun e w' => e = .returned v ∧ St W L w' ∧ Below w.heap.size w w' := hc.mono fun _ _ ⟨h1, h2⟩ => ⟨h1, h.later h2, h2⟩
theorem St.alloc (h : St W L w) (o : Obj) : St W ((w.heap.size, o) :: L) (w.alloc o) := by
  have h2 := h.later (below1 (o := o))
  refine ⟨h2.below, fun x hx => ?_⟩
  rcases List.mem_cons.1 hx with rfl | hx
  · show (w.heap.push o)[w.heap.size]? = some o
    simp
  · exact h2.rows x hx
theorem St.row (h : St W L w) {b : Nat} {o : Obj} (hm : (b, o) ∈ L) : w.heap[b]? = some o := h.rows _ hm
theorem St.cell (h : St W L w) {b : Nat} {cs : Array Value} {t : TypeId} (hm : (b, .cells cs t) ∈ L) (j : Nat) : w.cell? ⟨b, j, none⟩ = cs[j]? := cell_of_row _ _ _ _ _ _ (h.row hm)
theorem St.frozen (h : St W L w) {b : Nat} {cs : Array Value} {t : TypeId} (hm : (b, .cells cs t) ∈ L) (j : Nat) : w.frozen? ⟨b, j, none⟩ = false := frozen_of_row _ _ _ _ _ (h.row hm)
theorem St.lt (h : St W L w) {b : Nat} {o : Obj} (hm : (b, o) ∈ L) : b < w.heap.size := (Array.getElem?_eq_some_iff.1 (h.row hm)).1
theorem St.sub (h : St W L w) {L' : List (Nat × Obj)} (hs : ∀ x ∈ L', x ∈ L) : St W L' w := ⟨h.below, fun x hx => h.rows x (hs x hx)⟩

theorem St.set (h : St W L w) {b j : Nat} {v : Value} (hb : W.heap.size ≤ b) (hL : ∀ x ∈ L, x.1 ≠ b) : St W L (w.setCell ⟨b, j, none⟩ v) :=
  ⟨h.below.setCell (p := ⟨b, j, none⟩) hb _, fun x hx => by
    have h1 := h.rows x hx
    rw [← h1]
    exact Below.heap_setCell _ _ _ _ (hL x hx)⟩
/-- a pixel as a value, and in memory -/
abbrev pv (r g b a : Int) : Value := .agg #[.int .u8 r, .int .u8 g, .int .u8 b, .int .u8 a]
abbrev po (r g b a : Int) : Obj := .cells #[.int .u8 r, .int .u8 g, .int .u8 b, .int .u8 a] 36
/-- the four cells of a pixel in memory -/
abbrev RB (w : World) (b : Nat) (x0 x1 x2 x3 : Int) : Prop :=
  w.cell? ⟨b, 0, none⟩ = some (.int .u8 x0) ∧ w.cell? ⟨b, 1, none⟩ = some (.int .u8 x1) ∧ w.cell? ⟨b, 2, none⟩ = some (.int .u8 x2) ∧ w.cell? ⟨b, 3, none⟩ = some (.int .u8 x3)
theorem St.pix (h : St W L w) {b : Nat} {x0 x1 x2 x3 : Int} (hm : (b, po x0 x1 x2 x3) ∈ L) : RB w b x0 x1 x2 x3 :=
  ⟨h.cell hm 0, h.cell hm 1, h.cell hm 2, h.cell hm 3⟩
/-- one variable of one's own -/
abbrev vo (x : Value) (t : TypeId) : Obj := .cells #[x] t
theorem St.var (h : St W L w) {b : Nat} {x : Value} {t : TypeId} (hm : (b, vo x t) ∈ L) : w.cell? ⟨b, 0, none⟩ = some x := h.cell hm 0
theorem cell_alloc (w : World) (x : Value) (t : TypeId) : (w.alloc (vo x t)).cell? ⟨w.heap.size, 0, none⟩ = some x := ((St.start w).alloc (vo x t)).var (b := w.heap.size) (x := x) (t := t) (by simp)
end Go.Proofs.YtfncldaodbfakaaGreat

namespace Go.Proofs.YtfncldaodbfakaaGreat
open Go.RowKit

def scr (b s : Int) : Int := b + s - pr b s
def hrd (b s : Int) : Int := if s < 128 then pr b (2 * s) else scr b (2 * s - 255)
def dod (b s : Int) : Int := if b = 0 then 0 else if s = 255 then 255 else min 255 (255 * b / (255 - s))
def brn (b s : Int) : Int := if b = 255 then 255 else if s = 0 then 0 else 255 - min 255 (255 * (255 - b) / s)
def sft (b s : Int) : Int := min 255 (pr (255 - b) (pr b s) + pr b (scr b s))
def dst (x y : Int) : Int := if x < y then y - x else x - y
def exc (b s : Int) : Int := max 0 (b + s - 2 * pr b s)
def bl (m b s : Int) : Int :=
  if m = 1 then pr b s else if m = 2 then scr b s else if m = 3 then hrd s b else if m = 4 then min b s else if m = 5 then max b s
  else if m = 6 then dod b s else if m = 7 then brn b s else if m = 8 then hrd b s else if m = 9 then sft b s else if m = 10 then dst b s
  else if m = 11 then exc b s else if m = 12 then min 255 (b + s) else if m = 13 then max 0 (b - s) else if m = 14 then rd (b + s) 2
  else if m = 15 then 255 - dst 255 (b + s) else s

theorem pr_facts {a b : Int} (ha : Ch a) (hb : Ch b) : 0 ≤ a * b ∧ a * b ≤ 255 * a ∧ a * b ≤ 255 * b ∧ 255 * a + 255 * b - 65025 ≤ a * b := by
  have h1 := Int.mul_nonneg ha.1 hb.1
  have h2 := Int.mul_nonneg ha.1 (show 0 ≤ 255 - b by omega)
  have h3 := Int.mul_nonneg (show 0 ≤ 255 - a by omega) hb.1
  have h4 := Int.mul_nonneg (show 0 ≤ 255 - a by omega) (show 0 ≤ 255 - b by omega)
  rw [Int.mul_sub] at h2 h4
  rw [Int.sub_mul] at h3 h4
  rw [Int.sub_mul] at h4
  omega
theorem pr_le {a b : Int} (ha : Ch a) (hb : Ch b) : 0 ≤ pr a b ∧ pr a b ≤ a ∧ pr a b ≤ b ∧ a + b - 255 ≤ pr a b := by
  have := pr_facts ha hb; unfold pr rd; generalize a * b = x at *; omega
theorem scr_ch {a b : Int} (ha : Ch a) (hb : Ch b) : Ch (scr a b) := by have := pr_le ha hb; unfold scr; constructor <;> omega
theorem hrd_ch {a b : Int} (ha : Ch a) (hb : Ch b) : Ch (hrd a b) := by
  unfold hrd; split
  · exact pr_ch ha ⟨by omega, by omega⟩
  · exact scr_ch ha ⟨by omega, by omega⟩
theorem div_nn {x y : Int} (hx : 0 ≤ x) (hy : 0 ≤ y) : 0 ≤ x / y := Int.ediv_nonneg hx hy
theorem dod_ch {a b : Int} (ha : Ch a) (hb : Ch b) : Ch (dod a b) := by
  have h := div_nn (show 0 ≤ 255 * a by omega) (show 0 ≤ 255 - b by omega)
  unfold dod; generalize 255 * a / (255 - b) = q at *; constructor <;> (split <;> (try split)) <;> omega
theorem brn_ch {a b : Int} (ha : Ch a) (hb : Ch b) : Ch (brn a b) := by
  have h := div_nn (show 0 ≤ 255 * (255 - a) by omega) hb.1
  unfold brn; generalize 255 * (255 - a) / b = q at *; constructor <;> (split <;> (try split)) <;> omega
theorem sft_ch {a b : Int} (ha : Ch a) (hb : Ch b) : Ch (sft a b) := by
  have h1 := pr_ch (a := 255 - a) (b := pr a b) ⟨by omega, by omega⟩ (pr_ch ha hb)
  have h2 := pr_ch ha (scr_ch ha hb)
  unfold sft; constructor <;> omega
theorem dst_ch {a b : Int} (ha : Ch a) (hb : Ch b) : Ch (dst a b) := by unfold dst; constructor <;> split <;> omega
theorem exc_ch {a b : Int} (ha : Ch a) (hb : Ch b) : Ch (exc a b) := by have := pr_le ha hb; unfold exc; constructor <;> omega
theorem bl_ch (m : Int) {a b : Int} (ha : Ch a) (hb : Ch b) : Ch (bl m a b) := by
  unfold bl
  by_cases h1 : m = 1; · rw [if_pos h1]; exact pr_ch ha hb
  rw [if_neg h1]
  by_cases h2 : m = 2; · rw [if_pos h2]; exact scr_ch ha hb
  rw [if_neg h2]
  by_cases h3 : m = 3; · rw [if_pos h3]; exact hrd_ch hb ha
  rw [if_neg h3]
  by_cases h4 : m = 4; · rw [if_pos h4]; constructor <;> omega
  rw [if_neg h4]
  by_cases h5 : m = 5; · rw [if_pos h5]; constructor <;> omega
  rw [if_neg h5]
  by_cases h6 : m = 6; · rw [if_pos h6]; exact dod_ch ha hb
  rw [if_neg h6]
  by_cases h7 : m = 7; · rw [if_pos h7]; exact brn_ch ha hb
  rw [if_neg h7]
  by_cases h8 : m = 8; · rw [if_pos h8]; exact hrd_ch ha hb
  rw [if_neg h8]
  by_cases h9 : m = 9; · rw [if_pos h9]; exact sft_ch ha hb
  rw [if_neg h9]
  by_cases h10 : m = 10; · rw [if_pos h10]; exact dst_ch ha hb
  rw [if_neg h10]
  by_cases h11 : m = 11; · rw [if_pos h11]; exact exc_ch ha hb
  rw [if_neg h11]
  by_cases h12 : m = 12; · rw [if_pos h12]; constructor <;> omega
  rw [if_neg h12]
  by_cases h13 : m = 13; · rw [if_pos h13]; constructor <;> omega
  rw [if_neg h13]
  by_cases h14 : m = 14; · rw [if_pos h14]; unfold rd; constructor <;> omega
  rw [if_neg h14]
  by_cases h15 : m = 15; · rw [if_pos h15]; unfold dst; constructor <;> split <;> omega
  rw [if_neg h15]; exact hb

theorem dst_sub (b s : Int) : dst (b - s) 0 = dst b s := by unfold dst; split <;> split <;> omega
theorem dst_255 (b s : Int) : dst (255 - b - s) 0 = dst 255 (b + s) := by unfold dst; split <;> split <;> omega
end Go.Proofs.YtfncldaodbfakaaGreat

namespace Go.Proofs.YtfncldaodbfakaaGreat
open Go.RowKit

/-- whatever lay is as it was, but the blocks of M -/
structure Kept (M : Nat → Prop) (W W' : World) : Prop where
  os : W'.os = W.os
  tape : W'.tape = W.tape
  output : W'.output = W.output
  size : W.heap.size ≤ W'.heap.size
  block : ∀ k, k < W.heap.size → ¬ M k → W'.heap[k]? = W.heap[k]?
variable {M : Nat → Prop} {A B C W W' w : World}
theorem Kept.refl (M : Nat → Prop) (W : World) : Kept M W W := ⟨rfl, rfl, rfl, Nat.le_refl _, fun _ _ _ => rfl⟩
theorem Kept.trans (h : Kept M A B) (k : Kept M B C) : Kept M A C :=
  ⟨k.os.trans h.os, k.tape.trans h.tape, k.output.trans h.output, Nat.le_trans h.size k.size, fun i hi hm => (k.block i (Nat.lt_of_lt_of_le hi h.size) hm).trans (h.block i hi hm)⟩
theorem Kept.of_below (h : Below W.heap.size W W') : Kept M W W' := ⟨h.os, h.tape, h.output, h.size, fun k hk _ => h.block k hk⟩
theorem Kept.setCell (h : Kept M W W') {p : Addr} (hp : M p.block) (u : Value) : Kept M W (W'.setCell p u) :=
  h.trans ⟨rfl, rfl, rfl, by simp [World.setCell], fun k _ hm => Below.heap_setCell _ _ _ _ (fun e => hm (by rw [e]; exact hp))⟩
theorem Kept.of_grown {row : Option Nat} (hg : W.grownBy W' row) (hr : ∀ k, row = some k → M k) : Kept M W W' :=
  ⟨hg.os, hg.tape, hg.output, hg.size, fun k hk hm => hg.block k hk (fun e => hm (hr k e.symm))⟩
theorem Kept.below (h : Kept M W W') {n : Nat} (hn : n ≤ W.heap.size) (hm : ∀ k, k < n → ¬ M k) : Below n W W' := ⟨h.os, h.tape, h.output, h.size, fun k hk => h.block k (by omega) (hm k hk)⟩
theorem Kept.row (h : Kept M W W') {k : Nat} {o : Obj} (hk : W.heap[k]? = some o) (hm : ¬ M k) : W'.heap[k]? = some o := (h.block k (Array.getElem?_eq_some_iff.1 hk).1 hm).trans hk
/-- what J says hangs on the blocks below n alone -/
def Abd {β : Type} (n : Nat) (J : β → World → Prop) : Prop := ∀ s A B, J s A → Below n A B → J s B
theorem below_putObj {n l : Nat} (o : Obj) (hl : n ≤ l) : Below n W (W.putObj l o) := ⟨rfl, rfl, rfl, by simp [World.putObj], fun k hk => World.putObj_heap_other (by omega)⟩

/-- every x of xs comes, in order, whatever the body does to the blocks of M -/
def SeqAll {α : Type} (P : Program) (g : Nat) (lb : Array Value) (encs : α → Array Value) (M : Nat → Prop) (xs : List α) (w : World) : Prop :=
  ∀ (l : Nat) (J : List α → World → Prop) (W : World), Below w.heap.size w W → (∀ k, M k → k < W.heap.size) → Abd W.heap.size J →
    (∀ pre x W1 m, J pre W1 → (pre ++ [x]) <+: xs → YieldAt Fence.wide m P l (encs x) W1 fun e W' => e = .returned (.bool true) ∧ J (pre ++ [x]) W' ∧ Kept M W1 W') →
    J [] W → Calls P g (#[.func (.yield l) #[] #[]] ++ lb) W fun e W' => (∃ v, e = .returned v) ∧ J xs W' ∧ Kept M W W'

theorem round_any {m m' : Nat} {P : Program} {l : Nat} {f : FuncId} {tmps : Array Value} {assign body : Code} {w : World} {R : Ending → World → Prop}
    (h : RoundIn Fence.wide m P l f tmps assign body w R) : RoundIn Fence.wide m' P l f tmps assign body w R := ⟨h.1, fun c cs _ => h.2 c cs (fun d hd => by cases hd)⟩

/-- where the body's walk ends -/
def roundEnd {α : Type} (M : Nat → Prop) (I : List α → World → Prop) (xs : List α) (W : World) : Exit → Act → World → Prop
  | .normal, _, W' => Kept M W W' ∧ I xs W'
  | _, _, _ => False

theorem range_all {α : Type} {P : Program} {n : Nat} {g : Operand} {ps : Array Tmp} {assign body : Code} {Q : Exit → Act → World → Prop} {a : Act} {w : World} {gf : Nat} {lb : Array Value}
    (hg : a.eval g = .func (.func gf) #[] lb) (eg : ∀ args w, (callFunc gf args).run P w = .ok (.enter gf args) w) {encs : α → Array Value} {M : Nat → Prop} {xs : List α} {w0 : World}
    (hseq : SeqAll P gf lb encs M xs w0) (hb0 : Below w0.heap.size w0 w) (hM : ∀ k, M k → k < w.heap.size) (hps : ∀ x, (encs x).size = ps.size)
    (I : List α → World → Prop) (hI : Abd w.heap.size I) (h0 : I [] w) (a₁ : α → Act)
    (hassign : ∀ (l : Nat) (x : α) (W : World) (K : Act → World → Prop), K (a₁ x) W →
      assign.wpIn (Fence.wide.inRound l) n P (Exit.then K (fun _ _ _ => False)) { tmps := (ps.zip (encs x)).foldl (fun t (p, v) => t.setIfInBounds p v) a.tmps, defers := [] } W)
    (hbody : ∀ (l : Nat) (pre : List α) (x : α) (W : World), I pre W → (pre ++ [x]) <+: xs → w.heap.size ≤ W.heap.size → body.wpIn (Fence.wide.inRound l) n P (roundEnd M I (pre ++ [x]) W) (a₁ x) W)
    (hdone : ∀ (D : Nat) (W : World), w.heap.size ≤ D → I xs W → W.heap[D]? = some (.deferred (some [])) → Kept M w W → Q .normal { a with defers := { target := .collected D, args := #[] } :: a.defers } W) :
    (Code.rangeFunc g ps assign body).wpIn Fence.wide n P Q a w := by
  refine wpIn_rangeFunc (fun fn hfn => ?_)
  let rec₀ : LoopState → Loop := fun st => { state := st, pending := none, fn, tmps := a.tmps, params := ps, assign, body, defers := w.heap.size }
  obtain ⟨W1, hW1⟩ : ∃ W1, (w.alloc (.deferred (some []))).alloc (.loop (rec₀ .ready)) = W1 := ⟨_, rfl⟩
  have hz : W1.heap.size = w.heap.size + 1 + 1 := by rw [← hW1]; simp
  have hB1 : Below w.heap.size w W1 := by rw [← hW1]; exact below1.alloc (by simp) _
  have hL : W1.heap[w.heap.size + 1]? = some (.loop (rec₀ .ready)) := by
    rw [← hW1]; have := World.alloc_heap_new (w.alloc (.deferred (some []))) (.loop (rec₀ .ready)); rwa [World.size_alloc] at this
  have hD : W1.heap[w.heap.size]? = some (.deferred (some [])) := by
    rw [← hW1]; exact (Below.heap_alloc _ _ _ (by simp)).trans (World.alloc_heap_new w _)
  refine ⟨w.heap.size + 1, [{ target := .collected w.heap.size, args := #[] }], W1, { target := .fn (.func gf) lb, args := #[.func (.yield (w.heap.size + 1)) #[] #[]] }, W1, gf,
    #[.func (.yield (w.heap.size + 1)) #[] #[]] ++ lb, W1, by rw [← hW1]; exact run_enterLoop_outer _ _ _ _ _, by simp only [resolve, hg]; simp [go_sem], fun _ _ => trivial, (by simp [invoke, go_sem, eg]), (fun h => by cases h), ?_⟩
  -- what is carried through the rounds: the body's own word, the loop's record and its block for deferred calls
  have key := hseq (w.heap.size + 1) (fun pre W => I pre W ∧ (w.heap.size ≤ W.heap.size ∧ W.heap[w.heap.size + 1]? = some (.loop (rec₀ .ready))) ∧ W.heap[w.heap.size]? = some (.deferred (some []))) W1
    (hb0.trans (hB1.mono hb0.size)) (fun k hk => by have := hM k hk; omega)
    (fun s X Y ⟨h1, ⟨h4, h2⟩, h3⟩ hb => ⟨hI s X Y h1 (hb.mono (by omega)), ⟨Nat.le_trans h4 hb.size, (hb.block _ (by omega)).trans h2⟩, (hb.block _ (by omega)).trans h3⟩) ?_ ⟨hI _ _ _ h0 hB1, ⟨by omega, hL⟩, hD⟩
  · refine callsIn_wide.2 (key.mono ?_)
    rintro e W2 ⟨⟨v, rfl⟩, ⟨hi, ⟨_, hl⟩, hd⟩, hk⟩
    refine ⟨none, _, run_endLoop hl (by simp [rec₀]), ?_⟩
    refine hdone _ _ (Nat.le_refl _) (hI _ _ _ hi (below_putObj _ (by omega))) ((World.putObj_heap_other (by omega)).trans hd) ?_
    have hk2 : Kept M w W2 := (Kept.of_below hB1).trans hk
    exact ⟨hk2.os, hk2.tape, hk2.output, by simpa [World.putObj] using hk2.size, fun k hk3 hm => (World.putObj_heap_other (by omega)).trans (hk2.block k hk3 hm)⟩
  · rintro pre x W m ⟨hi, ⟨hle, hl⟩, hd⟩ hpre
    have hlt : w.heap.size + 1 < W.heap.size := (Array.getElem?_eq_some_iff.1 hl).1
    refine ⟨fn, _, assign, body, run_yield hl (by simpa [rec₀] using hps x), round_any (roundIn_of_wpIn (n := n) hfn (hassign _ x W _ ⟨_, run_beginRound hl rfl, ?_⟩))⟩
    have hl2 : (W.putObj (w.heap.size + 1) (.loop (rec₀ .busy))).heap[w.heap.size + 1]? = some (.loop (rec₀ .busy)) := World.putObj_heap_same hlt
    have hz2 : (W.putObj (w.heap.size + 1) (.loop (rec₀ .busy))).heap.size = W.heap.size := by simp [World.putObj]
    refine wpIn_mono (hbody _ pre x (W.putObj (w.heap.size + 1) (.loop (rec₀ .busy))) (hI _ _ _ hi (below_putObj _ (by omega))) hpre (by omega)) ?_
    rintro e a3 W3 hp
    cases e with
    | normal =>
      obtain ⟨hk3, hi3⟩ := hp
      have hnm : ∀ k, w.heap.size ≤ k → ¬ M k := fun k hk hm => by have := hM k hm; omega
      have hl3 : W3.heap[w.heap.size + 1]? = some (.loop (rec₀ .busy)) := hk3.row hl2 (hnm _ (by omega))
      have hd3 : W3.heap[w.heap.size]? = some (.deferred (some [])) := hk3.row ((World.putObj_heap_other (by omega)).trans hd) (hnm _ (by omega))
      have hz3 := hk3.size
      refine ⟨_, _, run_endRound none hl3, rfl, ⟨hI _ _ _ hi3 (below_putObj _ (by omega)), ⟨by simp [World.putObj]; omega, World.putObj_heap_same (Array.getElem?_eq_some_iff.1 hl3).1⟩, (World.putObj_heap_other (by omega)).trans hd3⟩, ?_⟩
      refine ⟨hk3.os, hk3.tape, hk3.output, by simp [World.putObj]; omega, fun k hk hm => ?_⟩
      by_cases he : k = w.heap.size + 1
      · subst he
        rw [hl]
        exact World.putObj_heap_same (Array.getElem?_eq_some_iff.1 hl3).1
      · exact (World.putObj_heap_other he).trans ((hk3.block k (by omega) hm).trans (World.putObj_heap_other he))
    | ret => exact hp.elim
    | exit id => exact hp.elim
    | goto t => exact hp.elim
    | panic ch => exact hp.elim
    | outgrown => exact hp.elim
end Go.Proofs.YtfncldaodbfakaaGreat

namespace Go.Proofs.YtfncldaodbfakaaGreat
open Go.RowKit

structure Px where
  (r g b a : Int)
abbrev Px.v (p : Px) : Value := pv p.r p.g p.b p.a
abbrev Px.o (p : Px) : Obj := po p.r p.g p.b p.a
def Pc (p : Px) : Prop := Ch p.r ∧ Ch p.g ∧ Ch p.b ∧ Ch p.a
abbrev zp : Px := ⟨0, 0, 0, 0⟩
def cln (p : Px) : Px := if p.a = 0 then zp else p
def fad (p : Px) (c : Int) : Px := cln ⟨p.r, p.g, p.b, mul p.a c⟩
theorem mul_ch (a b : Int) : Ch (mul a b) := pr_ch (cl_ch a) (cl_ch b)
theorem cln_pc {p : Px} (h : Pc p) : Pc (cln p) := by unfold cln; split <;> first | exact h | exact ⟨⟨by decide, by decide⟩, ⟨by decide, by decide⟩, ⟨by decide, by decide⟩, ⟨by decide, by decide⟩⟩
theorem ret_v {a b : Value} (h : a = b) : Ending.returned a = .returned b := by rw [h]

theorem below_set4 {n b : Nat} {w w' : World} (h : Below n w w') (hb : n ≤ b) (x0 x1 x2 x3 : Value) :
    Below n w ((((w'.setCell ⟨b, 0, none⟩ x0).setCell ⟨b, 1, none⟩ x1).setCell ⟨b, 2, none⟩ x2).setCell ⟨b, 3, none⟩ x3) :=
  (((h.setCell (p := ⟨b, 0, none⟩) hb _).setCell (p := ⟨b, 1, none⟩) hb _).setCell (p := ⟨b, 2, none⟩) hb _).setCell (p := ⟨b, 3, none⟩) hb _

set_option maxHeartbeats 1000000 in
theorem clean_any (r g b a : Int) (w : World) : Calls Tryz.prog 131 #[pv r g b a] w fun e w' => e = .returned (cln ⟨r, g, b, a⟩).v ∧ Below w.heap.size w w' := by
  go_enter Tryz.func131, Tryz.ntmps131
  go_wp2
  all_goals exact bodyPost_ret (v := (cln ⟨r, g, b, a⟩).v) (by simp_all [results, Tryz.results131, go_sem, cln]) rfl ⟨rfl, below1.alloc (by simp) _⟩
set_option maxHeartbeats 1000000 in
theorem refClean_any (r g b a : Int) (w : World) : Calls Tryz.prog 88 #[pv r g b a] w fun e w' => e = .returned (cln ⟨r, g, b, a⟩).v ∧ Below w.heap.size w w' := by
  go_enter Tryz.func88, Tryz.ntmps88
  go_wp2
  all_goals exact bodyPost_ret (v := (cln ⟨r, g, b, a⟩).v) (by simp_all [results, Tryz.results88, go_sem, cln]) rfl ⟨rfl, below1.alloc (by simp) _⟩
theorem w64 {x : Int} (h : Ch x) : IntKind.i64.wrap x = x := IntWalk.i64_in _ ⟨by omega, by omega⟩
theorem w8 {x : Int} (h : Ch x) : IntKind.u8.wrap x = x := by show x % 256 = x; omega
end Go.Proofs.YtfncldaodbfakaaGreat

namespace Go.Proofs.YtfncldaodbfakaaGreat
open Go.RowKit

variable {W w w' : World} {L : List (Nat × Obj)}
theorem row_setCell {b : Nat} {cs : Array Value} {t : TypeId} (h : w.heap[b]? = some (.cells cs t)) (j : Nat) (v : Value) : (w.setCell ⟨b, j, none⟩ v).heap[b]? = some (.cells (cs.setIfInBounds j v) t) := by
  have hb := (Array.getElem?_eq_some_iff.1 h).1
  have h' : w.heap[b] = .cells cs t := by simpa [Array.getElem?_eq_getElem hb] using h
  simp [World.setCell, h', hb, Array.getElem_modify]
theorem St.put {b : Nat} {cs : Array Value} {t : TypeId} {j : Nat} {v : Value} (h : St W ((b, .cells cs t) :: L) w) (hb : W.heap.size ≤ b) (hL : ∀ x ∈ L, x.1 ≠ b) : St W ((b, .cells (cs.setIfInBounds j v) t) :: L) (w.setCell ⟨b, j, none⟩ v) := by
  have h1 := row_setCell (h.row (b := b) (o := .cells cs t) (by simp)) j v
  have h2 : St W L (w.setCell ⟨b, j, none⟩ v) := (h.sub (L' := L) (fun x hx => by simp [hx])).set hb hL
  exact ⟨h2.below, fun x hx => by
    rcases List.mem_cons.1 hx with rfl | hx
    · exact h1
    · exact h2.rows x hx⟩
theorem nn {a b A B : Int} (ha : 0 ≤ a ∧ a ≤ A) (hb : 0 ≤ b ∧ b ≤ B) : 0 ≤ a * b ∧ a * b ≤ A * B :=
  ⟨Int.mul_nonneg ha.1 hb.1, Int.mul_le_mul ha.2 hb.2 hb.1 (Int.le_trans ha.1 ha.2)⟩
/-- an int that is small enough for what follows -/
abbrev Md (x : Int) : Prop := 0 ≤ x ∧ x ≤ 4503599627370496
theorem w64m {x : Int} (h : Md x) : IntKind.i64.wrap x = x := IntWalk.i64_in _ ⟨by omega, by omega⟩
theorem rd_between {n d lo hi : Int} (hd : 0 < d) (h1 : lo * d ≤ n) (h2 : n ≤ hi * d) : lo ≤ rd n d ∧ rd n d ≤ hi := by
  unfold rd
  constructor
  · refine Int.le_ediv_of_mul_le (by omega) ?_
    rw [show lo * (2 * d) = 2 * (lo * d) by rw [Int.mul_left_comm]]; omega
  · refine Int.lt_add_one_iff.1 (Int.ediv_lt_of_lt_mul (by omega) ?_)
    rw [Int.add_mul, show hi * (2 * d) = 2 * (hi * d) by rw [Int.mul_left_comm]]; omega
theorem wsum {x y z s t b lo hi : Int} (hx : 0 ≤ x) (hy : 0 ≤ y) (hz : 0 ≤ z) (hs : lo ≤ s ∧ s ≤ hi) (ht : lo ≤ t ∧ t ≤ hi) (hb : lo ≤ b ∧ b ≤ hi) :
    lo * (x + y + z) ≤ x * s + y * t + z * b ∧ x * s + y * t + z * b ≤ hi * (x + y + z) := by
  have a1 := Int.mul_le_mul_of_nonneg_left hs.1 hx
  have a2 := Int.mul_le_mul_of_nonneg_left hs.2 hx
  have b1 := Int.mul_le_mul_of_nonneg_left ht.1 hy
  have b2 := Int.mul_le_mul_of_nonneg_left ht.2 hy
  have c1 := Int.mul_le_mul_of_nonneg_left hb.1 hz
  have c2 := Int.mul_le_mul_of_nonneg_left hb.2 hz
  rw [Int.mul_add, Int.mul_add, Int.mul_add, Int.mul_add, Int.mul_comm lo x, Int.mul_comm lo y, Int.mul_comm lo z, Int.mul_comm hi x, Int.mul_comm hi y, Int.mul_comm hi z]
  omega
/-- the weight of Over, and the sum of a channel -/
def wgt (u v : Int) : Int := 255 * u + 255 * v - u * v
def osum (m u v b s : Int) : Int := u * (255 - v) * s + u * v * bl m b s + (255 - u) * v * b
def och (m u v b s : Int) : Int := rd (osum m u v b s) (wgt u v)
theorem wgt_parts (u v : Int) : wgt u v = u * (255 - v) + u * v + (255 - u) * v := by
  unfold wgt; rw [Int.mul_sub, Int.sub_mul]; omega
theorem wgt_md {u v : Int} (hu : Ch u) (hv : Ch v) : 0 ≤ wgt u v ∧ wgt u v ≤ 130050 := by
  have h := sq_ch hu hv
  have h1 := nn (A := 255) (B := 255) hu (b := 255 - v) ⟨by omega, by omega⟩
  have h2 := nn (A := 255) (B := 255) (a := 255 - u) ⟨by omega, by omega⟩ hv
  constructor
  · rw [wgt_parts]; omega
  · unfold wgt; omega
theorem osum_md (m : Int) {u v b s : Int} (hu : Ch u) (hv : Ch v) (hb : Ch b) (hs : Ch s) : 0 ≤ osum m u v b s ∧ osum m u v b s ≤ 255 * wgt u v := by
  have h := sq_ch hu hv
  have h1 := nn (A := 255) (B := 255) hu (b := 255 - v) ⟨by omega, by omega⟩
  have h2 := nn (A := 255) (B := 255) (a := 255 - u) ⟨by omega, by omega⟩ hv
  have := wsum (lo := 0) (hi := 255) h1.1 h.1 h2.1 hs (bl_ch m hb hs) hb
  rw [Int.zero_mul] at this
  rw [wgt_parts]; exact this
theorem och_ch (m : Int) {u v b s : Int} (hu : Ch u) (hv : Ch v) (hw : 0 < wgt u v) (hb : Ch b) (hs : Ch s) : Ch (och m u v b s) := by
  have h := osum_md m hu hv hb hs
  exact rd_between hw (by rw [Int.zero_mul]; exact h.1) h.2
theorem walp_ch {u v : Int} (hu : Ch u) (hv : Ch v) : Ch (rd (wgt u v) 255) := by
  have h := wgt_md hu hv
  have h1 := nn (A := 255) (B := 255) (a := 255 - u) (b := 255 - v) ⟨by omega, by omega⟩ ⟨by omega, by omega⟩
  rw [Int.mul_sub, Int.sub_mul, Int.sub_mul] at h1
  refine rd_between (by decide) (by omega) ?_
  unfold wgt; omega
def ovr (p q : Px) (m c : Int) : Px :=
  if wgt (mul q.a c) p.a = 0 then zp else
  ⟨och m (mul q.a c) p.a p.r q.r, och m (mul q.a c) p.a p.g q.g, och m (mul q.a c) p.a p.b q.b, rd (wgt (mul q.a c) p.a) 255⟩
/-- what lies between the operations of a channel's sum -/
theorem osum_parts (m : Int) {u v b s : Int} (hu : Ch u) (hv : Ch v) (hb : Ch b) (hs : Ch s) :
    Md (255 - v) ∧ Md (u * (255 - v)) ∧ Md (u * (255 - v) * s) ∧ Md (u * v) ∧ Md (u * v * bl m b s) ∧ Md (u * (255 - v) * s + u * v * bl m b s) ∧ Md (255 - u) ∧ Md ((255 - u) * v) ∧ Md ((255 - u) * v * b) ∧ Md (osum m u v b s) := by
  have h := sq_ch hu hv
  have h1 := nn (A := 255) (B := 255) hu (b := 255 - v) ⟨by omega, by omega⟩
  have h2 := nn (A := 255) (B := 255) (a := 255 - u) ⟨by omega, by omega⟩ hv
  have h3 := nn h1 hs
  have h4 := nn h (bl_ch m hb hs)
  have h5 := nn h2 hb
  unfold osum
  refine ⟨?_, ?_, ?_, ?_, ?_, ?_, ?_, ?_, ?_, ?_⟩ <;> constructor <;> omega
/-- Mix -/
def mp (a t : Int) : Int := a * (255 - t)
def mq (a t : Int) : Int := a * t
def mch (P Q x y : Int) : Int := rd (P * x + Q * y) (P + Q)
def mxx (p q : Px) (t : Int) : Px :=
  if rd (mp p.a (cl t) + mq q.a (cl t)) 255 = 0 then zp else
  ⟨mch (mp p.a (cl t)) (mq q.a (cl t)) p.r q.r, mch (mp p.a (cl t)) (mq q.a (cl t)) p.g q.g, mch (mp p.a (cl t)) (mq q.a (cl t)) p.b q.b, rd (mp p.a (cl t) + mq q.a (cl t)) 255⟩
theorem mpq {a b t : Int} (ha : Ch a) (hb : Ch b) (ht : Ch t) : (0 ≤ mp a t ∧ mp a t ≤ 65025) ∧ (0 ≤ mq b t ∧ mq b t ≤ 65025) ∧ Ch (rd (mp a t + mq b t) 255) := by
  have h1 := nn (A := 255) (B := 255) ha (b := 255 - t) ⟨by omega, by omega⟩
  have h2 := nn (A := 255) (B := 255) hb ht
  have h3 := wsum (x := 255 - t) (y := t) (z := 0) (s := a) (t := b) (b := 0) (lo := 0) (hi := 255) (by omega) (by omega) (by omega) ha hb (by omega)
  unfold mp mq
  refine ⟨h1, h2, rd_between (by decide) (by omega) ?_⟩
  rw [Int.mul_comm (255 - t) a, Int.mul_comm t b] at h3
  omega
theorem msum_md {P Q x y : Int} (hP : 0 ≤ P ∧ P ≤ 65025) (hQ : 0 ≤ Q ∧ Q ≤ 65025) (hx : Ch x) (hy : Ch y) : Md (P * x) ∧ Md (Q * y) ∧ Md (P * x + Q * y) ∧ P * x + Q * y ≤ 255 * (P + Q) := by
  have h1 := nn hP hx
  have h2 := nn hQ hy
  have h3 := wsum (x := P) (y := Q) (z := 0) (s := x) (t := y) (b := 0) (lo := 0) (hi := 255) hP.1 hQ.1 (by omega) hx hy (by omega)
  refine ⟨?_, ?_, ?_, ?_⟩ <;> first | omega | (constructor <;> omega)
theorem mch_ch {P Q x y : Int} (hP : 0 ≤ P ∧ P ≤ 65025) (hQ : 0 ≤ Q ∧ Q ≤ 65025) (h : 0 < P + Q) (hx : Ch x) (hy : Ch y) : Ch (mch P Q x y) := by
  have h1 := msum_md hP hQ hx hy
  exact rd_between h (by rw [Int.zero_mul]; exact h1.2.2.1.1) h1.2.2.2
theorem rd_pos {n : Int} (h0 : 0 ≤ n) (h : rd n 255 ≠ 0) : 0 < n := by
  unfold rd at h
  by_cases hn : n = 0
  · subst hn; exact absurd (by decide) h
  · omega
end Go.Proofs.YtfncldaodbfakaaGreat
