/-
  The laws' sanity: the first image. The laws' sanity: the second image.
-/
import Derived.Test.YtbodmeiecdomfaaGreatWSan
import Derived.Great.BuildSlice
namespace Go.Proofs.YtbodmeiecdomfaaGreat.W
open Go.RowKit
set_option maxRecDepth 100000

variable {W w w' : World}
def dst6 (j : Nat) : Nat := match j with
  | 0 => 21
  | 1 => 22
  | 2 => 23
  | 3 => 24
  | 4 => 20
  | 5 => 25
  | 6 => 26
  | 7 => 5
  | _ => 6
def P6 (W : World) (fvv imm : Value) (x y : Int) (p : Px) (j : Nat) (v9 : Value) (w9 : World) : Prop := match j with
  | 0 => v9 = fvv
  | 1 => v9 = imm
  | 2 => v9 = R.rv x y (x + 1) (y + 1)
  | 3 => Two1 x y p v9 w9
  | 4 => Two1 x y p v9 w9
  | 5 => One1 x y p v9 w9
  | 6 => v9 = .int .i64 0
  | 7 => Box1 W v9 w9
  | _ => v9 = .int .i64 0
theorem P6_later {fvv imm : Value} {x y : Int} {p : Px} {j : Nat} {v : Value} (h : P6 W fvv imm x y p j v w) (hb : Below w.heap.size w w') : P6 W fvv imm x y p j v w' := by
  match j, h with
  | 0, h => exact h
  | 1, h => exact h
  | 2, h => exact h
  | 3, h => exact Two1.later h hb
  | 4, h => exact Two1.later h hb
  | 5, h => exact One1.later h hb
  | 6, h => exact h
  | 7, h => exact Box1.later h hb
  | (_ + 8), h => exact h
set_option maxHeartbeats 4000000 in
theorem reg6 {fvv imm : Value} {x y : Int} {p : Px} {b2 b4 : Nat} {W0 : World} {a0 : Act} {id m : Nat} {ro : Option Nat} {Q : Exit → Act → World → Prop} (hW : W0.drew = W) (hs : 70 ≤ a0.tmps.size)
    (e2 : a0.eval (.tmp 2) = .pointer (some ⟨b2, 0, none⟩)) (e4 : a0.eval (.tmp 4) = .pointer (some ⟨b4, 0, none⟩))
    (hm : ∀ V, Below W.heap.size W V → (Instr.loadAt 25 (.pointer (some ⟨b2, 0, none⟩))).run Tryz.prog V = .ok fvv V ∧ (Instr.loadAt 37 (.pointer (some ⟨b4, 0, none⟩))).run Tryz.prog V = .ok imm V)
    (hone : ∀ V, Calls Tryz.prog 14 #[.int .i64 0, .int .i64 0] V fun e w' => e = .returned (R.rv x y (x + 1) (y + 1)) ∧ Below V.heap.size V w')
    (happ : ∀ V, Below W.heap.size W V → Calls Tryz.prog 13 #[fvv, imm, R.rv x y (x + 1) (y + 1)] V fun e w' => ∃ v, e = .returned v ∧ Below V.heap.size V w' ∧ Two1 x y p v w')
    (hQ : ∀ k : Nat → Value, ∀ w, Fin1 W x y p (k 5) w → k 6 = .int .i64 0 → Below W.heap.size W w → Q .normal (puts a0 ([0, 1, 2, 3, 4, 5, 6, 7, 9].map fun j => (dst6 j, k (dst6 j)))) w) :
    (Code.region id #[{ dst := some 21, op := Op.load 25 (Operand.tmp 2), type := 25, pos := "law.go:23", after := #[], guard := none },
      { dst := some 22, op := Op.load 37 (Operand.tmp 4), type := 37, pos := "law.go:23", after := #[], guard := none },
      { dst := some 23, op := Op.call { callee := Callee.value (Operand.func 14), args := #[Operand.const (Value.int IntKind.i64 0), Operand.const (Value.int IntKind.i64 0)], argTypes := #[3, 3] }, type := 34, pos := "law.go:23", after := #[], guard := none },
      { dst := some 24, op := Op.call { callee := Callee.value (Operand.func 13), args := #[Operand.tmp 21, Operand.tmp 22, Operand.tmp 23], argTypes := #[25, 37, 34] }, type := 41, pos := "law.go:23", after := #[{ on := 0, ground := Ground.data }, { on := 1, ground := Ground.data }, { on := 2, ground := Ground.data }, { on := 2, ground := Ground.chain }], guard := none },
      { dst := some 20, op := Op.move (Operand.tmp 24), type := 41, pos := "law.go:23", after := #[{ on := 3, ground := Ground.data }], guard := none },
      { dst := some 25, op := Op.extract (Operand.tmp 20) 0, type := 37, pos := "law.go:23", after := #[{ on := 4, ground := Ground.data }], guard := none },
      { dst := some 26, op := Op.extract (Operand.tmp 20) 1, type := 40, pos := "law.go:23", after := #[{ on := 4, ground := Ground.data }, { on := 8, ground := Ground.gcOnly Departure.lateStores }], guard := none },
      { dst := some 5, op := Op.alloc 37, type := 0, pos := "law.go:23", after := #[], guard := none },
      { dst := none, op := Op.store 37 (Operand.tmp 5) (Operand.tmp 25), type := 0, pos := "law.go:23", after := #[{ on := 7, ground := Ground.data }, { on := 5, ground := Ground.data }, { on := 3, ground := Ground.chain }, { on := 0, ground := Ground.phase }, { on := 1, ground := Ground.phase }, { on := 2, ground := Ground.phase }, { on := 3, ground := Ground.phase }, { on := 4, ground := Ground.phase }, { on := 5, ground := Ground.phase }, { on := 6, ground := Ground.textOnly Departure.lateStores }, { on := 7, ground := Ground.phase }], guard := none },
      { dst := some 6, op := Op.assign (Operand.tmp 26), type := 40, pos := "law.go:23", after := #[{ on := 6, ground := Ground.data }, { on := 8, ground := Ground.chain }, { on := 0, ground := Ground.phase }, { on := 1, ground := Ground.phase }, { on := 2, ground := Ground.phase }, { on := 3, ground := Ground.phase }, { on := 4, ground := Ground.phase }, { on := 5, ground := Ground.phase }, { on := 6, ground := Ground.phase }, { on := 7, ground := Ground.phase }, { on := 8, ground := Ground.phase }], guard := none }] true).wpIn (FW ro) m Tryz.prog Q a0 W0 := by
  have hinj : ∀ i k, i < 10 → k < 10 → i ≠ 8 → k ≠ 8 → dst6 i = dst6 k → i = k := by
    have : ∀ i, i < 10 → ∀ k, k < 10 → i ≠ 8 → k ≠ 8 → dst6 i = dst6 k → i = k := by decide
    exact fun i k hi hk h1 h2 h3 => this i hi k hk h1 h2 h3
  have hz : ∀ i, i < 10 → i ≠ 8 → dst6 i < a0.tmps.size := by
    have : ∀ i, i < 10 → i ≠ 8 → dst6 i < 70 := by decide
    exact fun i h1 h2 => Nat.lt_of_lt_of_le (this i h1 h2) hs
  have nx := fun {listed : Array Bool} {a : Act} {w w' : World} {j : Nat} {v : Value} (h : Flw 10 8 7 dst6 (P6 W fvv imm x y p) (Fin1 W x y p) a0 W listed a w) (hj : j < 10) (hjs : j ≠ 8) (hu : listed.getD j true = false) (hb : Below w.heap.size w w') (hv : P6 W fvv imm x y p j v w') =>
    h.next hinj hz (fun i v w w' h hb => P6_later h hb) (fun v w w' h hb => h.later hb) ⟨by omega, by omega⟩ hj hjs hu hb hv
  refine wpIn_region_inv (Flw 10 8 7 dst6 (P6 W fvv imm x y p) (Fin1 W x y p) a0 W) (by kernel_rfl) (by kernel_rfl) (by kernel_rfl) ?_ ?_ ?_
  · have hno : ∀ j, j < 10 → (Array.replicate 10 false).getD j true = false := fun j hj => by
      rw [Array.getD_eq_getD_getElem?, Array.getElem?_replicate, if_pos hj]; rfl
    exact ⟨rfl, rfl, fun _ _ => rfl, fun j hj _ hl => absurd (hl.symm.trans (hno j hj)) (by decide), by rw [hW]; exact Below.refl _ _, fun hl => absurd (hl.symm.trans (hno 8 (by omega))) (by decide)⟩
  · intro listed a w i o hsz ho hun hdep h
    have hi : i < 10 := (Array.getElem?_eq_some_iff.1 ho).1
    have hb := h.mem
    rcases (by omega : i = 0 ∨ i = 1 ∨ i = 2 ∨ i = 3 ∨ i = 4 ∨ i = 5 ∨ i = 6 ∨ i = 7 ∨ i = 8 ∨ i = 9) with rfl | rfl | rfl | rfl | rfl | rfl | rfl | rfl | rfl | rfl
    · obtain rfl : { dst := some 21, op := Op.load 25 (Operand.tmp 2), type := 25, pos := "law.go:23", after := #[], guard := none } = o := Option.some.inj ho
      refine wpOp_of ho rfl ?_
      exact wp_load_of 25 (.tmp 2) _ rfl ((h.keep 2 (by decide)).trans e2) (hm w hb).1 (nx h (j := 0) (by omega) (by omega) hun (Below.refl _ _) rfl)
    · obtain rfl : { dst := some 22, op := Op.load 37 (Operand.tmp 4), type := 37, pos := "law.go:23", after := #[], guard := none } = o := Option.some.inj ho
      refine wpOp_of ho rfl ?_
      exact wp_load_of 37 (.tmp 4) _ rfl ((h.keep 4 (by decide)).trans e4) (hm w hb).2 (nx h (j := 1) (by omega) (by omega) hun (Below.refl _ _) rfl)
    · obtain rfl : { dst := some 23, op := Op.call { callee := Callee.value (Operand.func 14), args := #[Operand.const (Value.int IntKind.i64 0), Operand.const (Value.int IntKind.i64 0)], argTypes := #[3, 3] }, type := 34, pos := "law.go:23", after := #[], guard := none } = o := Option.some.inj ho
      refine wpOp_of ho rfl ?_
      exact wp_call2 (fid := 14) _ _ _ _ _ _ rfl rfl rfl (enters_of Tryz.func14 (by kernel_rfl) rfl) (hone w) (fun w4 h4 => (nx h (j := 2) (by omega) (by omega) hun h4 rfl))
    · obtain rfl : { dst := some 24, op := Op.call { callee := Callee.value (Operand.func 13), args := #[Operand.tmp 21, Operand.tmp 22, Operand.tmp 23], argTypes := #[25, 37, 34] }, type := 41, pos := "law.go:23", after := #[{ on := 0, ground := Ground.data }, { on := 1, ground := Ground.data }, { on := 2, ground := Ground.data }, { on := 2, ground := Ground.chain }], guard := none } = o := Option.some.inj ho
      refine wpOp_of ho rfl ?_
      have q0 := h.vals 0 (by omega) (by omega) (hdep { on := 0, ground := Ground.data } (by simp) rfl)
      replace q0 : a.eval (.tmp 21) = fvv := q0
      have q1 := h.vals 1 (by omega) (by omega) (hdep { on := 1, ground := Ground.data } (by simp) rfl)
      replace q1 : a.eval (.tmp 22) = imm := q1
      have q2 := h.vals 2 (by omega) (by omega) (hdep { on := 2, ground := Ground.data } (by simp) rfl)
      replace q2 : a.eval (.tmp 23) = R.rv x y (x + 1) (y + 1) := q2
      exact wp_call3 (fid := 13) (.tmp 21) (.tmp 22) (.tmp 23) _ _ _ _ _ _ rfl q0 q1 q2 (enters_of Tryz.func13 (by kernel_rfl) rfl) (happ w hb) (fun v4 w4 h4 => (nx h (j := 3) (by omega) (by omega) hun h4.1 h4.2))
    · obtain rfl : { dst := some 20, op := Op.move (Operand.tmp 24), type := 41, pos := "law.go:23", after := #[{ on := 3, ground := Ground.data }], guard := none } = o := Option.some.inj ho
      refine wpOp_of ho rfl ?_
      have q3 := h.vals 3 (by omega) (by omega) (hdep { on := 3, ground := Ground.data } (by simp) rfl)
      replace q3 : Two1 x y p (a.eval (.tmp 24)) w := q3
      exact wp_move (.tmp 24) rfl rfl (nx h (j := 4) (by omega) (by omega) hun (Below.refl _ _) q3)
    · obtain rfl : { dst := some 25, op := Op.extract (Operand.tmp 20) 0, type := 37, pos := "law.go:23", after := #[{ on := 4, ground := Ground.data }], guard := none } = o := Option.some.inj ho
      refine wpOp_of ho rfl ?_
      have q4 := h.vals 4 (by omega) (by omega) (hdep { on := 4, ground := Ground.data } (by simp) rfl)
      replace q4 : Two1 x y p (a.eval (.tmp 20)) w := q4
      obtain ⟨z, q4, hz4⟩ := q4
      exact wp_extract (.tmp 20) 0 rfl q4 (by omega) (nx h (j := 5) (by omega) (by omega) hun (Below.refl _ _) ⟨z, rfl, hz4⟩)
    · obtain rfl : { dst := some 26, op := Op.extract (Operand.tmp 20) 1, type := 40, pos := "law.go:23", after := #[{ on := 4, ground := Ground.data }, { on := 8, ground := Ground.gcOnly Departure.lateStores }], guard := none } = o := Option.some.inj ho
      refine wpOp_of ho rfl ?_
      have q4 := h.vals 4 (by omega) (by omega) (hdep { on := 4, ground := Ground.data } (by simp) rfl)
      replace q4 : Two1 x y p (a.eval (.tmp 20)) w := q4
      obtain ⟨z, q4, hz4⟩ := q4
      exact wp_extract (.tmp 20) 1 rfl q4 (by omega) (nx h (j := 6) (by omega) (by omega) hun (Below.refl _ _) rfl)
    · obtain rfl : { dst := some 5, op := Op.alloc 37, type := 0, pos := "law.go:23", after := #[], guard := none } = o := Option.some.inj ho
      refine wpOp_of ho rfl ?_
      exact wp_alloc_of 37 rfl (imv 0 0 0 0 (.slice none 0 0)) _ (by kernel_rfl) rfl (nx h (j := 7) (by omega) (by omega) hun below1 ⟨w.heap.size, 0, 0, 0, 0, _, rfl, hb.size, World.alloc_heap_new _ _⟩)
    · obtain rfl : { dst := none, op := Op.store 37 (Operand.tmp 5) (Operand.tmp 25), type := 0, pos := "law.go:23", after := #[{ on := 7, ground := Ground.data }, { on := 5, ground := Ground.data }, { on := 3, ground := Ground.chain }, { on := 0, ground := Ground.phase }, { on := 1, ground := Ground.phase }, { on := 2, ground := Ground.phase }, { on := 3, ground := Ground.phase }, { on := 4, ground := Ground.phase }, { on := 5, ground := Ground.phase }, { on := 6, ground := Ground.textOnly Departure.lateStores }, { on := 7, ground := Ground.phase }], guard := none } = o := Option.some.inj ho
      refine wpOp_of ho rfl ?_
      have q7 := h.vals 7 (by omega) (by omega) (hdep { on := 7, ground := Ground.data } (by simp) rfl)
      replace q7 : Box1 W (a.eval (.tmp 5)) w := q7
      have q5 := h.vals 5 (by omega) (by omega) (hdep { on := 5, ground := Ground.data } (by simp) rfl)
      replace q5 : One1 x y p (a.eval (.tmp 25)) w := q5
      obtain ⟨b, c0, c1, c2, c3, PP, e7, hw7, hr7⟩ := q7
      obtain ⟨b', e5, hp5⟩ := q5
      obtain ⟨w', hst, hmv, hrw⟩ := store5 (x0 := x) (x1 := y) (x2 := x + 1) (x3 := y + 1) (R := .slice (some ⟨b', 0, none⟩) 1 1) hr7 ⟨_, _, _, rfl⟩
      have hl7 : listed.getD 7 true = true := hdep { on := 7, ground := Ground.data } (by simp) rfl
      have hne := hp5.ne (cs := [.int .i64 c1, .int .i64 c2, .int .i64 c3, PP]) hr7
      refine wp_store_of 37 (.tmp 5) (.tmp 25) rfl e7 e5 hst (h.store hl7 (by omega) (fun i hi his hli => ?_) (hb.trans (hmv.below (by simpa using hw7) hb.size)) ⟨b, b', e7, hw7, hrw, hp5.mv hmv hne⟩)
      have hv := h.vals i hi his hli
      rcases (by omega : i = 0 ∨ i = 1 ∨ i = 2 ∨ i = 3 ∨ i = 4 ∨ i = 5 ∨ i = 6 ∨ i = 7 ∨ i = 9) with rfl | rfl | rfl | rfl | rfl | rfl | rfl | rfl | rfl
      · exact hv
      · exact hv
      · exact hv
      · obtain ⟨z, h1, h2⟩ := hv
        exact ⟨z, h1, h2.mv hmv (h2.ne (cs := [.int .i64 c1, .int .i64 c2, .int .i64 c3, PP]) hr7)⟩
      · obtain ⟨z, h1, h2⟩ := hv
        exact ⟨z, h1, h2.mv hmv (h2.ne (cs := [.int .i64 c1, .int .i64 c2, .int .i64 c3, PP]) hr7)⟩
      · obtain ⟨z, h1, h2⟩ := hv
        exact ⟨z, h1, h2.mv hmv (h2.ne (cs := [.int .i64 c1, .int .i64 c2, .int .i64 c3, PP]) hr7)⟩
      · exact hv
      · exact ⟨b, _, _, _, _, _, e7, hw7, hrw⟩
      · exact hv
    · obtain rfl : { dst := some 6, op := Op.assign (Operand.tmp 26), type := 40, pos := "law.go:23", after := #[{ on := 6, ground := Ground.data }, { on := 8, ground := Ground.chain }, { on := 0, ground := Ground.phase }, { on := 1, ground := Ground.phase }, { on := 2, ground := Ground.phase }, { on := 3, ground := Ground.phase }, { on := 4, ground := Ground.phase }, { on := 5, ground := Ground.phase }, { on := 6, ground := Ground.phase }, { on := 7, ground := Ground.phase }, { on := 8, ground := Ground.phase }], guard := none } = o := Option.some.inj ho
      refine wpOp_of ho rfl ?_
      have q6 := h.vals 6 (by omega) (by omega) (hdep { on := 6, ground := Ground.data } (by simp) rfl)
      replace q6 : a.eval (.tmp 26) = .int .i64 0 := q6
      exact wp_assign (.tmp 26) rfl q6 (nx h (j := 9) (by omega) (by omega) hun (Below.refl _ _) rfl)
  · intro listed a w hall h
    have e := h.act hz [0, 1, 2, 3, 4, 5, 6, 7, 9] (fun j => ⟨fun hj => by simp at hj; omega, fun hj => by simp; omega⟩)
    rw [e]
    have hv := fun j (hj : j < 10) (hjs : j ≠ 8) => h.vals j hj hjs (hall j hj)
    exact hQ (fun t => a.eval (.tmp t)) w (h.last (hall 8 (by show 8 < 10; omega))).2 (hv 9 (by omega) (by omega)) h.mem
end Go.Proofs.YtbodmeiecdomfaaGreat.W

namespace Go.Proofs.YtbodmeiecdomfaaGreat.W
open Go.RowKit
set_option maxRecDepth 100000

variable {W w w' : World}
def Sl1 (v : Value) (w : World) : Prop := ∃ b, v = .slice (some ⟨b, 0, none⟩) 1 1 ∧ PB w b 0 ⟨200, 100, 90, 255⟩
theorem Sl1.later {v : Value} (h : Sl1 v w) (hb : Below w.heap.size w w') : Sl1 v w' := by
  obtain ⟨b, h1, h2⟩ := h; exact ⟨b, h1, h2.later hb⟩
theorem im_build {a : Act} {x0 x1 x2 x3 : Int} {q : Option Addr} {n c : Nat} (h1 : a.eval (.tmp 29) = R.rv x0 x1 x2 x3) (h2 : a.eval (.tmp 31) = .slice q n c) (w : World) : (execOp a.eval { dst := some 32, op := Op.build 37 #[(0, Operand.tmp 29), (1, Operand.tmp 31)], type := 37, pos := "law.go:24", after := #[{ on := 1, ground := Ground.data }, { on := 3, ground := Ground.data }], guard := none }).run Tryz.prog w = .ok (.value (imv x0 x1 x2 x3 (.slice q n c))) w := by
  have e1 : (a.eval (.tmp 29)) = R.rv x0 x1 x2 x3 := h1
  simp only [execOp]
  simp only [List.map_toArray, List.map_cons, List.map_nil, h1, h2, Sem.run_bind]
  have hr : (Instr.build 37 #[(0, R.rv x0 x1 x2 x3), (1, .slice q n c)]).run Tryz.prog w = .ok (imv x0 x1 x2 x3 (.slice q n c)) w := by kernel_rfl
  rw [hr]
  rfl
def dst7 (j : Nat) : Nat := match j with
  | 0 => 28
  | 1 => 29
  | 2 => 30
  | 3 => 31
  | 4 => 32
  | 5 => 33
  | 6 => 34
  | 7 => 27
  | 8 => 35
  | 9 => 36
  | 10 => 7
  | _ => 8
def P7 (W : World) (fvv : Value) (x y : Int) (p : Px) (j : Nat) (v9 : Value) (w9 : World) : Prop := match j with
  | 0 => v9 = fvv
  | 1 => v9 = R.rv x y (x + 1) (y + 1)
  | 2 => v9 = pv 200 100 90 255
  | 3 => Sl1 v9 w9
  | 4 => One1 x y ⟨200, 100, 90, 255⟩ v9 w9
  | 5 => v9 = R.rv x y (x + 1) (y + 1)
  | 6 => Two1 x y p v9 w9
  | 7 => Two1 x y p v9 w9
  | 8 => One1 x y p v9 w9
  | 9 => v9 = .int .i64 0
  | 10 => Box1 W v9 w9
  | _ => v9 = .int .i64 0
theorem P7_later {fvv : Value} {x y : Int} {p : Px} {j : Nat} {v : Value} (h : P7 W fvv x y p j v w) (hb : Below w.heap.size w w') : P7 W fvv x y p j v w' := by
  match j, h with
  | 0, h => exact h
  | 1, h => exact h
  | 2, h => exact h
  | 3, h => exact Sl1.later h hb
  | 4, h => exact One1.later h hb
  | 5, h => exact h
  | 6, h => exact Two1.later h hb
  | 7, h => exact Two1.later h hb
  | 8, h => exact One1.later h hb
  | 9, h => exact h
  | 10, h => exact Box1.later h hb
  | (_ + 11), h => exact h
set_option maxHeartbeats 4000000 in
theorem reg7 {fvv : Value} {x y : Int} {p : Px} {b3 : Nat} {W0 : World} {a0 : Act} {id m : Nat} {ro : Option Nat} {Q : Exit → Act → World → Prop} (hW : W0.drew = W) (hs : 70 ≤ a0.tmps.size)
    (e3 : a0.eval (.tmp 3) = .pointer (some ⟨b3, 0, none⟩))
    (hm : ∀ V, Below W.heap.size W V → (Instr.loadAt 25 (.pointer (some ⟨b3, 0, none⟩))).run Tryz.prog V = .ok fvv V)
    (hone : ∀ V, Calls Tryz.prog 14 #[.int .i64 5, .int .i64 5] V fun e w' => e = .returned (R.rv x y (x + 1) (y + 1)) ∧ Below V.heap.size V w')
    (happ : ∀ V b, Below W.heap.size W V → PB V b 0 ⟨200, 100, 90, 255⟩ → Calls Tryz.prog 13 #[fvv, imv x y (x + 1) (y + 1) (.slice (some ⟨b, 0, none⟩) 1 1), R.rv x y (x + 1) (y + 1)] V fun e w' => ∃ v, e = .returned v ∧ Below V.heap.size V w' ∧ Two1 x y p v w')
    (hQ : ∀ k : Nat → Value, ∀ w, Fin1 W x y p (k 7) w → k 8 = .int .i64 0 → Below W.heap.size W w → Q .normal (puts a0 ([0, 1, 2, 3, 4, 5, 6, 7, 8, 9, 10, 12].map fun j => (dst7 j, k (dst7 j)))) w) :
    (Code.region id #[{ dst := some 28, op := Op.load 25 (Operand.tmp 3), type := 25, pos := "law.go:24", after := #[], guard := none },
      { dst := some 29, op := Op.call { callee := Callee.value (Operand.func 14), args := #[Operand.const (Value.int IntKind.i64 5), Operand.const (Value.int IntKind.i64 5)], argTypes := #[3, 3] }, type := 34, pos := "law.go:24", after := #[], guard := none },
      { dst := some 30, op := Op.build 39 #[(0, Operand.const (Value.int IntKind.u8 200)), (1, Operand.const (Value.int IntKind.u8 100)), (2, Operand.const (Value.int IntKind.u8 90)), (3, Operand.const (Value.int IntKind.u8 255))], type := 39, pos := "law.go:24", after := #[], guard := none },
      { dst := some 31, op := Op.buildSlice 35 1 #[(0, Operand.tmp 30)], type := 35, pos := "law.go:24", after := #[{ on := 2, ground := Ground.data }], guard := none },
      { dst := some 32, op := Op.build 37 #[(0, Operand.tmp 29), (1, Operand.tmp 31)], type := 37, pos := "law.go:24", after := #[{ on := 1, ground := Ground.data }, { on := 3, ground := Ground.data }], guard := none },
      { dst := some 33, op := Op.call { callee := Callee.value (Operand.func 14), args := #[Operand.const (Value.int IntKind.i64 5), Operand.const (Value.int IntKind.i64 5)], argTypes := #[3, 3] }, type := 34, pos := "law.go:24", after := #[{ on := 1, ground := Ground.chain }], guard := none },
      { dst := some 34, op := Op.call { callee := Callee.value (Operand.func 13), args := #[Operand.tmp 28, Operand.tmp 32, Operand.tmp 33], argTypes := #[25, 37, 34] }, type := 41, pos := "law.go:24", after := #[{ on := 0, ground := Ground.data }, { on := 4, ground := Ground.data }, { on := 5, ground := Ground.data }, { on := 5, ground := Ground.chain }], guard := none },
      { dst := some 27, op := Op.move (Operand.tmp 34), type := 41, pos := "law.go:24", after := #[{ on := 6, ground := Ground.data }], guard := none },
      { dst := some 35, op := Op.extract (Operand.tmp 27) 0, type := 37, pos := "law.go:24", after := #[{ on := 7, ground := Ground.data }], guard := none },
      { dst := some 36, op := Op.extract (Operand.tmp 27) 1, type := 40, pos := "law.go:24", after := #[{ on := 7, ground := Ground.data }, { on := 11, ground := Ground.gcOnly Departure.lateStores }], guard := none },
      { dst := some 7, op := Op.alloc 37, type := 0, pos := "law.go:24", after := #[], guard := none },
      { dst := none, op := Op.store 37 (Operand.tmp 7) (Operand.tmp 35), type := 0, pos := "law.go:24", after := #[{ on := 10, ground := Ground.data }, { on := 8, ground := Ground.data }, { on := 6, ground := Ground.chain }, { on := 0, ground := Ground.phase }, { on := 1, ground := Ground.phase }, { on := 2, ground := Ground.phase }, { on := 3, ground := Ground.phase }, { on := 4, ground := Ground.phase }, { on := 5, ground := Ground.phase }, { on := 6, ground := Ground.phase }, { on := 7, ground := Ground.phase }, { on := 8, ground := Ground.phase }, { on := 9, ground := Ground.textOnly Departure.lateStores }, { on := 10, ground := Ground.phase }], guard := none },
      { dst := some 8, op := Op.assign (Operand.tmp 36), type := 40, pos := "law.go:24", after := #[{ on := 9, ground := Ground.data }, { on := 11, ground := Ground.chain }, { on := 0, ground := Ground.phase }, { on := 1, ground := Ground.phase }, { on := 2, ground := Ground.phase }, { on := 3, ground := Ground.phase }, { on := 4, ground := Ground.phase }, { on := 5, ground := Ground.phase }, { on := 6, ground := Ground.phase }, { on := 7, ground := Ground.phase }, { on := 8, ground := Ground.phase }, { on := 9, ground := Ground.phase }, { on := 10, ground := Ground.phase }, { on := 11, ground := Ground.phase }], guard := none }] true).wpIn (FW ro) m Tryz.prog Q a0 W0 := by
  have hinj : ∀ i k, i < 13 → k < 13 → i ≠ 11 → k ≠ 11 → dst7 i = dst7 k → i = k := by
    have : ∀ i, i < 13 → ∀ k, k < 13 → i ≠ 11 → k ≠ 11 → dst7 i = dst7 k → i = k := by decide
    exact fun i k hi hk h1 h2 h3 => this i hi k hk h1 h2 h3
  have hz : ∀ i, i < 13 → i ≠ 11 → dst7 i < a0.tmps.size := by
    have : ∀ i, i < 13 → i ≠ 11 → dst7 i < 70 := by decide
    exact fun i h1 h2 => Nat.lt_of_lt_of_le (this i h1 h2) hs
  have nx := fun {listed : Array Bool} {a : Act} {w w' : World} {j : Nat} {v : Value} (h : Flw 13 11 10 dst7 (P7 W fvv x y p) (Fin1 W x y p) a0 W listed a w) (hj : j < 13) (hjs : j ≠ 11) (hu : listed.getD j true = false) (hb : Below w.heap.size w w') (hv : P7 W fvv x y p j v w') =>
    h.next hinj hz (fun i v w w' h hb => P7_later h hb) (fun v w w' h hb => h.later hb) ⟨by omega, by omega⟩ hj hjs hu hb hv
  refine wpIn_region_inv (Flw 13 11 10 dst7 (P7 W fvv x y p) (Fin1 W x y p) a0 W) (by kernel_rfl) (by kernel_rfl) (by kernel_rfl) ?_ ?_ ?_
  · have hno : ∀ j, j < 13 → (Array.replicate 13 false).getD j true = false := fun j hj => by
      rw [Array.getD_eq_getD_getElem?, Array.getElem?_replicate, if_pos hj]; rfl
    exact ⟨rfl, rfl, fun _ _ => rfl, fun j hj _ hl => absurd (hl.symm.trans (hno j hj)) (by decide), by rw [hW]; exact Below.refl _ _, fun hl => absurd (hl.symm.trans (hno 11 (by omega))) (by decide)⟩
  · intro listed a w i o hsz ho hun hdep h
    have hi : i < 13 := (Array.getElem?_eq_some_iff.1 ho).1
    have hb := h.mem
    rcases (by omega : i = 0 ∨ i = 1 ∨ i = 2 ∨ i = 3 ∨ i = 4 ∨ i = 5 ∨ i = 6 ∨ i = 7 ∨ i = 8 ∨ i = 9 ∨ i = 10 ∨ i = 11 ∨ i = 12) with rfl | rfl | rfl | rfl | rfl | rfl | rfl | rfl | rfl | rfl | rfl | rfl | rfl
    · obtain rfl : { dst := some 28, op := Op.load 25 (Operand.tmp 3), type := 25, pos := "law.go:24", after := #[], guard := none } = o := Option.some.inj ho
      refine wpOp_of ho rfl ?_
      exact wp_load_of 25 (.tmp 3) _ rfl ((h.keep 3 (by decide)).trans e3) (hm w hb) (nx h (j := 0) (by omega) (by omega) hun (Below.refl _ _) rfl)
    · obtain rfl : { dst := some 29, op := Op.call { callee := Callee.value (Operand.func 14), args := #[Operand.const (Value.int IntKind.i64 5), Operand.const (Value.int IntKind.i64 5)], argTypes := #[3, 3] }, type := 34, pos := "law.go:24", after := #[], guard := none } = o := Option.some.inj ho
      refine wpOp_of ho rfl ?_
      exact wp_call2 (fid := 14) _ _ _ _ _ _ rfl rfl rfl (enters_of Tryz.func14 (by kernel_rfl) rfl) (hone w) (fun w4 h4 => (nx h (j := 1) (by omega) (by omega) hun h4 rfl))
    · obtain rfl : { dst := some 30, op := Op.build 39 #[(0, Operand.const (Value.int IntKind.u8 200)), (1, Operand.const (Value.int IntKind.u8 100)), (2, Operand.const (Value.int IntKind.u8 90)), (3, Operand.const (Value.int IntKind.u8 255))], type := 39, pos := "law.go:24", after := #[], guard := none } = o := Option.some.inj ho
      refine wpOp_of ho rfl ?_
      exact wp_build (v := pv 200 100 90 255) (by kernel_rfl) (nx h (j := 2) (by omega) (by omega) hun (Below.refl _ _) rfl)
    · obtain rfl : { dst := some 31, op := Op.buildSlice 35 1 #[(0, Operand.tmp 30)], type := 35, pos := "law.go:24", after := #[{ on := 2, ground := Ground.data }], guard := none } = o := Option.some.inj ho
      refine wpOp_of ho rfl ?_
      have q2 := h.vals 2 (by omega) (by omega) (hdep { on := 2, ground := Ground.data } (by simp) rfl)
      replace q2 : a.eval (.tmp 30) = pv 200 100 90 255 := q2
      obtain ⟨i0, hi0, hz0, hz1, hz2⟩ := infoOf infoPx
      refine wp_buildSlice 35 39 1 _ rfl #[.int .u8 200, .int .u8 100, .int .u8 90, .int .u8 255] i0 _ Tryz.underlying35 hi0 hz0 (by rw [hz1]; omega) (by rw [hz1]; omega) ?_ (nx h (j := 3) (by omega) (by omega) hun below1 ⟨w.heap.size, rfl, ?_⟩)
      · simp only [List.map_toArray, List.map_cons, List.map_nil, q2, hz1]
        kernel_rfl
      · have hr := World.alloc_heap_new w (.cells #[.int .u8 200, .int .u8 100, .int .u8 90, .int .u8 255] 39)
        exact ⟨cell_of_row _ _ 0 _ _ _ hr, cell_of_row _ _ 1 _ _ _ hr, cell_of_row _ _ 2 _ _ _ hr, cell_of_row _ _ 3 _ _ _ hr⟩
    · obtain rfl : { dst := some 32, op := Op.build 37 #[(0, Operand.tmp 29), (1, Operand.tmp 31)], type := 37, pos := "law.go:24", after := #[{ on := 1, ground := Ground.data }, { on := 3, ground := Ground.data }], guard := none } = o := Option.some.inj ho
      refine wpOp_of ho rfl ?_
      have q1 := h.vals 1 (by omega) (by omega) (hdep { on := 1, ground := Ground.data } (by simp) rfl)
      replace q1 : a.eval (.tmp 29) = R.rv x y (x + 1) (y + 1) := q1
      have q3 := h.vals 3 (by omega) (by omega) (hdep { on := 3, ground := Ground.data } (by simp) rfl)
      replace q3 : Sl1 (a.eval (.tmp 31)) w := q3
      obtain ⟨z, q3, hz3⟩ := q3
      exact wp_build (v := imv x y (x + 1) (y + 1) (.slice (some ⟨z, 0, none⟩) 1 1)) (im_build q1 q3 w) (nx h (j := 4) (by omega) (by omega) hun (Below.refl _ _) ⟨z, rfl, hz3⟩)
    · obtain rfl : { dst := some 33, op := Op.call { callee := Callee.value (Operand.func 14), args := #[Operand.const (Value.int IntKind.i64 5), Operand.const (Value.int IntKind.i64 5)], argTypes := #[3, 3] }, type := 34, pos := "law.go:24", after := #[{ on := 1, ground := Ground.chain }], guard := none } = o := Option.some.inj ho
      refine wpOp_of ho rfl ?_
      exact wp_call2 (fid := 14) _ _ _ _ _ _ rfl rfl rfl (enters_of Tryz.func14 (by kernel_rfl) rfl) (hone w) (fun w4 h4 => (nx h (j := 5) (by omega) (by omega) hun h4 rfl))
    · obtain rfl : { dst := some 34, op := Op.call { callee := Callee.value (Operand.func 13), args := #[Operand.tmp 28, Operand.tmp 32, Operand.tmp 33], argTypes := #[25, 37, 34] }, type := 41, pos := "law.go:24", after := #[{ on := 0, ground := Ground.data }, { on := 4, ground := Ground.data }, { on := 5, ground := Ground.data }, { on := 5, ground := Ground.chain }], guard := none } = o := Option.some.inj ho
      refine wpOp_of ho rfl ?_
      have q0 := h.vals 0 (by omega) (by omega) (hdep { on := 0, ground := Ground.data } (by simp) rfl)
      replace q0 : a.eval (.tmp 28) = fvv := q0
      have q4 := h.vals 4 (by omega) (by omega) (hdep { on := 4, ground := Ground.data } (by simp) rfl)
      replace q4 : One1 x y ⟨200, 100, 90, 255⟩ (a.eval (.tmp 32)) w := q4
      have q5 := h.vals 5 (by omega) (by omega) (hdep { on := 5, ground := Ground.data } (by simp) rfl)
      replace q5 : a.eval (.tmp 33) = R.rv x y (x + 1) (y + 1) := q5
      obtain ⟨z, q4, hz4⟩ := q4
      exact wp_call3 (fid := 13) (.tmp 28) (.tmp 32) (.tmp 33) _ _ _ _ _ _ rfl q0 q4 q5 (enters_of Tryz.func13 (by kernel_rfl) rfl) (happ w z hb hz4) (fun v4 w4 h4 => (nx h (j := 6) (by omega) (by omega) hun h4.1 h4.2))
    · obtain rfl : { dst := some 27, op := Op.move (Operand.tmp 34), type := 41, pos := "law.go:24", after := #[{ on := 6, ground := Ground.data }], guard := none } = o := Option.some.inj ho
      refine wpOp_of ho rfl ?_
      have q6 := h.vals 6 (by omega) (by omega) (hdep { on := 6, ground := Ground.data } (by simp) rfl)
      replace q6 : Two1 x y p (a.eval (.tmp 34)) w := q6
      exact wp_move (.tmp 34) rfl rfl (nx h (j := 7) (by omega) (by omega) hun (Below.refl _ _) q6)
    · obtain rfl : { dst := some 35, op := Op.extract (Operand.tmp 27) 0, type := 37, pos := "law.go:24", after := #[{ on := 7, ground := Ground.data }], guard := none } = o := Option.some.inj ho
      refine wpOp_of ho rfl ?_
      have q7 := h.vals 7 (by omega) (by omega) (hdep { on := 7, ground := Ground.data } (by simp) rfl)
      replace q7 : Two1 x y p (a.eval (.tmp 27)) w := q7
      obtain ⟨z, q7, hz7⟩ := q7
      exact wp_extract (.tmp 27) 0 rfl q7 (by omega) (nx h (j := 8) (by omega) (by omega) hun (Below.refl _ _) ⟨z, rfl, hz7⟩)
    · obtain rfl : { dst := some 36, op := Op.extract (Operand.tmp 27) 1, type := 40, pos := "law.go:24", after := #[{ on := 7, ground := Ground.data }, { on := 11, ground := Ground.gcOnly Departure.lateStores }], guard := none } = o := Option.some.inj ho
      refine wpOp_of ho rfl ?_
      have q7 := h.vals 7 (by omega) (by omega) (hdep { on := 7, ground := Ground.data } (by simp) rfl)
      replace q7 : Two1 x y p (a.eval (.tmp 27)) w := q7
      obtain ⟨z, q7, hz7⟩ := q7
      exact wp_extract (.tmp 27) 1 rfl q7 (by omega) (nx h (j := 9) (by omega) (by omega) hun (Below.refl _ _) rfl)
    · obtain rfl : { dst := some 7, op := Op.alloc 37, type := 0, pos := "law.go:24", after := #[], guard := none } = o := Option.some.inj ho
      refine wpOp_of ho rfl ?_
      exact wp_alloc_of 37 rfl (imv 0 0 0 0 (.slice none 0 0)) _ (by kernel_rfl) rfl (nx h (j := 10) (by omega) (by omega) hun below1 ⟨w.heap.size, 0, 0, 0, 0, _, rfl, hb.size, World.alloc_heap_new _ _⟩)
    · obtain rfl : { dst := none, op := Op.store 37 (Operand.tmp 7) (Operand.tmp 35), type := 0, pos := "law.go:24", after := #[{ on := 10, ground := Ground.data }, { on := 8, ground := Ground.data }, { on := 6, ground := Ground.chain }, { on := 0, ground := Ground.phase }, { on := 1, ground := Ground.phase }, { on := 2, ground := Ground.phase }, { on := 3, ground := Ground.phase }, { on := 4, ground := Ground.phase }, { on := 5, ground := Ground.phase }, { on := 6, ground := Ground.phase }, { on := 7, ground := Ground.phase }, { on := 8, ground := Ground.phase }, { on := 9, ground := Ground.textOnly Departure.lateStores }, { on := 10, ground := Ground.phase }], guard := none } = o := Option.some.inj ho
      refine wpOp_of ho rfl ?_
      have q10 := h.vals 10 (by omega) (by omega) (hdep { on := 10, ground := Ground.data } (by simp) rfl)
      replace q10 : Box1 W (a.eval (.tmp 7)) w := q10
      have q8 := h.vals 8 (by omega) (by omega) (hdep { on := 8, ground := Ground.data } (by simp) rfl)
      replace q8 : One1 x y p (a.eval (.tmp 35)) w := q8
      obtain ⟨b, c0, c1, c2, c3, PP, e7, hw7, hr7⟩ := q10
      obtain ⟨b', e5, hp5⟩ := q8
      obtain ⟨w', hst, hmv, hrw⟩ := store5 (x0 := x) (x1 := y) (x2 := x + 1) (x3 := y + 1) (R := .slice (some ⟨b', 0, none⟩) 1 1) hr7 ⟨_, _, _, rfl⟩
      have hl7 : listed.getD 10 true = true := hdep { on := 10, ground := Ground.data } (by simp) rfl
      have hne := hp5.ne (cs := [.int .i64 c1, .int .i64 c2, .int .i64 c3, PP]) hr7
      refine wp_store_of 37 (.tmp 7) (.tmp 35) rfl e7 e5 hst (h.store hl7 (by omega) (fun i hi his hli => ?_) (hb.trans (hmv.below (by simpa using hw7) hb.size)) ⟨b, b', e7, hw7, hrw, hp5.mv hmv hne⟩)
      have hv := h.vals i hi his hli
      rcases (by omega : i = 0 ∨ i = 1 ∨ i = 2 ∨ i = 3 ∨ i = 4 ∨ i = 5 ∨ i = 6 ∨ i = 7 ∨ i = 8 ∨ i = 9 ∨ i = 10 ∨ i = 12) with rfl | rfl | rfl | rfl | rfl | rfl | rfl | rfl | rfl | rfl | rfl | rfl
      · exact hv
      · exact hv
      · exact hv
      · obtain ⟨z, h1, h2⟩ := hv
        exact ⟨z, h1, h2.mv hmv (h2.ne (cs := [.int .i64 c1, .int .i64 c2, .int .i64 c3, PP]) hr7)⟩
      · obtain ⟨z, h1, h2⟩ := hv
        exact ⟨z, h1, h2.mv hmv (h2.ne (cs := [.int .i64 c1, .int .i64 c2, .int .i64 c3, PP]) hr7)⟩
      · exact hv
      · obtain ⟨z, h1, h2⟩ := hv
        exact ⟨z, h1, h2.mv hmv (h2.ne (cs := [.int .i64 c1, .int .i64 c2, .int .i64 c3, PP]) hr7)⟩
      · obtain ⟨z, h1, h2⟩ := hv
        exact ⟨z, h1, h2.mv hmv (h2.ne (cs := [.int .i64 c1, .int .i64 c2, .int .i64 c3, PP]) hr7)⟩
      · obtain ⟨z, h1, h2⟩ := hv
        exact ⟨z, h1, h2.mv hmv (h2.ne (cs := [.int .i64 c1, .int .i64 c2, .int .i64 c3, PP]) hr7)⟩
      · exact hv
      · exact ⟨b, _, _, _, _, _, e7, hw7, hrw⟩
      · exact hv
    · obtain rfl : { dst := some 8, op := Op.assign (Operand.tmp 36), type := 40, pos := "law.go:24", after := #[{ on := 9, ground := Ground.data }, { on := 11, ground := Ground.chain }, { on := 0, ground := Ground.phase }, { on := 1, ground := Ground.phase }, { on := 2, ground := Ground.phase }, { on := 3, ground := Ground.phase }, { on := 4, ground := Ground.phase }, { on := 5, ground := Ground.phase }, { on := 6, ground := Ground.phase }, { on := 7, ground := Ground.phase }, { on := 8, ground := Ground.phase }, { on := 9, ground := Ground.phase }, { on := 10, ground := Ground.phase }, { on := 11, ground := Ground.phase }], guard := none } = o := Option.some.inj ho
      refine wpOp_of ho rfl ?_
      have q9 := h.vals 9 (by omega) (by omega) (hdep { on := 9, ground := Ground.data } (by simp) rfl)
      replace q9 : a.eval (.tmp 36) = .int .i64 0 := q9
      exact wp_assign (.tmp 36) rfl q9 (nx h (j := 12) (by omega) (by omega) hun (Below.refl _ _) rfl)
  · intro listed a w hall h
    have e := h.act hz [0, 1, 2, 3, 4, 5, 6, 7, 8, 9, 10, 12] (fun j => ⟨fun hj => by simp at hj; omega, fun hj => by simp; omega⟩)
    rw [e]
    have hv := fun j (hj : j < 13) (hjs : j ≠ 11) => h.vals j hj hjs (hall j hj)
    exact hQ (fun t => a.eval (.tmp t)) w (h.last (hall 11 (by show 11 < 13; omega))).2 (hv 12 (by omega) (by omega)) h.mem
end Go.Proofs.YtbodmeiecdomfaaGreat.W
