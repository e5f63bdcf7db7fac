/-
  The laws' sanity: the first image.
-/
import Derived.Test.YtihfpflnnhiikaaGreatWSan
namespace Go.Proofs.YtihfpflnnhiikaaGreat.W
open Go.RowKit
set_option maxRecDepth 100000

variable {W w w' : World}
def dst6 (j : Nat) : Nat := match j with
  | 0 => 21
  | 1 => 22
  | 2 => 23
  | 3 => 24
  | 4 => 20
  | 5 => 25
  | 6 => 26
  | 7 => 5
  | _ => 6
def P6 (W : World) (fvv imm : Value) (x y : Int) (p : Px) (j : Nat) (v9 : Value) (w9 : World) : Prop := match j with
  | 0 => v9 = fvv
  | 1 => v9 = imm
  | 2 => v9 = R.rv x y (x + 1) (y + 1)
  | 3 => Two1 x y p v9 w9
  | 4 => Two1 x y p v9 w9
  | 5 => One1 x y p v9 w9
  | 6 => v9 = .int .i64 0
  | 7 => Box1 W v9 w9
  | _ => v9 = .int .i64 0
theorem P6_later {fvv imm : Value} {x y : Int} {p : Px} {j : Nat} {v : Value} (h : P6 W fvv imm x y p j v w) (hb : Below w.heap.size w w') : P6 W fvv imm x y p j v w' := by
  match j, h with
  | 0, h => exact h
  | 1, h => exact h
  | 2, h => exact h
  | 3, h => exact Two1.later h hb
  | 4, h => exact Two1.later h hb
  | 5, h => exact One1.later h hb
  | 6, h => exact h
  | 7, h => exact Box1.later h hb
  | (_ + 8), h => exact h
set_option maxHeartbeats 4000000 in
theorem reg6 {fvv imm : Value} {x y : Int} {p : Px} {b2 b4 : Nat} {W0 : World} {a0 : Act} {id m : Nat} {ro : Option Nat} {Q : Exit → Act → World → Prop} (hW : W0.drew = W) (hs : 70 ≤ a0.tmps.size)
    (e2 : a0.eval (.tmp 2) = .pointer (some ⟨b2, 0, none⟩)) (e4 : a0.eval (.tmp 4) = .pointer (some ⟨b4, 0, none⟩))
    (hm : ∀ V, Below W.heap.size W V → (Instr.loadAt 25 (.pointer (some ⟨b2, 0, none⟩))).run Tryz.prog V = .ok fvv V ∧ (Instr.loadAt 39 (.pointer (some ⟨b4, 0, none⟩))).run Tryz.prog V = .ok imm V)
    (hone : ∀ V, Calls Tryz.prog 12 #[.int .i64 0, .int .i64 0] V fun e w' => e = .returned (R.rv x y (x + 1) (y + 1)) ∧ Below V.heap.size V w')
    (happ : ∀ V, Below W.heap.size W V → Calls Tryz.prog 13 #[fvv, imm, R.rv x y (x + 1) (y + 1)] V fun e w' => ∃ v, e = .returned v ∧ Below V.heap.size V w' ∧ Two1 x y p v w')
    (hQ : ∀ k : Nat → Value, ∀ w, Fin1 W x y p (k 5) w → k 6 = .int .i64 0 → Below W.heap.size W w → Q .normal (puts a0 ([0, 1, 2, 3, 4, 5, 6, 7, 9].map fun j => (dst6 j, k (dst6 j)))) w) :
    (Code.region id #[{ dst := some 21, op := Op.load 25 (Operand.tmp 2), type := 25, pos := "law.go:23", after := #[], guard := none },
      { dst := some 22, op := Op.load 39 (Operand.tmp 4), type := 39, pos := "law.go:23", after := #[], guard := none },
      { dst := some 23, op := Op.call { callee := Callee.value (Operand.func 12), args := #[Operand.const (Value.int IntKind.i64 0), Operand.const (Value.int IntKind.i64 0)], argTypes := #[3, 3] }, type := 27, pos := "law.go:23", after := #[], guard := none },
      { dst := some 24, op := Op.call { callee := Callee.value (Operand.func 13), args := #[Operand.tmp 21, Operand.tmp 22, Operand.tmp 23], argTypes := #[25, 39, 27] }, type := 43, pos := "law.go:23", after := #[{ on := 0, ground := Ground.data }, { on := 1, ground := Ground.data }, { on := 2, ground := Ground.data }, { on := 2, ground := Ground.chain }], guard := none },
      { dst := some 20, op := Op.move (Operand.tmp 24), type := 43, pos := "law.go:23", after := #[{ on := 3, ground := Ground.data }], guard := none },
      { dst := some 25, op := Op.extract (Operand.tmp 20) 0, type := 39, pos := "law.go:23", after := #[{ on := 4, ground := Ground.data }], guard := none },
      { dst := some 26, op := Op.extract (Operand.tmp 20) 1, type := 42, pos := "law.go:23", after := #[{ on := 4, ground := Ground.data }, { on := 8, ground := Ground.gcOnly Departure.lateStores }], guard := none },
      { dst := some 5, op := Op.alloc 39, type := 0, pos := "law.go:23", after := #[], guard := none },
      { dst := none, op := Op.store 39 (Operand.tmp 5) (Operand.tmp 25), type := 0, pos := "law.go:23", after := #[{ on := 7, ground := Ground.data }, { on := 5, ground := Ground.data }, { on := 3, ground := Ground.chain }, { on := 0, ground := Ground.phase }, { on := 1, ground := Ground.phase }, { on := 2, ground := Ground.phase }, { on := 3, ground := Ground.phase }, { on := 4, ground := Ground.phase }, { on := 5, ground := Ground.phase }, { on := 6, ground := Ground.textOnly Departure.lateStores }, { on := 7, ground := Ground.phase }], guard := none },
      { dst := some 6, op := Op.assign (Operand.tmp 26), type := 42, pos := "law.go:23", after := #[{ on := 6, ground := Ground.data }, { on := 8, ground := Ground.chain }, { on := 0, ground := Ground.phase }, { on := 1, ground := Ground.phase }, { on := 2, ground := Ground.phase }, { on := 3, ground := Ground.phase }, { on := 4, ground := Ground.phase }, { on := 5, ground := Ground.phase }, { on := 6, ground := Ground.phase }, { on := 7, ground := Ground.phase }, { on := 8, ground := Ground.phase }], guard := none }] true).wpIn (FW ro) m Tryz.prog Q a0 W0 := by
  have hinj : ∀ i k, i < 10 → k < 10 → i ≠ 8 → k ≠ 8 → dst6 i = dst6 k → i = k := by
    have : ∀ i, i < 10 → ∀ k, k < 10 → i ≠ 8 → k ≠ 8 → dst6 i = dst6 k → i = k := by decide
    exact fun i k hi hk h1 h2 h3 => this i hi k hk h1 h2 h3
  have hz : ∀ i, i < 10 → i ≠ 8 → dst6 i < a0.tmps.size := by
    have : ∀ i, i < 10 → i ≠ 8 → dst6 i < 70 := by decide
    exact fun i h1 h2 => Nat.lt_of_lt_of_le (this i h1 h2) hs
  have nx := fun {listed : Array Bool} {a : Act} {w w' : World} {j : Nat} {v : Value} (h : Flw 10 8 7 dst6 (P6 W fvv imm x y p) (Fin1 W x y p) a0 W listed a w) (hj : j < 10) (hjs : j ≠ 8) (hu : listed.getD j true = false) (hb : Below w.heap.size w w') (hv : P6 W fvv imm x y p j v w') =>
    h.next hinj hz (fun i v w w' h hb => P6_later h hb) (fun v w w' h hb => h.later hb) ⟨by omega, by omega⟩ hj hjs hu hb hv
  refine wpIn_region_inv (Flw 10 8 7 dst6 (P6 W fvv imm x y p) (Fin1 W x y p) a0 W) (by kernel_rfl) (by kernel_rfl) (by kernel_rfl) ?_ ?_ ?_
  · have hno : ∀ j, j < 10 → (Array.replicate 10 false).getD j true = false := fun j hj => by
      rw [Array.getD_eq_getD_getElem?, Array.getElem?_replicate, if_pos hj]; rfl
    exact ⟨rfl, rfl, fun _ _ => rfl, fun j hj _ hl => absurd (hl.symm.trans (hno j hj)) (by decide), by rw [hW]; exact Below.refl _ _, fun hl => absurd (hl.symm.trans (hno 8 (by omega))) (by decide)⟩
  · intro listed a w i o hsz ho hun hdep h
    have hi : i < 10 := (Array.getElem?_eq_some_iff.1 ho).1
    have hb := h.mem
    rcases (by omega : i = 0 ∨ i = 1 ∨ i = 2 ∨ i = 3 ∨ i = 4 ∨ i = 5 ∨ i = 6 ∨ i = 7 ∨ i = 8 ∨ i = 9) with rfl | rfl | rfl | rfl | rfl | rfl | rfl | rfl | rfl | rfl
    · obtain rfl : { dst := some 21, op := Op.load 25 (Operand.tmp 2), type := 25, pos := "law.go:23", after := #[], guard := none } = o := Option.some.inj ho
      refine wpOp_of ho rfl ?_
      exact wp_load_of 25 (.tmp 2) _ rfl ((h.keep 2 (by decide)).trans e2) (hm w hb).1 (nx h (j := 0) (by omega) (by omega) hun (Below.refl _ _) rfl)
    · obtain rfl : { dst := some 22, op := Op.load 39 (Operand.tmp 4), type := 39, pos := "law.go:23", after := #[], guard := none } = o := Option.some.inj ho
      refine wpOp_of ho rfl ?_
      exact wp_load_of 39 (.tmp 4) _ rfl ((h.keep 4 (by decide)).trans e4) (hm w hb).2 (nx h (j := 1) (by omega) (by omega) hun (Below.refl _ _) rfl)
    · obtain rfl : { dst := some 23, op := Op.call { callee := Callee.value (Operand.func 12), args := #[Operand.const (Value.int IntKind.i64 0), Operand.const (Value.int IntKind.i64 0)], argTypes := #[3, 3] }, type := 27, pos := "law.go:23", after := #[], guard := none } = o := Option.some.inj ho
      refine wpOp_of ho rfl ?_
      exact wp_call2 (fid := 12) _ _ _ _ _ _ rfl rfl rfl (enters_of Tryz.func12 (by kernel_rfl) rfl) (hone w) (fun w4 h4 => (nx h (j := 2) (by omega) (by omega) hun h4 rfl))
    · obtain rfl : { dst := some 24, op := Op.call { callee := Callee.value (Operand.func 13), args := #[Operand.tmp 21, Operand.tmp 22, Operand.tmp 23], argTypes := #[25, 39, 27] }, type := 43, pos := "law.go:23", after := #[{ on := 0, ground := Ground.data }, { on := 1, ground := Ground.data }, { on := 2, ground := Ground.data }, { on := 2, ground := Ground.chain }], guard := none } = o := Option.some.inj ho
      refine wpOp_of ho rfl ?_
      have q0 := h.vals 0 (by omega) (by omega) (hdep { on := 0, ground := Ground.data } (by simp) rfl)
      replace q0 : a.eval (.tmp 21) = fvv := q0
      have q1 := h.vals 1 (by omega) (by omega) (hdep { on := 1, ground := Ground.data } (by simp) rfl)
      replace q1 : a.eval (.tmp 22) = imm := q1
      have q2 := h.vals 2 (by omega) (by omega) (hdep { on := 2, ground := Ground.data } (by simp) rfl)
      replace q2 : a.eval (.tmp 23) = R.rv x y (x + 1) (y + 1) := q2
      exact wp_call3 (fid := 13) (.tmp 21) (.tmp 22) (.tmp 23) _ _ _ _ _ _ rfl q0 q1 q2 (enters_of Tryz.func13 (by kernel_rfl) rfl) (happ w hb) (fun v4 w4 h4 => (nx h (j := 3) (by omega) (by omega) hun h4.1 h4.2))
    · obtain rfl : { dst := some 20, op := Op.move (Operand.tmp 24), type := 43, pos := "law.go:23", after := #[{ on := 3, ground := Ground.data }], guard := none } = o := Option.some.inj ho
      refine wpOp_of ho rfl ?_
      have q3 := h.vals 3 (by omega) (by omega) (hdep { on := 3, ground := Ground.data } (by simp) rfl)
      replace q3 : Two1 x y p (a.eval (.tmp 24)) w := q3
      exact wp_move (.tmp 24) rfl rfl (nx h (j := 4) (by omega) (by omega) hun (Below.refl _ _) q3)
    · obtain rfl : { dst := some 25, op := Op.extract (Operand.tmp 20) 0, type := 39, pos := "law.go:23", after := #[{ on := 4, ground := Ground.data }], guard := none } = o := Option.some.inj ho
      refine wpOp_of ho rfl ?_
      have q4 := h.vals 4 (by omega) (by omega) (hdep { on := 4, ground := Ground.data } (by simp) rfl)
      replace q4 : Two1 x y p (a.eval (.tmp 20)) w := q4
      obtain ⟨z, q4, hz4⟩ := q4
      exact wp_extract (.tmp 20) 0 rfl q4 (by omega) (nx h (j := 5) (by omega) (by omega) hun (Below.refl _ _) ⟨z, rfl, hz4⟩)
    · obtain rfl : { dst := some 26, op := Op.extract (Operand.tmp 20) 1, type := 42, pos := "law.go:23", after := #[{ on := 4, ground := Ground.data }, { on := 8, ground := Ground.gcOnly Departure.lateStores }], guard := none } = o := Option.some.inj ho
      refine wpOp_of ho rfl ?_
      have q4 := h.vals 4 (by omega) (by omega) (hdep { on := 4, ground := Ground.data } (by simp) rfl)
      replace q4 : Two1 x y p (a.eval (.tmp 20)) w := q4
      obtain ⟨z, q4, hz4⟩ := q4
      exact wp_extract (.tmp 20) 1 rfl q4 (by omega) (nx h (j := 6) (by omega) (by omega) hun (Below.refl _ _) rfl)
    · obtain rfl : { dst := some 5, op := Op.alloc 39, type := 0, pos := "law.go:23", after := #[], guard := none } = o := Option.some.inj ho
      refine wpOp_of ho rfl ?_
      exact wp_alloc_of 39 rfl (imv 0 0 0 0 (.slice none 0 0)) _ (by kernel_rfl) rfl (nx h (j := 7) (by omega) (by omega) hun below1 ⟨w.heap.size, 0, 0, 0, 0, _, rfl, hb.size, World.alloc_heap_new _ _⟩)
    · obtain rfl : { dst := none, op := Op.store 39 (Operand.tmp 5) (Operand.tmp 25), type := 0, pos := "law.go:23", after := #[{ on := 7, ground := Ground.data }, { on := 5, ground := Ground.data }, { on := 3, ground := Ground.chain }, { on := 0, ground := Ground.phase }, { on := 1, ground := Ground.phase }, { on := 2, ground := Ground.phase }, { on := 3, ground := Ground.phase }, { on := 4, ground := Ground.phase }, { on := 5, ground := Ground.phase }, { on := 6, ground := Ground.textOnly Departure.lateStores }, { on := 7, ground := Ground.phase }], guard := none } = o := Option.some.inj ho
      refine wpOp_of ho rfl ?_
      have q7 := h.vals 7 (by omega) (by omega) (hdep { on := 7, ground := Ground.data } (by simp) rfl)
      replace q7 : Box1 W (a.eval (.tmp 5)) w := q7
      have q5 := h.vals 5 (by omega) (by omega) (hdep { on := 5, ground := Ground.data } (by simp) rfl)
      replace q5 : One1 x y p (a.eval (.tmp 25)) w := q5
      obtain ⟨b, c0, c1, c2, c3, PP, e7, hw7, hr7⟩ := q7
      obtain ⟨b', e5, hp5⟩ := q5
      obtain ⟨w', hst, hmv, hrw⟩ := store5 (x0 := x) (x1 := y) (x2 := x + 1) (x3 := y + 1) (R := .slice (some ⟨b', 0, none⟩) 1 1) hr7 ⟨_, _, _, rfl⟩
      have hl7 : listed.getD 7 true = true := hdep { on := 7, ground := Ground.data } (by simp) rfl
      have hne := hp5.ne (cs := [.int .i64 c1, .int .i64 c2, .int .i64 c3, PP]) hr7
      refine wp_store_of 39 (.tmp 5) (.tmp 25) rfl e7 e5 hst (h.store hl7 (by omega) (fun i hi his hli => ?_) (hb.trans (hmv.below (by simpa using hw7) hb.size)) ⟨b, b', e7, hw7, hrw, hp5.mv hmv hne⟩)
      have hv := h.vals i hi his hli
      rcases (by omega : i = 0 ∨ i = 1 ∨ i = 2 ∨ i = 3 ∨ i = 4 ∨ i = 5 ∨ i = 6 ∨ i = 7 ∨ i = 9) with rfl | rfl | rfl | rfl | rfl | rfl | rfl | rfl | rfl
      · exact hv
      · exact hv
      · exact hv
      · obtain ⟨z, h1, h2⟩ := hv
        exact ⟨z, h1, h2.mv hmv (h2.ne (cs := [.int .i64 c1, .int .i64 c2, .int .i64 c3, PP]) hr7)⟩
      · obtain ⟨z, h1, h2⟩ := hv
        exact ⟨z, h1, h2.mv hmv (h2.ne (cs := [.int .i64 c1, .int .i64 c2, .int .i64 c3, PP]) hr7)⟩
      · obtain ⟨z, h1, h2⟩ := hv
        exact ⟨z, h1, h2.mv hmv (h2.ne (cs := [.int .i64 c1, .int .i64 c2, .int .i64 c3, PP]) hr7)⟩
      · exact hv
      · exact ⟨b, _, _, _, _, _, e7, hw7, hrw⟩
      · exact hv
    · obtain rfl : { dst := some 6, op := Op.assign (Operand.tmp 26), type := 42, pos := "law.go:23", after := #[{ on := 6, ground := Ground.data }, { on := 8, ground := Ground.chain }, { on := 0, ground := Ground.phase }, { on := 1, ground := Ground.phase }, { on := 2, ground := Ground.phase }, { on := 3, ground := Ground.phase }, { on := 4, ground := Ground.phase }, { on := 5, ground := Ground.phase }, { on := 6, ground := Ground.phase }, { on := 7, ground := Ground.phase }, { on := 8, ground := Ground.phase }], guard := none } = o := Option.some.inj ho
      refine wpOp_of ho rfl ?_
      have q6 := h.vals 6 (by omega) (by omega) (hdep { on := 6, ground := Ground.data } (by simp) rfl)
      replace q6 : a.eval (.tmp 26) = .int .i64 0 := q6
      exact wp_assign (.tmp 26) rfl q6 (nx h (j := 9) (by omega) (by omega) hun (Below.refl _ _) rfl)
  · intro listed a w hall h
    have e := h.act hz [0, 1, 2, 3, 4, 5, 6, 7, 9] (fun j => ⟨fun hj => by simp at hj; omega, fun hj => by simp; omega⟩)
    rw [e]
    have hv := fun j (hj : j < 10) (hjs : j ≠ 8) => h.vals j hj hjs (hall j hj)
    exact hQ (fun t => a.eval (.tmp t)) w (h.last (hall 8 (by show 8 < 10; omega))).2 (hv 9 (by omega) (by omega)) h.mem
end Go.Proofs.YtihfpflnnhiikaaGreat.W
