/-
  AffineSamples: for all placements, points and rectangles, Source, Need and Bounds return what the reference returns. No conditions.
-/
import Derived.Test.YtgipfcpkphmbpaaAOpen
import Derived.Test.YtgipfcpkphmbpaaARBnd
namespace Go.Proofs.Ytgipfcpkphmbpaa.F.ALSamples
open Go.ChangeShapes Go.WideShapes Go.ChangeAt Go.RowKit
set_option maxRecDepth 100000

theorem z1 {α : Type} (l : List α) (i : Nat) (a : α) : l.toArray.setIfInBounds i a = (l.set i a).toArray := List.setIfInBounds_toArray ..
theorem z2 {α : Type} (x a : α) (l : List α) : (x :: l).set 0 a = a :: l := rfl
theorem z3 {α : Type} (x a : α) (l : List α) (n : Nat) : (x :: l).set (n + 1) a = x :: l.set n a := rfl
theorem z4 {α : Type} (l : List α) (i : Nat) : l.toArray[i]? = l[i]? := List.getElem?_toArray ..
theorem z5 {α : Type} (a : α) (l : List α) : (a :: l)[0]? = some a := rfl
theorem z6 {α : Type} (a : α) (l : List α) (i : Nat) : (a :: l)[i + 1]? = l[i]? := rfl
@[reducible] def o0 : Oper := { dst := none, op := Op.store 63 (Operand.tmp 22) (Operand.tmp 105), type := 0, pos := "law.go:84", after := #[{ on := 12, ground := Ground.data }, { on := 11, ground := Ground.data }, { on := 11, ground := Ground.chain }, { on := 0, ground := Ground.phase }, { on := 1, ground := Ground.phase }, { on := 2, ground := Ground.phase }, { on := 3, ground := Ground.phase }, { on := 4, ground := Ground.phase }, { on := 5, ground := Ground.phase }, { on := 6, ground := Ground.phase }, { on := 7, ground := Ground.phase }, { on := 8, ground := Ground.phase }, { on := 9, ground := Ground.phase }, { on := 10, ground := Ground.phase }, { on := 11, ground := Ground.phase }, { on := 12, ground := Ground.phase }], guard := none }
@[reducible] def o1 : Oper := { dst := none, op := Op.store 49 (Operand.tmp 16) (Operand.tmp 74), type := 0, pos := "law.go:81", after := #[{ on := 9, ground := Ground.data }, { on := 7, ground := Ground.data }, { on := 5, ground := Ground.chain }, { on := 0, ground := Ground.phase }, { on := 1, ground := Ground.phase }, { on := 2, ground := Ground.phase }, { on := 3, ground := Ground.phase }, { on := 4, ground := Ground.phase }, { on := 5, ground := Ground.phase }, { on := 6, ground := Ground.phase }, { on := 7, ground := Ground.phase }, { on := 8, ground := Ground.textOnly Departure.lateStores }, { on := 9, ground := Ground.phase }], guard := none }
@[reducible] def o2 : Oper := { dst := none, op := Op.store 51 (Operand.tmp 18) (Operand.tmp 83), type := 0, pos := "law.go:82", after := #[{ on := 9, ground := Ground.data }, { on := 7, ground := Ground.data }, { on := 5, ground := Ground.chain }, { on := 0, ground := Ground.phase }, { on := 1, ground := Ground.phase }, { on := 2, ground := Ground.phase }, { on := 3, ground := Ground.phase }, { on := 4, ground := Ground.phase }, { on := 5, ground := Ground.phase }, { on := 6, ground := Ground.phase }, { on := 7, ground := Ground.phase }, { on := 8, ground := Ground.textOnly Departure.lateStores }, { on := 9, ground := Ground.phase }], guard := none }
@[reducible] def o3 : Oper := { dst := none, op := Op.store 51 (Operand.tmp 20) (Operand.tmp 92), type := 0, pos := "law.go:83", after := #[{ on := 9, ground := Ground.data }, { on := 7, ground := Ground.data }, { on := 5, ground := Ground.chain }, { on := 0, ground := Ground.phase }, { on := 1, ground := Ground.phase }, { on := 2, ground := Ground.phase }, { on := 3, ground := Ground.phase }, { on := 4, ground := Ground.phase }, { on := 5, ground := Ground.phase }, { on := 6, ground := Ground.phase }, { on := 7, ground := Ground.phase }, { on := 8, ground := Ground.textOnly Departure.lateStores }, { on := 9, ground := Ground.phase }], guard := none }
@[reducible] def o4 : Oper := { dst := some 17, op := Op.assign (Operand.tmp 75), type := 39, pos := "law.go:81", after := #[{ on := 8, ground := Ground.data }, { on := 10, ground := Ground.chain }, { on := 0, ground := Ground.phase }, { on := 1, ground := Ground.phase }, { on := 2, ground := Ground.phase }, { on := 3, ground := Ground.phase }, { on := 4, ground := Ground.phase }, { on := 5, ground := Ground.phase }, { on := 6, ground := Ground.phase }, { on := 7, ground := Ground.phase }, { on := 8, ground := Ground.phase }, { on := 9, ground := Ground.phase }, { on := 10, ground := Ground.phase }], guard := none }
@[reducible] def o5 : Oper := { dst := some 19, op := Op.assign (Operand.tmp 84), type := 39, pos := "law.go:82", after := #[{ on := 8, ground := Ground.data }, { on := 10, ground := Ground.chain }, { on := 0, ground := Ground.phase }, { on := 1, ground := Ground.phase }, { on := 2, ground := Ground.phase }, { on := 3, ground := Ground.phase }, { on := 4, ground := Ground.phase }, { on := 5, ground := Ground.phase }, { on := 6, ground := Ground.phase }, { on := 7, ground := Ground.phase }, { on := 8, ground := Ground.phase }, { on := 9, ground := Ground.phase }, { on := 10, ground := Ground.phase }], guard := none }
@[reducible] def o6 : Oper := { dst := some 21, op := Op.assign (Operand.tmp 93), type := 39, pos := "law.go:83", after := #[{ on := 8, ground := Ground.data }, { on := 10, ground := Ground.chain }, { on := 0, ground := Ground.phase }, { on := 1, ground := Ground.phase }, { on := 2, ground := Ground.phase }, { on := 3, ground := Ground.phase }, { on := 4, ground := Ground.phase }, { on := 5, ground := Ground.phase }, { on := 6, ground := Ground.phase }, { on := 7, ground := Ground.phase }, { on := 8, ground := Ground.phase }, { on := 9, ground := Ground.phase }, { on := 10, ground := Ground.phase }], guard := none }
@[reducible] def o7 : Oper := { dst := none, op := Op.store 66 (Operand.tmp 23) (Operand.tmp 111), type := 0, pos := "law.go:85", after := #[{ on := 6, ground := Ground.data }, { on := 5, ground := Ground.data }, { on := 5, ground := Ground.chain }, { on := 0, ground := Ground.phase }, { on := 1, ground := Ground.phase }, { on := 2, ground := Ground.phase }, { on := 3, ground := Ground.phase }, { on := 4, ground := Ground.phase }, { on := 5, ground := Ground.phase }, { on := 6, ground := Ground.phase }], guard := none }
@[reducible] def o8 : Oper := { dst := none, op := Op.store 66 (Operand.tmp 24) (Operand.tmp 117), type := 0, pos := "law.go:86", after := #[{ on := 6, ground := Ground.data }, { on := 5, ground := Ground.data }, { on := 5, ground := Ground.chain }, { on := 0, ground := Ground.phase }, { on := 1, ground := Ground.phase }, { on := 2, ground := Ground.phase }, { on := 3, ground := Ground.phase }, { on := 4, ground := Ground.phase }, { on := 5, ground := Ground.phase }, { on := 6, ground := Ground.phase }], guard := none }
@[reducible] def o9 : Oper := { dst := some 105, op := Op.call { callee := Callee.value (Operand.func 33), args := #[Operand.tmp 94, Operand.tmp 99, Operand.tmp 104], argTypes := #[23, 3, 3] }, type := 63, pos := "law.go:84", after := #[{ on := 0, ground := Ground.data }, { on := 5, ground := Ground.data }, { on := 10, ground := Ground.data }], guard := none }
@[reducible] def o10 : Oper := { dst := some 117, op := Op.call { callee := Callee.value (Operand.func 35), args := #[Operand.tmp 112, Operand.tmp 116], argTypes := #[23, 51] }, type := 66, pos := "law.go:86", after := #[{ on := 0, ground := Ground.data }, { on := 4, ground := Ground.data }], guard := none }
@[reducible] def o11 : Oper := { dst := some 73, op := Op.call { callee := Callee.value (Operand.func 30), args := #[Operand.tmp 68, Operand.tmp 72], argTypes := #[23, 49] }, type := 58, pos := "law.go:81", after := #[{ on := 0, ground := Ground.data }, { on := 4, ground := Ground.data }], guard := none }
@[reducible] def o12 : Oper := { dst := some 111, op := Op.call { callee := Callee.value (Operand.func 34), args := #[Operand.tmp 106, Operand.tmp 110], argTypes := #[23, 51] }, type := 66, pos := "law.go:85", after := #[{ on := 0, ground := Ground.data }, { on := 4, ground := Ground.data }], guard := none }
@[reducible] def o13 : Oper := { dst := some 91, op := Op.call { callee := Callee.value (Operand.func 32), args := #[Operand.tmp 86, Operand.tmp 90], argTypes := #[23, 51] }, type := 60, pos := "law.go:83", after := #[{ on := 0, ground := Ground.data }, { on := 4, ground := Ground.data }], guard := none }
@[reducible] def o14 : Oper := { dst := some 82, op := Op.call { callee := Callee.value (Operand.func 31), args := #[Operand.tmp 77, Operand.tmp 81], argTypes := #[23, 51] }, type := 60, pos := "law.go:82", after := #[{ on := 0, ground := Ground.data }, { on := 4, ground := Ground.data }], guard := none }
@[reducible] def o15 : Oper := { dst := some 75, op := Op.extract (Operand.tmp 67) 1, type := 39, pos := "law.go:81", after := #[{ on := 6, ground := Ground.data }, { on := 10, ground := Ground.gcOnly Departure.lateStores }], guard := none }
@[reducible] def o16 : Oper := { dst := some 84, op := Op.extract (Operand.tmp 76) 1, type := 39, pos := "law.go:82", after := #[{ on := 6, ground := Ground.data }, { on := 10, ground := Ground.gcOnly Departure.lateStores }], guard := none }
@[reducible] def o17 : Oper := { dst := some 93, op := Op.extract (Operand.tmp 85) 1, type := 39, pos := "law.go:83", after := #[{ on := 6, ground := Ground.data }, { on := 10, ground := Ground.gcOnly Departure.lateStores }], guard := none }
@[reducible] def o18 : Oper := { dst := some 67, op := Op.move (Operand.tmp 73), type := 58, pos := "law.go:81", after := #[{ on := 5, ground := Ground.data }], guard := none }
@[reducible] def o19 : Oper := { dst := some 76, op := Op.move (Operand.tmp 82), type := 60, pos := "law.go:82", after := #[{ on := 5, ground := Ground.data }], guard := none }
@[reducible] def o20 : Oper := { dst := some 85, op := Op.move (Operand.tmp 91), type := 60, pos := "law.go:83", after := #[{ on := 5, ground := Ground.data }], guard := none }
@[reducible] def o21 : Oper := { dst := some 74, op := Op.extract (Operand.tmp 67) 0, type := 49, pos := "law.go:81", after := #[{ on := 6, ground := Ground.data }], guard := none }
@[reducible] def o22 : Oper := { dst := some 83, op := Op.extract (Operand.tmp 76) 0, type := 51, pos := "law.go:82", after := #[{ on := 6, ground := Ground.data }], guard := none }
@[reducible] def o23 : Oper := { dst := some 92, op := Op.extract (Operand.tmp 85) 0, type := 51, pos := "law.go:83", after := #[{ on := 6, ground := Ground.data }], guard := none }
@[reducible] def o24 : Oper := { dst := some 22, op := Op.alloc 63, type := 0, pos := "law.go:84", after := #[], guard := none }
@[reducible] def o25 : Oper := { dst := some 23, op := Op.alloc 66, type := 0, pos := "law.go:85", after := #[], guard := none }
@[reducible] def o26 : Oper := { dst := some 24, op := Op.alloc 66, type := 0, pos := "law.go:86", after := #[], guard := none }
@[reducible] def o27 : Oper := { dst := some 101, op := Op.binOp BinOp.quo 3 (Operand.tmp 100) (Operand.const (Value.int IntKind.i64 2)) 3, type := 3, pos := "law.go:84", after := #[{ on := 6, ground := Ground.data }], guard := none }
@[reducible] def o28 : Oper := { dst := some 108, op := Op.binOp BinOp.quo 3 (Operand.tmp 107) (Operand.const (Value.int IntKind.i64 2)) 3, type := 3, pos := "law.go:85", after := #[{ on := 1, ground := Ground.data }], guard := none }
@[reducible] def o29 : Oper := { dst := some 114, op := Op.binOp BinOp.quo 3 (Operand.tmp 113) (Operand.const (Value.int IntKind.i64 2)) 3, type := 3, pos := "law.go:86", after := #[{ on := 1, ground := Ground.data }], guard := none }
@[reducible] def o30 : Oper := { dst := some 70, op := Op.binOp BinOp.quo 3 (Operand.tmp 69) (Operand.const (Value.int IntKind.i64 2)) 3, type := 3, pos := "law.go:81", after := #[{ on := 1, ground := Ground.data }], guard := none }
@[reducible] def o31 : Oper := { dst := some 79, op := Op.binOp BinOp.quo 3 (Operand.tmp 78) (Operand.const (Value.int IntKind.i64 2)) 3, type := 3, pos := "law.go:82", after := #[{ on := 1, ground := Ground.data }], guard := none }
@[reducible] def o32 : Oper := { dst := some 88, op := Op.binOp BinOp.quo 3 (Operand.tmp 87) (Operand.const (Value.int IntKind.i64 2)) 3, type := 3, pos := "law.go:83", after := #[{ on := 1, ground := Ground.data }], guard := none }
@[reducible] def o33 : Oper := { dst := some 96, op := Op.binOp BinOp.quo 3 (Operand.tmp 95) (Operand.const (Value.int IntKind.i64 2)) 3, type := 3, pos := "law.go:84", after := #[{ on := 1, ground := Ground.data }], guard := none }
@[reducible] def o34 : Oper := { dst := some 16, op := Op.alloc 49, type := 0, pos := "law.go:81", after := #[], guard := none }
@[reducible] def o35 : Oper := { dst := some 18, op := Op.alloc 51, type := 0, pos := "law.go:82", after := #[], guard := none }
@[reducible] def o36 : Oper := { dst := some 20, op := Op.alloc 51, type := 0, pos := "law.go:83", after := #[], guard := none }
@[reducible] def o37 : Oper := { dst := some 102, op := Op.indexAddr 57 (Operand.tmp 13) (Operand.tmp 101), type := 0, pos := "law.go:84", after := #[{ on := 7, ground := Ground.data }], guard := none }
@[reducible] def o38 : Oper := { dst := some 109, op := Op.indexAddr 56 (Operand.tmp 12) (Operand.tmp 108), type := 0, pos := "law.go:85", after := #[{ on := 2, ground := Ground.data }], guard := none }
@[reducible] def o39 : Oper := { dst := some 115, op := Op.indexAddr 56 (Operand.tmp 12) (Operand.tmp 114), type := 0, pos := "law.go:86", after := #[{ on := 2, ground := Ground.data }], guard := none }
@[reducible] def o40 : Oper := { dst := some 71, op := Op.indexAddr 57 (Operand.tmp 13) (Operand.tmp 70), type := 0, pos := "law.go:81", after := #[{ on := 2, ground := Ground.data }], guard := none }
@[reducible] def o41 : Oper := { dst := some 97, op := Op.indexAddr 57 (Operand.tmp 13) (Operand.tmp 96), type := 0, pos := "law.go:84", after := #[{ on := 2, ground := Ground.data }], guard := none }
@[reducible] def o42 : Oper := { dst := some 80, op := Op.indexAddr 56 (Operand.tmp 12) (Operand.tmp 79), type := 0, pos := "law.go:82", after := #[{ on := 2, ground := Ground.data }], guard := none }
@[reducible] def o43 : Oper := { dst := some 89, op := Op.indexAddr 56 (Operand.tmp 12) (Operand.tmp 88), type := 0, pos := "law.go:83", after := #[{ on := 2, ground := Ground.data }], guard := none }
@[reducible] def o44 : Oper := { dst := some 72, op := Op.load 49 (Operand.tmp 71), type := 49, pos := "law.go:81", after := #[{ on := 3, ground := Ground.data }], guard := none }
@[reducible] def o45 : Oper := { dst := some 110, op := Op.load 51 (Operand.tmp 109), type := 51, pos := "law.go:85", after := #[{ on := 3, ground := Ground.data }], guard := none }
@[reducible] def o46 : Oper := { dst := some 116, op := Op.load 51 (Operand.tmp 115), type := 51, pos := "law.go:86", after := #[{ on := 3, ground := Ground.data }], guard := none }
@[reducible] def o47 : Oper := { dst := some 81, op := Op.load 51 (Operand.tmp 80), type := 51, pos := "law.go:82", after := #[{ on := 3, ground := Ground.data }], guard := none }
@[reducible] def o48 : Oper := { dst := some 90, op := Op.load 51 (Operand.tmp 89), type := 51, pos := "law.go:83", after := #[{ on := 3, ground := Ground.data }], guard := none }
@[reducible] def o49 : Oper := { dst := some 103, op := Op.fieldAddr 49 (Operand.tmp 102) 1, type := 0, pos := "law.go:84", after := #[{ on := 8, ground := Ground.data }], guard := none }
@[reducible] def o50 : Oper := { dst := some 98, op := Op.fieldAddr 49 (Operand.tmp 97) 0, type := 0, pos := "law.go:84", after := #[{ on := 3, ground := Ground.data }], guard := none }
@[reducible] def o51 : Oper := { dst := some 104, op := Op.load 3 (Operand.tmp 103), type := 3, pos := "law.go:84", after := #[{ on := 9, ground := Ground.data }], guard := none }
@[reducible] def o52 : Oper := { dst := some 99, op := Op.load 3 (Operand.tmp 98), type := 3, pos := "law.go:84", after := #[{ on := 4, ground := Ground.data }], guard := none }
@[reducible] def o53 : Oper := { dst := some 106, op := Op.load 23 (Operand.tmp 15), type := 23, pos := "law.go:85", after := #[], guard := none }
@[reducible] def o54 : Oper := { dst := some 112, op := Op.load 23 (Operand.tmp 15), type := 23, pos := "law.go:86", after := #[], guard := none }
@[reducible] def o55 : Oper := { dst := some 68, op := Op.load 23 (Operand.tmp 15), type := 23, pos := "law.go:81", after := #[], guard := none }
@[reducible] def o56 : Oper := { dst := some 77, op := Op.load 23 (Operand.tmp 15), type := 23, pos := "law.go:82", after := #[], guard := none }
@[reducible] def o57 : Oper := { dst := some 86, op := Op.load 23 (Operand.tmp 15), type := 23, pos := "law.go:83", after := #[], guard := none }
@[reducible] def o58 : Oper := { dst := some 94, op := Op.load 23 (Operand.tmp 15), type := 23, pos := "law.go:84", after := #[], guard := none }
@[reducible] def o59 : Oper := { dst := some 100, op := Op.move (Operand.tmp 14), type := 3, pos := "law.go:84", after := #[], guard := none }
@[reducible] def o60 : Oper := { dst := some 107, op := Op.move (Operand.tmp 14), type := 3, pos := "law.go:85", after := #[], guard := none }
@[reducible] def o61 : Oper := { dst := some 113, op := Op.move (Operand.tmp 14), type := 3, pos := "law.go:86", after := #[], guard := none }
@[reducible] def o62 : Oper := { dst := some 69, op := Op.move (Operand.tmp 14), type := 3, pos := "law.go:81", after := #[], guard := none }
@[reducible] def o63 : Oper := { dst := some 78, op := Op.move (Operand.tmp 14), type := 3, pos := "law.go:82", after := #[], guard := none }
@[reducible] def o64 : Oper := { dst := some 87, op := Op.move (Operand.tmp 14), type := 3, pos := "law.go:83", after := #[], guard := none }
@[reducible] def o65 : Oper := { dst := some 95, op := Op.move (Operand.tmp 14), type := 3, pos := "law.go:84", after := #[], guard := none }
theorem zero_pt (w : World) : (zeroValue 49).run Try.prog w = .ok (tv 0 0) w := by kernel_rfl
theorem zero_pos (w : World) : (zeroValue 63).run Try.prog w = .ok (.agg #[.int .i64 0, .int .i64 0, .int .i64 0]) w := by kernel_rfl
theorem zero_box (w : World) : (zeroValue 66).run Try.prog w = .ok (.agg #[.int .i64 0, .int .i64 0, .int .i64 0, .int .i64 0, .int .i64 0]) w := by kernel_rfl

set_option maxHeartbeats 8000000 in
set_option maxRecDepth 100000 in
theorem walk (p0 p1 p2 p3 p4 p5 p6 p7 p8 p9 p10 p11 p12 q0 q1 q2 q3 q4 q5 q6 : Int) (w : World) : Calls Try.prog 5 #[.agg #[.int .i64 p0, .int .i64 p1, .int .i64 p2, .int .i64 p3, .int .i64 p4, .int .i64 p5, .int .i64 p6, .int .i64 p7, .int .i64 p8, .int .i64 p9, .int .i64 p10, .int .i64 p11, .int .i64 p12], .agg #[.int .i64 q0, .int .i64 q1, .int .i64 q2, .int .i64 q3, .int .i64 q4, .int .i64 q5, .int .i64 q6]] w fun en w' => en = .returned (.bool true) ∧ Below w.heap.size w w' := by
  obtain ⟨s0, s1, s2, s3, s4, s5, s6, hsm⟩ : ∃ s0 s1 s2 s3 s4 s5 s6, sm7 q0 q1 q2 q3 q4 q5 q6 = ⟨s0, s1, s2, s3, s4, s5, s6⟩ := ⟨_, _, _, _, _, _, _, rfl⟩
  have hsl := sm7_sl q0 q1 q2 q3 q4 q5 q6
  rw [hsm] at hsl
  have HSM : Hid (∀ W, Calls Try.prog 14 #[.agg #[.int .i64 q0, .int .i64 q1, .int .i64 q2, .int .i64 q3, .int .i64 q4, .int .i64 q5, .int .i64 q6]] W fun en w' => en = .returned (av s0 s1 s2 s3 s4 s5 s6) ∧ Below W.heap.size W w') := fun W => by
    have := sm7_any q0 q1 q2 q3 q4 q5 q6 W; rw [hsm] at this; exact this
  clear hsm
  clear hsl
  obtain ⟨k0, k1, k2, k3, hrr⟩ : ∃ k0 k1 k2 k3, sml p9 p10 p11 p12 = ⟨k0, k1, k2, k3⟩ := ⟨_, _, _, _, rfl⟩
  have HSR : Hid (∀ W, Calls Try.prog 29 #[.agg #[.int .i64 p9, .int .i64 p10, .int .i64 p11, .int .i64 p12]] W fun en w' => en = .returned (rv k0 k1 k2 k3) ∧ Below W.heap.size W w') := fun W => by
    have := small_any p9 p10 p11 p12 W; rw [hrr] at this; exact this
  clear hrr
  obtain ⟨u, hu⟩ : ∃ z, p7.tmod 100 = z := ⟨_, rfl⟩
  obtain ⟨v, hv⟩ : ∃ z, p8.tmod 100 = z := ⟨_, rfl⟩
  go_enter Try.func5, Try.ntmps5
  go_upto_region 1 with fail
  have h0 := (((St.start w).alloc ((.cells #[.int .i64 p0, .int .i64 p1, .int .i64 p2, .int .i64 p3, .int .i64 p4, .int .i64 p5, .int .i64 p6, .int .i64 p7, .int .i64 p8, .int .i64 p9, .int .i64 p10, .int .i64 p11, .int .i64 p12] 53 : Obj))).alloc ((.cells #[.int .i64 q0, .int .i64 q1, .int .i64 q2, .int .i64 q3, .int .i64 q4, .int .i64 q5, .int .i64 q6] 26 : Obj)))
  try simp only [World.size_alloc] at h0
  generalize hb0 : w.heap.size = b0 at h0 ⊢
  generalize (w.alloc ((.cells #[.int .i64 p0, .int .i64 p1, .int .i64 p2, .int .i64 p3, .int .i64 p4, .int .i64 p5, .int .i64 p6, .int .i64 p7, .int .i64 p8, .int .i64 p9, .int .i64 p10, .int .i64 p11, .int .i64 p12] 53 : Obj))).alloc ((.cells #[.int .i64 q0, .int .i64 q1, .int .i64 q2, .int .i64 q3, .int .i64 q4, .int .i64 q5, .int .i64 q6] 26 : Obj)) = w0 at h0 ⊢
  go_upto_region 2 with (first | (go_at_call 13; (with_reducible refine (St.call h0 (sane_any _)).mono ?_); rintro en w1 ⟨rfl, h1⟩))
  have zh10 := St.cell h1 (b := b0) (cs := #[.int .i64 p0, .int .i64 p1, .int .i64 p2, .int .i64 p3, .int .i64 p4, .int .i64 p5, .int .i64 p6, .int .i64 p7, .int .i64 p8, .int .i64 p9, .int .i64 p10, .int .i64 p11, .int .i64 p12]) (t := 53) (by simp) 0; have zh11 := St.cell h1 (b := b0) (cs := #[.int .i64 p0, .int .i64 p1, .int .i64 p2, .int .i64 p3, .int .i64 p4, .int .i64 p5, .int .i64 p6, .int .i64 p7, .int .i64 p8, .int .i64 p9, .int .i64 p10, .int .i64 p11, .int .i64 p12]) (t := 53) (by simp) 1; have zh12 := St.cell h1 (b := b0) (cs := #[.int .i64 p0, .int .i64 p1, .int .i64 p2, .int .i64 p3, .int .i64 p4, .int .i64 p5, .int .i64 p6, .int .i64 p7, .int .i64 p8, .int .i64 p9, .int .i64 p10, .int .i64 p11, .int .i64 p12]) (t := 53) (by simp) 2; have zh13 := St.cell h1 (b := b0) (cs := #[.int .i64 p0, .int .i64 p1, .int .i64 p2, .int .i64 p3, .int .i64 p4, .int .i64 p5, .int .i64 p6, .int .i64 p7, .int .i64 p8, .int .i64 p9, .int .i64 p10, .int .i64 p11, .int .i64 p12]) (t := 53) (by simp) 3; have zh14 := St.cell h1 (b := b0) (cs := #[.int .i64 p0, .int .i64 p1, .int .i64 p2, .int .i64 p3, .int .i64 p4, .int .i64 p5, .int .i64 p6, .int .i64 p7, .int .i64 p8, .int .i64 p9, .int .i64 p10, .int .i64 p11, .int .i64 p12]) (t := 53) (by simp) 4; have zh15 := St.cell h1 (b := b0) (cs := #[.int .i64 p0, .int .i64 p1, .int .i64 p2, .int .i64 p3, .int .i64 p4, .int .i64 p5, .int .i64 p6, .int .i64 p7, .int .i64 p8, .int .i64 p9, .int .i64 p10, .int .i64 p11, .int .i64 p12]) (t := 53) (by simp) 5; have zh16 := St.cell h1 (b := b0) (cs := #[.int .i64 p0, .int .i64 p1, .int .i64 p2, .int .i64 p3, .int .i64 p4, .int .i64 p5, .int .i64 p6, .int .i64 p7, .int .i64 p8, .int .i64 p9, .int .i64 p10, .int .i64 p11, .int .i64 p12]) (t := 53) (by simp) 6; have zh17 := St.cell h1 (b := b0) (cs := #[.int .i64 p0, .int .i64 p1, .int .i64 p2, .int .i64 p3, .int .i64 p4, .int .i64 p5, .int .i64 p6, .int .i64 p7, .int .i64 p8, .int .i64 p9, .int .i64 p10, .int .i64 p11, .int .i64 p12]) (t := 53) (by simp) 7; have zh18 := St.cell h1 (b := b0) (cs := #[.int .i64 p0, .int .i64 p1, .int .i64 p2, .int .i64 p3, .int .i64 p4, .int .i64 p5, .int .i64 p6, .int .i64 p7, .int .i64 p8, .int .i64 p9, .int .i64 p10, .int .i64 p11, .int .i64 p12]) (t := 53) (by simp) 8; have zh19 := St.cell h1 (b := b0) (cs := #[.int .i64 p0, .int .i64 p1, .int .i64 p2, .int .i64 p3, .int .i64 p4, .int .i64 p5, .int .i64 p6, .int .i64 p7, .int .i64 p8, .int .i64 p9, .int .i64 p10, .int .i64 p11, .int .i64 p12]) (t := 53) (by simp) 9; have zh110 := St.cell h1 (b := b0) (cs := #[.int .i64 p0, .int .i64 p1, .int .i64 p2, .int .i64 p3, .int .i64 p4, .int .i64 p5, .int .i64 p6, .int .i64 p7, .int .i64 p8, .int .i64 p9, .int .i64 p10, .int .i64 p11, .int .i64 p12]) (t := 53) (by simp) 10; have zh111 := St.cell h1 (b := b0) (cs := #[.int .i64 p0, .int .i64 p1, .int .i64 p2, .int .i64 p3, .int .i64 p4, .int .i64 p5, .int .i64 p6, .int .i64 p7, .int .i64 p8, .int .i64 p9, .int .i64 p10, .int .i64 p11, .int .i64 p12]) (t := 53) (by simp) 11; have zh112 := St.cell h1 (b := b0) (cs := #[.int .i64 p0, .int .i64 p1, .int .i64 p2, .int .i64 p3, .int .i64 p4, .int .i64 p5, .int .i64 p6, .int .i64 p7, .int .i64 p8, .int .i64 p9, .int .i64 p10, .int .i64 p11, .int .i64 p12]) (t := 53) (by simp) 12; simp only [z4, z5, z6] at zh10 zh11 zh12 zh13 zh14 zh15 zh16 zh17 zh18 zh19 zh110 zh111 zh112
  go_upto_region 3 with fail
  have h2 := h1.alloc (ao p0 p1 p2 p3 p4 p5 p6)
  generalize w1.heap.size = c1 at h2 ⊢
  generalize w1.alloc (ao p0 p1 p2 p3 p4 p5 p6) = w2 at h2 ⊢
  have zh20 := St.cell h2 (b := b0) (cs := #[.int .i64 p0, .int .i64 p1, .int .i64 p2, .int .i64 p3, .int .i64 p4, .int .i64 p5, .int .i64 p6, .int .i64 p7, .int .i64 p8, .int .i64 p9, .int .i64 p10, .int .i64 p11, .int .i64 p12]) (t := 53) (by simp) 0; have zh21 := St.cell h2 (b := b0) (cs := #[.int .i64 p0, .int .i64 p1, .int .i64 p2, .int .i64 p3, .int .i64 p4, .int .i64 p5, .int .i64 p6, .int .i64 p7, .int .i64 p8, .int .i64 p9, .int .i64 p10, .int .i64 p11, .int .i64 p12]) (t := 53) (by simp) 1; have zh22 := St.cell h2 (b := b0) (cs := #[.int .i64 p0, .int .i64 p1, .int .i64 p2, .int .i64 p3, .int .i64 p4, .int .i64 p5, .int .i64 p6, .int .i64 p7, .int .i64 p8, .int .i64 p9, .int .i64 p10, .int .i64 p11, .int .i64 p12]) (t := 53) (by simp) 2; have zh23 := St.cell h2 (b := b0) (cs := #[.int .i64 p0, .int .i64 p1, .int .i64 p2, .int .i64 p3, .int .i64 p4, .int .i64 p5, .int .i64 p6, .int .i64 p7, .int .i64 p8, .int .i64 p9, .int .i64 p10, .int .i64 p11, .int .i64 p12]) (t := 53) (by simp) 3; have zh24 := St.cell h2 (b := b0) (cs := #[.int .i64 p0, .int .i64 p1, .int .i64 p2, .int .i64 p3, .int .i64 p4, .int .i64 p5, .int .i64 p6, .int .i64 p7, .int .i64 p8, .int .i64 p9, .int .i64 p10, .int .i64 p11, .int .i64 p12]) (t := 53) (by simp) 4; have zh25 := St.cell h2 (b := b0) (cs := #[.int .i64 p0, .int .i64 p1, .int .i64 p2, .int .i64 p3, .int .i64 p4, .int .i64 p5, .int .i64 p6, .int .i64 p7, .int .i64 p8, .int .i64 p9, .int .i64 p10, .int .i64 p11, .int .i64 p12]) (t := 53) (by simp) 5; have zh26 := St.cell h2 (b := b0) (cs := #[.int .i64 p0, .int .i64 p1, .int .i64 p2, .int .i64 p3, .int .i64 p4, .int .i64 p5, .int .i64 p6, .int .i64 p7, .int .i64 p8, .int .i64 p9, .int .i64 p10, .int .i64 p11, .int .i64 p12]) (t := 53) (by simp) 6; have zh27 := St.cell h2 (b := b0) (cs := #[.int .i64 p0, .int .i64 p1, .int .i64 p2, .int .i64 p3, .int .i64 p4, .int .i64 p5, .int .i64 p6, .int .i64 p7, .int .i64 p8, .int .i64 p9, .int .i64 p10, .int .i64 p11, .int .i64 p12]) (t := 53) (by simp) 7; have zh28 := St.cell h2 (b := b0) (cs := #[.int .i64 p0, .int .i64 p1, .int .i64 p2, .int .i64 p3, .int .i64 p4, .int .i64 p5, .int .i64 p6, .int .i64 p7, .int .i64 p8, .int .i64 p9, .int .i64 p10, .int .i64 p11, .int .i64 p12]) (t := 53) (by simp) 8; have zh29 := St.cell h2 (b := b0) (cs := #[.int .i64 p0, .int .i64 p1, .int .i64 p2, .int .i64 p3, .int .i64 p4, .int .i64 p5, .int .i64 p6, .int .i64 p7, .int .i64 p8, .int .i64 p9, .int .i64 p10, .int .i64 p11, .int .i64 p12]) (t := 53) (by simp) 9; have zh210 := St.cell h2 (b := b0) (cs := #[.int .i64 p0, .int .i64 p1, .int .i64 p2, .int .i64 p3, .int .i64 p4, .int .i64 p5, .int .i64 p6, .int .i64 p7, .int .i64 p8, .int .i64 p9, .int .i64 p10, .int .i64 p11, .int .i64 p12]) (t := 53) (by simp) 10; have zh211 := St.cell h2 (b := b0) (cs := #[.int .i64 p0, .int .i64 p1, .int .i64 p2, .int .i64 p3, .int .i64 p4, .int .i64 p5, .int .i64 p6, .int .i64 p7, .int .i64 p8, .int .i64 p9, .int .i64 p10, .int .i64 p11, .int .i64 p12]) (t := 53) (by simp) 11; have zh212 := St.cell h2 (b := b0) (cs := #[.int .i64 p0, .int .i64 p1, .int .i64 p2, .int .i64 p3, .int .i64 p4, .int .i64 p5, .int .i64 p6, .int .i64 p7, .int .i64 p8, .int .i64 p9, .int .i64 p10, .int .i64 p11, .int .i64 p12]) (t := 53) (by simp) 12; simp only [z4, z5, z6] at zh20 zh21 zh22 zh23 zh24 zh25 zh26 zh27 zh28 zh29 zh210 zh211 zh212
  go_upto_region 4 with fail
  have h3 := h2.alloc (pob p7 p8)
  generalize w2.heap.size = c2 at h3 ⊢
  generalize w2.alloc (pob p7 p8) = w3 at h3 ⊢
  have zh30 := St.cell h3 (b := b0) (cs := #[.int .i64 p0, .int .i64 p1, .int .i64 p2, .int .i64 p3, .int .i64 p4, .int .i64 p5, .int .i64 p6, .int .i64 p7, .int .i64 p8, .int .i64 p9, .int .i64 p10, .int .i64 p11, .int .i64 p12]) (t := 53) (by simp) 0; have zh31 := St.cell h3 (b := b0) (cs := #[.int .i64 p0, .int .i64 p1, .int .i64 p2, .int .i64 p3, .int .i64 p4, .int .i64 p5, .int .i64 p6, .int .i64 p7, .int .i64 p8, .int .i64 p9, .int .i64 p10, .int .i64 p11, .int .i64 p12]) (t := 53) (by simp) 1; have zh32 := St.cell h3 (b := b0) (cs := #[.int .i64 p0, .int .i64 p1, .int .i64 p2, .int .i64 p3, .int .i64 p4, .int .i64 p5, .int .i64 p6, .int .i64 p7, .int .i64 p8, .int .i64 p9, .int .i64 p10, .int .i64 p11, .int .i64 p12]) (t := 53) (by simp) 2; have zh33 := St.cell h3 (b := b0) (cs := #[.int .i64 p0, .int .i64 p1, .int .i64 p2, .int .i64 p3, .int .i64 p4, .int .i64 p5, .int .i64 p6, .int .i64 p7, .int .i64 p8, .int .i64 p9, .int .i64 p10, .int .i64 p11, .int .i64 p12]) (t := 53) (by simp) 3; have zh34 := St.cell h3 (b := b0) (cs := #[.int .i64 p0, .int .i64 p1, .int .i64 p2, .int .i64 p3, .int .i64 p4, .int .i64 p5, .int .i64 p6, .int .i64 p7, .int .i64 p8, .int .i64 p9, .int .i64 p10, .int .i64 p11, .int .i64 p12]) (t := 53) (by simp) 4; have zh35 := St.cell h3 (b := b0) (cs := #[.int .i64 p0, .int .i64 p1, .int .i64 p2, .int .i64 p3, .int .i64 p4, .int .i64 p5, .int .i64 p6, .int .i64 p7, .int .i64 p8, .int .i64 p9, .int .i64 p10, .int .i64 p11, .int .i64 p12]) (t := 53) (by simp) 5; have zh36 := St.cell h3 (b := b0) (cs := #[.int .i64 p0, .int .i64 p1, .int .i64 p2, .int .i64 p3, .int .i64 p4, .int .i64 p5, .int .i64 p6, .int .i64 p7, .int .i64 p8, .int .i64 p9, .int .i64 p10, .int .i64 p11, .int .i64 p12]) (t := 53) (by simp) 6; have zh37 := St.cell h3 (b := b0) (cs := #[.int .i64 p0, .int .i64 p1, .int .i64 p2, .int .i64 p3, .int .i64 p4, .int .i64 p5, .int .i64 p6, .int .i64 p7, .int .i64 p8, .int .i64 p9, .int .i64 p10, .int .i64 p11, .int .i64 p12]) (t := 53) (by simp) 7; have zh38 := St.cell h3 (b := b0) (cs := #[.int .i64 p0, .int .i64 p1, .int .i64 p2, .int .i64 p3, .int .i64 p4, .int .i64 p5, .int .i64 p6, .int .i64 p7, .int .i64 p8, .int .i64 p9, .int .i64 p10, .int .i64 p11, .int .i64 p12]) (t := 53) (by simp) 8; have zh39 := St.cell h3 (b := b0) (cs := #[.int .i64 p0, .int .i64 p1, .int .i64 p2, .int .i64 p3, .int .i64 p4, .int .i64 p5, .int .i64 p6, .int .i64 p7, .int .i64 p8, .int .i64 p9, .int .i64 p10, .int .i64 p11, .int .i64 p12]) (t := 53) (by simp) 9; have zh310 := St.cell h3 (b := b0) (cs := #[.int .i64 p0, .int .i64 p1, .int .i64 p2, .int .i64 p3, .int .i64 p4, .int .i64 p5, .int .i64 p6, .int .i64 p7, .int .i64 p8, .int .i64 p9, .int .i64 p10, .int .i64 p11, .int .i64 p12]) (t := 53) (by simp) 10; have zh311 := St.cell h3 (b := b0) (cs := #[.int .i64 p0, .int .i64 p1, .int .i64 p2, .int .i64 p3, .int .i64 p4, .int .i64 p5, .int .i64 p6, .int .i64 p7, .int .i64 p8, .int .i64 p9, .int .i64 p10, .int .i64 p11, .int .i64 p12]) (t := 53) (by simp) 11; have zh312 := St.cell h3 (b := b0) (cs := #[.int .i64 p0, .int .i64 p1, .int .i64 p2, .int .i64 p3, .int .i64 p4, .int .i64 p5, .int .i64 p6, .int .i64 p7, .int .i64 p8, .int .i64 p9, .int .i64 p10, .int .i64 p11, .int .i64 p12]) (t := 53) (by simp) 12; simp only [z4, z5, z6] at zh30 zh31 zh32 zh33 zh34 zh35 zh36 zh37 zh38 zh39 zh310 zh311 zh312
  go_upto_region 5 with fail
  have h4 := h3.alloc (ro p9 p10 p11 p12)
  generalize w3.heap.size = c3 at h4 ⊢
  generalize w3.alloc (ro p9 p10 p11 p12) = w4 at h4 ⊢
  have zh40 := St.cell h4 (b := b0 + 1) (cs := #[.int .i64 q0, .int .i64 q1, .int .i64 q2, .int .i64 q3, .int .i64 q4, .int .i64 q5, .int .i64 q6]) (t := 26) (by simp) 0; have zh41 := St.cell h4 (b := b0 + 1) (cs := #[.int .i64 q0, .int .i64 q1, .int .i64 q2, .int .i64 q3, .int .i64 q4, .int .i64 q5, .int .i64 q6]) (t := 26) (by simp) 1; have zh42 := St.cell h4 (b := b0 + 1) (cs := #[.int .i64 q0, .int .i64 q1, .int .i64 q2, .int .i64 q3, .int .i64 q4, .int .i64 q5, .int .i64 q6]) (t := 26) (by simp) 2; have zh43 := St.cell h4 (b := b0 + 1) (cs := #[.int .i64 q0, .int .i64 q1, .int .i64 q2, .int .i64 q3, .int .i64 q4, .int .i64 q5, .int .i64 q6]) (t := 26) (by simp) 3; have zh44 := St.cell h4 (b := b0 + 1) (cs := #[.int .i64 q0, .int .i64 q1, .int .i64 q2, .int .i64 q3, .int .i64 q4, .int .i64 q5, .int .i64 q6]) (t := 26) (by simp) 4; have zh45 := St.cell h4 (b := b0 + 1) (cs := #[.int .i64 q0, .int .i64 q1, .int .i64 q2, .int .i64 q3, .int .i64 q4, .int .i64 q5, .int .i64 q6]) (t := 26) (by simp) 5; have zh46 := St.cell h4 (b := b0 + 1) (cs := #[.int .i64 q0, .int .i64 q1, .int .i64 q2, .int .i64 q3, .int .i64 q4, .int .i64 q5, .int .i64 q6]) (t := 26) (by simp) 6; simp only [z4, z5, z6] at zh40 zh41 zh42 zh43 zh44 zh45 zh46
  go_upto_region 6 with (first | (go_at_call 14; (with_reducible refine (St.call h4 (HSM.out _)).mono ?_); rintro en w5 ⟨rfl, h5⟩))
  have h6 := h5.alloc (ao s0 s1 s2 s3 s4 s5 s6)
  generalize w5.heap.size = c4 at h6 ⊢
  generalize w5.alloc (ao s0 s1 s2 s3 s4 s5 s6) = w6 at h6 ⊢
  obtain ⟨_, _, _, _⟩ := St.rect h6 (b := c3) (x0 := p9) (x1 := p10) (x2 := p11) (x3 := p12) (by simp)
  go_upto_region 7 with (first | (go_at_call 29; (with_reducible refine (St.call h6 (HSR.out _)).mono ?_); rintro en w7 ⟨rfl, h7⟩))
  have h8 := h7.alloc (ro k0 k1 k2 k3)
  generalize w7.heap.size = c5 at h8 ⊢
  generalize w7.alloc (ro k0 k1 k2 k3) = w8 at h8 ⊢
  obtain ⟨_, _, _, _, _, _, _⟩ := St.aff h8 (b := c1) (a := p0) (b' := p1) (c := p2) (d := p3) (e := p4) (f := p5) (n := p6) (by simp)
  obtain ⟨_, _, _, _, _, _, _⟩ := St.aff h8 (b := c4) (a := s0) (b' := s1) (c := s2) (d := s3) (e := s4) (f := s5) (n := s6) (by simp)
  go_upto_region 8 with fail
  have h9 := h8.alloc ((.cells #[.int .i64 p0, .int .i64 p1, .int .i64 p2, .int .i64 p3, .int .i64 p4, .int .i64 p5, .int .i64 p6, .int .i64 s0, .int .i64 s1, .int .i64 s2, .int .i64 s3, .int .i64 s4, .int .i64 s5, .int .i64 s6] 37 : Obj))
  generalize w8.heap.size = c6 at h9 ⊢
  generalize w8.alloc ((.cells #[.int .i64 p0, .int .i64 p1, .int .i64 p2, .int .i64 p3, .int .i64 p4, .int .i64 p5, .int .i64 p6, .int .i64 s0, .int .i64 s1, .int .i64 s2, .int .i64 s3, .int .i64 s4, .int .i64 s5, .int .i64 s6] 37 : Obj)) = w9 at h9 ⊢
  obtain ⟨_, _, _, _⟩ := St.rect h9 (b := c3) (x0 := p9) (x1 := p10) (x2 := p11) (x3 := p12) (by simp)
  obtain ⟨_, _, _, _⟩ := St.rect h9 (b := c5) (x0 := k0) (x1 := k1) (x2 := k2) (x3 := k3) (by simp)
  go_upto_region 9 with fail
  have h10 := h9.alloc ((.cells #[.int .i64 p9, .int .i64 p10, .int .i64 p11, .int .i64 p12, .int .i64 k0, .int .i64 k1, .int .i64 k2, .int .i64 k3] 56 : Obj))
  generalize w9.heap.size = c7 at h10 ⊢
  generalize w9.alloc ((.cells #[.int .i64 p9, .int .i64 p10, .int .i64 p11, .int .i64 p12, .int .i64 k0, .int .i64 k1, .int .i64 k2, .int .i64 k3] 56 : Obj)) = w10 at h10 ⊢
  obtain ⟨_, _⟩ := St.pt h10 (b := c2) (x := p7) (y := p8) (by simp)
  go_upto_region 10 with fail
  have h11 := h10.alloc ((.cells #[.int .i64 p7, .int .i64 p8, .int .i64 u, .int .i64 v] 57 : Obj))
  generalize w10.heap.size = c8 at h11 ⊢
  generalize w10.alloc ((.cells #[.int .i64 p7, .int .i64 p8, .int .i64 u, .int .i64 v] 57 : Obj)) = w11 at h11 ⊢
  have HQ0 := h11.sub (L' := [(c8, (.cells #[.int .i64 p7, .int .i64 p8, .int .i64 u, .int .i64 v] 57 : Obj)), (c7, (.cells #[.int .i64 p9, .int .i64 p10, .int .i64 p11, .int .i64 p12, .int .i64 k0, .int .i64 k1, .int .i64 k2, .int .i64 k3] 56 : Obj)), (c6, (.cells #[.int .i64 p0, .int .i64 p1, .int .i64 p2, .int .i64 p3, .int .i64 p4, .int .i64 p5, .int .i64 p6, .int .i64 s0, .int .i64 s1, .int .i64 s2, .int .i64 s3, .int .i64 s4, .int .i64 s5, .int .i64 s6] 37 : Obj))]) (by intro x hx; simp at hx; rcases hx with rfl | rfl | rfl <;> simp)
  obtain ⟨OP, hOP⟩ : ∃ O : Obj, O = (.cells #[.int .i64 p7, .int .i64 p8, .int .i64 u, .int .i64 v] 57 : Obj) := ⟨_, rfl⟩
  obtain ⟨OR, hOR⟩ : ∃ O : Obj, O = (.cells #[.int .i64 p9, .int .i64 p10, .int .i64 p11, .int .i64 p12, .int .i64 k0, .int .i64 k1, .int .i64 k2, .int .i64 k3] 56 : Obj) := ⟨_, rfl⟩
  obtain ⟨OA, hOA⟩ : ∃ O : Obj, O = (.cells #[.int .i64 p0, .int .i64 p1, .int .i64 p2, .int .i64 p3, .int .i64 p4, .int .i64 p5, .int .i64 p6, .int .i64 s0, .int .i64 s1, .int .i64 s2, .int .i64 s3, .int .i64 s4, .int .i64 s5, .int .i64 s6] 37 : Obj) := ⟨_, rfl⟩
  rw [← hOP, ← hOR, ← hOA] at HQ0
  have HCA0 : Hid (∀ V : World, V.heap[c6]? = some OA → V.cell? ⟨c6, 0, none⟩ = some (.int .i64 p0) ∧ V.cell? ⟨c6, 1, none⟩ = some (.int .i64 p1) ∧ V.cell? ⟨c6, 2, none⟩ = some (.int .i64 p2) ∧ V.cell? ⟨c6, 3, none⟩ = some (.int .i64 p3) ∧ V.cell? ⟨c6, 4, none⟩ = some (.int .i64 p4) ∧ V.cell? ⟨c6, 5, none⟩ = some (.int .i64 p5) ∧ V.cell? ⟨c6, 6, none⟩ = some (.int .i64 p6)) := fun V hV => by subst hOA; exact ⟨cell_of_row V c6 0 _ _ _ hV, cell_of_row V c6 1 _ _ _ hV, cell_of_row V c6 2 _ _ _ hV, cell_of_row V c6 3 _ _ _ hV, cell_of_row V c6 4 _ _ _ hV, cell_of_row V c6 5 _ _ _ hV, cell_of_row V c6 6 _ _ _ hV⟩
  have HCR0 : Hid (∀ V : World, V.heap[c7]? = some OR → V.cell? ⟨c7, 0, none⟩ = some (.int .i64 p9) ∧ V.cell? ⟨c7, 1, none⟩ = some (.int .i64 p10) ∧ V.cell? ⟨c7, 2, none⟩ = some (.int .i64 p11) ∧ V.cell? ⟨c7, 3, none⟩ = some (.int .i64 p12)) := fun V hV => by subst hOR; exact ⟨cell_of_row V c7 0 _ _ _ hV, cell_of_row V c7 1 _ _ _ hV, cell_of_row V c7 2 _ _ _ hV, cell_of_row V c7 3 _ _ _ hV⟩
  have HCP0 : Hid (∀ V : World, V.heap[c8]? = some OP → V.cell? ⟨c8, 0, none⟩ = some (.int .i64 p7) ∧ V.cell? ⟨c8, 1, none⟩ = some (.int .i64 p8)) := fun V hV => by subst hOP; exact ⟨cell_of_row V c8 0 _ _ _ hV, cell_of_row V c8 1 _ _ _ hV⟩
  have HCA1 : Hid (∀ V : World, V.heap[c6]? = some OA → V.cell? ⟨c6, 7, none⟩ = some (.int .i64 s0) ∧ V.cell? ⟨c6, 8, none⟩ = some (.int .i64 s1) ∧ V.cell? ⟨c6, 9, none⟩ = some (.int .i64 s2) ∧ V.cell? ⟨c6, 10, none⟩ = some (.int .i64 s3) ∧ V.cell? ⟨c6, 11, none⟩ = some (.int .i64 s4) ∧ V.cell? ⟨c6, 12, none⟩ = some (.int .i64 s5) ∧ V.cell? ⟨c6, 13, none⟩ = some (.int .i64 s6)) := fun V hV => by subst hOA; exact ⟨cell_of_row V c6 7 _ _ _ hV, cell_of_row V c6 8 _ _ _ hV, cell_of_row V c6 9 _ _ _ hV, cell_of_row V c6 10 _ _ _ hV, cell_of_row V c6 11 _ _ _ hV, cell_of_row V c6 12 _ _ _ hV, cell_of_row V c6 13 _ _ _ hV⟩
  have HCR1 : Hid (∀ V : World, V.heap[c7]? = some OR → V.cell? ⟨c7, 4, none⟩ = some (.int .i64 k0) ∧ V.cell? ⟨c7, 5, none⟩ = some (.int .i64 k1) ∧ V.cell? ⟨c7, 6, none⟩ = some (.int .i64 k2) ∧ V.cell? ⟨c7, 7, none⟩ = some (.int .i64 k3)) := fun V hV => by subst hOR; exact ⟨cell_of_row V c7 4 _ _ _ hV, cell_of_row V c7 5 _ _ _ hV, cell_of_row V c7 6 _ _ _ hV, cell_of_row V c7 7 _ _ _ hV⟩
  have HCP1 : Hid (∀ V : World, V.heap[c8]? = some OP → V.cell? ⟨c8, 2, none⟩ = some (.int .i64 u) ∧ V.cell? ⟨c8, 3, none⟩ = some (.int .i64 v)) := fun V hV => by subst hOP; exact ⟨cell_of_row V c8 2 _ _ _ hV, cell_of_row V c8 3 _ _ _ hV⟩
  have HQ := Lib.hid HQ0
  clear HQ0 hOA hOR hOP hu hv HSM HSR h0 h1 h2 h3 h4 h5 h6 h7 h8 h9 h10 h11
  go_wp2_with fail
  go_loopw [14] (fun i wr => (i = .int .i64 0 ∨ i = .int .i64 1 ∨ i = .int .i64 2 ∨ i = .int .i64 3 ∨ i = .int .i64 4) ∧ Hid (St w [(c8, OP), (c7, OR), (c6, OA)] wr)) (fun i _ => 4 - (intOf i).toNat)
  case atStart => exact ⟨.inl rfl, HQ⟩
  case round =>
    clear HQ
    obtain ⟨hi, HS⟩ := hrel
    have hS := HS.out
    clear HS
    obtain rfl | rfl | rfl | rfl | rfl := hi
    · as_aux_lemma =>
      obtain ⟨X, Y, E, hsr⟩ : ∃ X Y E, srcT ⟨p0, p1, p2, p3, p4, p5, p6⟩ p7 p8 = ⟨X, Y, E⟩ := ⟨_, _, _, rfl⟩
      obtain ⟨n0, n1, n2, n3, n4, hnd⟩ : ∃ n0 n1 n2 n3 n4, needT ⟨p0, p1, p2, p3, p4, p5, p6⟩ p9 p10 p11 p12 = ⟨n0, n1, n2, n3, n4⟩ := ⟨_, _, _, _, _, rfl⟩
      obtain ⟨m0, m1, m2, m3, m4, hbn⟩ : ∃ m0 m1 m2 m3 m4, boundsT ⟨p0, p1, p2, p3, p4, p5, p6⟩ p9 p10 p11 p12 = ⟨m0, m1, m2, m3, m4⟩ := ⟨_, _, _, _, _, rfl⟩
      have HS : Hid (∀ W, Calls Try.prog 30 #[av p0 p1 p2 p3 p4 p5 p6, tv p7 p8] W fun en w' => en = .returned (.tuple #[tv X Y, .int .i64 E]) ∧ Below W.heap.size W w') := fun W => by
        have := sourceT_any p0 p1 p2 p3 p4 p5 p6 p7 p8 W; rw [hsr] at this; exact this
      have HN : Hid (∀ W, Calls Try.prog 31 #[av p0 p1 p2 p3 p4 p5 p6, rv p9 p10 p11 p12] W fun en w' => en = .returned (.tuple #[rv n0 n1 n2 n3, .int .i64 n4]) ∧ Below W.heap.size W w') := fun W => by
        have := needT_any p0 p1 p2 p3 p4 p5 p6 p9 p10 p11 p12 W; rw [hnd] at this; exact this
      have HB : Hid (∀ W, Calls Try.prog 32 #[av p0 p1 p2 p3 p4 p5 p6, rv p9 p10 p11 p12] W fun en w' => en = .returned (.tuple #[rv m0 m1 m2 m3, .int .i64 m4]) ∧ Below W.heap.size W w') := fun W => by
        have := boundsT_any p0 p1 p2 p3 p4 p5 p6 p9 p10 p11 p12 W; rw [hbn] at this; exact this
      have HRS : Hid (∀ W, Calls Try.prog 33 #[av p0 p1 p2 p3 p4 p5 p6, .int .i64 p7, .int .i64 p8] W fun en w' => en = .returned (.agg #[.int .i64 X, .int .i64 Y, .int .i64 E]) ∧ Below W.heap.size W w') := fun W => by
        have := refSourceT_any p0 p1 p2 p3 p4 p5 p6 p7 p8 W; rw [hsr] at this; exact this
      have HRN : Hid (∀ W, Calls Try.prog 34 #[av p0 p1 p2 p3 p4 p5 p6, rv p9 p10 p11 p12] W fun en w' => en = .returned (.agg #[.int .i64 n0, .int .i64 n1, .int .i64 n2, .int .i64 n3, .int .i64 n4]) ∧ Below W.heap.size W w') := fun W => by
        have := refNeedT_any p0 p1 p2 p3 p4 p5 p6 p9 p10 p11 p12 W; rw [hnd] at this; exact this
      have HRB : Hid (∀ W, Calls Try.prog 35 #[av p0 p1 p2 p3 p4 p5 p6, rv p9 p10 p11 p12] W fun en w' => en = .returned (.agg #[.int .i64 m0, .int .i64 m1, .int .i64 m2, .int .i64 m3, .int .i64 m4]) ∧ Below W.heap.size W w') := fun W => by
        have := refBoundsT_any p0 p1 p2 p3 p4 p5 p6 p9 p10 p11 p12 W; rw [hbn] at this; exact this
      clear hsr hnd hbn
      obtain ⟨_, _, _, _, _, _, _⟩ := HCA0.out _ (St.row hS (b := c6) (o := OA) (by simp))
      go_upto_region 14 with fail
      have h31 := hS.alloc (ao p0 p1 p2 p3 p4 p5 p6)
      generalize wr.heap.size = c31 at h31 ⊢
      generalize wr.alloc (ao p0 p1 p2 p3 p4 p5 p6) = w31 at h31 ⊢
      have HP32 : Hid (∀ V9, St w [(c31, ao p0 p1 p2 p3 p4 p5 p6), (c8, OP), (c7, OR), (c6, OA)] V9 → St w [(c31, ao p0 p1 p2 p3 p4 p5 p6), (c8, OP), (c7, OR), (c6, OA)] V9 ∧ AB V9 c31 p0 p1 p2 p3 p4 p5 p6 ∧ (V9.cell? ⟨c8, 0, none⟩ = some (.int .i64 p7) ∧ V9.cell? ⟨c8, 1, none⟩ = some (.int .i64 p8))) := fun V hV => ⟨hV, St.aff hV (by simp), HCP0.out V (hV.row (b := c8) (o := OP) (by simp))⟩
      go_cut [16, 17] (fun v8 v9 wx => ∃ b9, v8 = .pointer (some ⟨b9, 0, none⟩) ∧ v9 = .int .i64 E ∧ Hid (St w ((b9, pob X Y) :: [(c31, ao p0 p1 p2 p3 p4 p5 p6), (c8, OP), (c7, OR), (c6, OA)]) wx))
      case first => as_aux_lemma =>
        refine wp_region_held_drew (S := fun V9 => St w [(c31, ao p0 p1 p2 p3 p4 p5 p6), (c8, OP), (c7, OR), (c6, OA)] V9 ∧ AB V9 c31 p0 p1 p2 p3 p4 p5 p6 ∧ (V9.cell? ⟨c8, 0, none⟩ = some (.int .i64 p7) ∧ V9.cell? ⟨c8, 1, none⟩ = some (.int .i64 p8))) (by kernel_rfl) ?_ (fun hHeld => ?_)
        · exact HP32.out _ (h31.drew)
        have h310 := h31.drew
        refine wpAnyH_take (i := 0) (oi := o55) (v := ?_) rfl (by kernel_rfl) (by kernel_rfl) (by kernel_rfl) (fun _ _ _ h => h) (Or.inl ⟨by kernel_rfl, ?_⟩) (by assumption) ?_
        rotate_left 1
        focus (intro w hSw; (try dsimp only at hSw); go_simp; (try with_reducible rfl))
        try simp only [Act.put, z1, z2, z3]
        refine wpAnyH_take (i := 1) (oi := o62) (v := ?_) rfl (by kernel_rfl) (by kernel_rfl) (by kernel_rfl) (fun _ _ _ h => h) (Or.inl ⟨by kernel_rfl, ?_⟩) (by assumption) ?_
        rotate_left 1
        focus (intro w hSw; (try dsimp only at hSw); go_simp; (try with_reducible rfl))
        try simp only [Act.put, z1, z2, z3]
        refine wpAnyH_take (i := 2) (oi := o30) (v := (.int .i64 0)) rfl (by kernel_rfl) (by kernel_rfl) (by kernel_rfl) (fun _ _ _ h => h) (Or.inl ⟨by kernel_rfl, ?_⟩) (by assumption) ?_
        focus (intro w hSw; (try dsimp only at hSw); go_simp; try (first | rfl | decide))
        try simp only [Act.put, z1, z2, z3]
        refine wpAnyH_take (i := 3) (oi := o40) (v := ?_) rfl (by kernel_rfl) (by kernel_rfl) (by kernel_rfl) (fun _ _ _ h => h) (Or.inl ⟨by kernel_rfl, ?_⟩) (by assumption) ?_
        rotate_left 1
        focus (intro w hSw; (try dsimp only at hSw); go_simp; (try with_reducible rfl))
        try simp only [Act.put, z1, z2, z3]
        refine wpAnyH_take (i := 4) (oi := o44) (v := ?_) rfl (by kernel_rfl) (by kernel_rfl) (by kernel_rfl) (fun _ _ _ h => h) (Or.inl ⟨by kernel_rfl, ?_⟩) (by assumption) ?_
        rotate_left 1
        focus (intro w hSw; (try dsimp only at hSw); go_simp; (try with_reducible rfl))
        try simp only [Act.put, z1, z2, z3]
        refine wpAnyH_ready (rs := [5, 9]) (by kernel_rfl) (by simp) (AllReadyH.cons (o := o11) rfl (fun K hK => ?_) (AllReadyH.cons (o := o34) rfl (fun K hK => ?_) AllReadyH.nil))
        · (go_simp; (go_at_call 30; (refine (St.call h310 (HS.out _)).mono ?_); rintro e V1r14 ⟨rfl, h311r14⟩))
          refine hK.out _ _ ?_ (fun hHeld => ?_)
          · exact HP32.out _ (h311r14)
          clear hK K
          try simp only [Act.put, z1, z2, z3]
          refine wpAnyH_take (i := 6) (oi := o18) (v := ?_) rfl (by kernel_rfl) (by kernel_rfl) (by kernel_rfl) (fun _ _ _ h => h) (Or.inl ⟨by kernel_rfl, ?_⟩) (by assumption) ?_
          rotate_left 1
          focus (intro w hSw; (try dsimp only at hSw); go_simp; (try with_reducible rfl))
          try simp only [Act.put, z1, z2, z3]
          refine wpAnyH_take (i := 7) (oi := o21) (v := ?_) rfl (by kernel_rfl) (by kernel_rfl) (by kernel_rfl) (fun _ _ _ h => h) (Or.inl ⟨by kernel_rfl, ?_⟩) (by assumption) ?_
          rotate_left 1
          focus (intro w hSw; (try dsimp only at hSw); go_simp; (try with_reducible rfl))
          try simp only [Act.put, z1, z2, z3]
          refine wpAnyH_take (i := 8) (oi := o15) (v := ?_) rfl (by kernel_rfl) (by kernel_rfl) (by kernel_rfl) (fun _ _ _ h => h) (Or.inl ⟨by kernel_rfl, ?_⟩) (by assumption) ?_
          rotate_left 1
          focus (intro w hSw; (try dsimp only at hSw); go_simp; (try with_reducible rfl))
          try simp only [Act.put, z1, z2, z3]
          refine wpAnyH_ready (rs := [9]) (by kernel_rfl) (by simp) (AllReadyH.cons (o := o34) rfl (fun K hK => ?_) AllReadyH.nil)
          have hne9r14 := h311r14.ne
          have hle9r14 := h311r14.below.size
          have hlt9r14 := fun (b : Nat) (o : Obj) (hm : (b, o) ∈ _) => h311r14.lt hm
          have h312r14 := h311r14.alloc (.cells #[.int .i64 0, .int .i64 0] 49)
          refine wp_alloc_of 49 rfl _ (zero_pt _) ?_
          refine hK.out _ _ ?_ (fun hHeld => ?_)
          · exact HP32.out _ (h312r14.tl)
          clear hK K
          try simp only [Act.put, z1, z2, z3]
          refine wpAnyH_ready (rs := [10]) (by kernel_rfl) (by simp) (AllReadyH.cons (o := o1) rfl (fun K hK => ?_) AllReadyH.nil)
          have h313r14 := h312r14.rowset (ds := #[.int .i64 X, .int .i64 Y]) hle9r14 hne9r14
          refine wp_store_of 49 _ _ rfl (store_row 49 (cs := #[.int .i64 0, .int .i64 0]) (ds := #[.int .i64 X, .int .i64 Y]) (by kernel_rfl) rfl (by simp [Value.oneCell']) h312r14.hd) ?_
          refine hK.out _ _ ?_ (fun hHeld => ?_)
          · exact HP32.out _ (h313r14.tl)
          clear hK K
          try simp only [Act.put]
          refine wpAnyH_take (i := 11) (oi := o4) (v := ?_) rfl (by kernel_rfl) (by kernel_rfl) (by kernel_rfl) (fun _ _ _ h => h) (Or.inl ⟨by kernel_rfl, ?_⟩) (by assumption) ?_
          rotate_left 1
          focus (intro w hSw; (try dsimp only at hSw); go_simp; (try with_reducible rfl))
          try simp only [Act.put, z1, z2, z3]
          refine wpAnyH_done (by kernel_rfl) ?_ _
          have h9 := h313r14
          go_wp2_with fail
          go_meet
          case rel => exact ⟨_, rfl, rfl, h9⟩
        · have hne9r14 := h310.ne
          have hle9r14 := h310.below.size
          have hlt9r14 := fun (b : Nat) (o : Obj) (hm : (b, o) ∈ _) => h310.lt hm
          have h314r14 := h310.alloc (.cells #[.int .i64 0, .int .i64 0] 49)
          refine wp_alloc_of 49 rfl _ (zero_pt _) ?_
          refine hK.out _ _ ?_ (fun hHeld => ?_)
          · exact HP32.out _ (h314r14.tl)
          clear hK K
          try simp only [Act.put, z1, z2, z3]
          refine wpAnyH_ready (rs := [5]) (by kernel_rfl) (by simp) (AllReadyH.cons (o := o11) rfl (fun K hK => ?_) AllReadyH.nil)
          (go_simp; (go_at_call 30; (refine (St.call h314r14 (HS.out _)).mono ?_); rintro e V5r14 ⟨rfl, h315r14⟩))
          refine hK.out _ _ ?_ (fun hHeld => ?_)
          · exact HP32.out _ (h315r14.tl)
          clear hK K
          try simp only [Act.put, z1, z2, z3]
          refine wpAnyH_take (i := 6) (oi := o18) (v := ?_) rfl (by kernel_rfl) (by kernel_rfl) (by kernel_rfl) (fun _ _ _ h => h) (Or.inl ⟨by kernel_rfl, ?_⟩) (by assumption) ?_
          rotate_left 1
          focus (intro w hSw; (try dsimp only at hSw); go_simp; (try with_reducible rfl))
          try simp only [Act.put, z1, z2, z3]
          refine wpAnyH_take (i := 7) (oi := o21) (v := ?_) rfl (by kernel_rfl) (by kernel_rfl) (by kernel_rfl) (fun _ _ _ h => h) (Or.inl ⟨by kernel_rfl, ?_⟩) (by assumption) ?_
          rotate_left 1
          focus (intro w hSw; (try dsimp only at hSw); go_simp; (try with_reducible rfl))
          try simp only [Act.put, z1, z2, z3]
          refine wpAnyH_take (i := 8) (oi := o15) (v := ?_) rfl (by kernel_rfl) (by kernel_rfl) (by kernel_rfl) (fun _ _ _ h => h) (Or.inl ⟨by kernel_rfl, ?_⟩) (by assumption) ?_
          rotate_left 1
          focus (intro w hSw; (try dsimp only at hSw); go_simp; (try with_reducible rfl))
          try simp only [Act.put, z1, z2, z3]
          refine wpAnyH_ready (rs := [10]) (by kernel_rfl) (by simp) (AllReadyH.cons (o := o1) rfl (fun K hK => ?_) AllReadyH.nil)
          have h316r14 := h315r14.rowset (ds := #[.int .i64 X, .int .i64 Y]) hle9r14 hne9r14
          refine wp_store_of 49 _ _ rfl (store_row 49 (cs := #[.int .i64 0, .int .i64 0]) (ds := #[.int .i64 X, .int .i64 Y]) (by kernel_rfl) rfl (by simp [Value.oneCell']) h315r14.hd) ?_
          refine hK.out _ _ ?_ (fun hHeld => ?_)
          · exact HP32.out _ (h316r14.tl)
          clear hK K
          try simp only [Act.put]
          refine wpAnyH_take (i := 11) (oi := o4) (v := ?_) rfl (by kernel_rfl) (by kernel_rfl) (by kernel_rfl) (fun _ _ _ h => h) (Or.inl ⟨by kernel_rfl, ?_⟩) (by assumption) ?_
          rotate_left 1
          focus (intro w hSw; (try dsimp only at hSw); go_simp; (try with_reducible rfl))
          try simp only [Act.put, z1, z2, z3]
          refine wpAnyH_done (by kernel_rfl) ?_ _
          have h9 := h316r14
          go_wp2_with fail
          go_meet
          case rel => exact ⟨_, rfl, rfl, h9⟩
      obtain ⟨e1, rfl, rfl, HQ⟩ := hcut
      have h132 := HQ.out
      clear HQ HP32 h31
      go_upto_region 15 with fail
      have HP33 : Hid (∀ V9, St w [(e1, pob X Y), (c31, ao p0 p1 p2 p3 p4 p5 p6), (c8, OP), (c7, OR), (c6, OA)] V9 → St w [(e1, pob X Y), (c31, ao p0 p1 p2 p3 p4 p5 p6), (c8, OP), (c7, OR), (c6, OA)] V9 ∧ AB V9 c31 p0 p1 p2 p3 p4 p5 p6 ∧ (V9.cell? ⟨c7, 0, none⟩ = some (.int .i64 p9) ∧ V9.cell? ⟨c7, 1, none⟩ = some (.int .i64 p10) ∧ V9.cell? ⟨c7, 2, none⟩ = some (.int .i64 p11) ∧ V9.cell? ⟨c7, 3, none⟩ = some (.int .i64 p12))) := fun V hV => ⟨hV, St.aff hV (by simp), HCR0.out V (hV.row (b := c7) (o := OR) (by simp))⟩
      go_cut [18, 19] (fun v8 v9 wx => ∃ b9, v8 = .pointer (some ⟨b9, 0, none⟩) ∧ v9 = .int .i64 n4 ∧ Hid (St w ((b9, ro n0 n1 n2 n3) :: [(e1, pob X Y), (c31, ao p0 p1 p2 p3 p4 p5 p6), (c8, OP), (c7, OR), (c6, OA)]) wx))
      case first => as_aux_lemma =>
        refine wp_region_held_drew (S := fun V9 => St w [(e1, pob X Y), (c31, ao p0 p1 p2 p3 p4 p5 p6), (c8, OP), (c7, OR), (c6, OA)] V9 ∧ AB V9 c31 p0 p1 p2 p3 p4 p5 p6 ∧ (V9.cell? ⟨c7, 0, none⟩ = some (.int .i64 p9) ∧ V9.cell? ⟨c7, 1, none⟩ = some (.int .i64 p10) ∧ V9.cell? ⟨c7, 2, none⟩ = some (.int .i64 p11) ∧ V9.cell? ⟨c7, 3, none⟩ = some (.int .i64 p12))) (by kernel_rfl) ?_ (fun hHeld => ?_)
        · exact HP33.out _ (h132.drew)
        have h1320 := h132.drew
        refine wpAnyH_take (i := 0) (oi := o56) (v := ?_) rfl (by kernel_rfl) (by kernel_rfl) (by kernel_rfl) (fun _ _ _ h => h) (Or.inl ⟨by kernel_rfl, ?_⟩) (by assumption) ?_
        rotate_left 1
        focus (intro w hSw; (try dsimp only at hSw); go_simp; (try with_reducible rfl))
        try simp only [Act.put, z1, z2, z3]
        refine wpAnyH_take (i := 1) (oi := o63) (v := ?_) rfl (by kernel_rfl) (by kernel_rfl) (by kernel_rfl) (fun _ _ _ h => h) (Or.inl ⟨by kernel_rfl, ?_⟩) (by assumption) ?_
        rotate_left 1
        focus (intro w hSw; (try dsimp only at hSw); go_simp; (try with_reducible rfl))
        try simp only [Act.put, z1, z2, z3]
        refine wpAnyH_take (i := 2) (oi := o31) (v := (.int .i64 0)) rfl (by kernel_rfl) (by kernel_rfl) (by kernel_rfl) (fun _ _ _ h => h) (Or.inl ⟨by kernel_rfl, ?_⟩) (by assumption) ?_
        focus (intro w hSw; (try dsimp only at hSw); go_simp; try (first | rfl | decide))
        try simp only [Act.put, z1, z2, z3]
        refine wpAnyH_take (i := 3) (oi := o42) (v := ?_) rfl (by kernel_rfl) (by kernel_rfl) (by kernel_rfl) (fun _ _ _ h => h) (Or.inl ⟨by kernel_rfl, ?_⟩) (by assumption) ?_
        rotate_left 1
        focus (intro w hSw; (try dsimp only at hSw); go_simp; (try with_reducible rfl))
        try simp only [Act.put, z1, z2, z3]
        refine wpAnyH_take (i := 4) (oi := o47) (v := ?_) rfl (by kernel_rfl) (by kernel_rfl) (by kernel_rfl) (fun _ _ _ h => h) (Or.inl ⟨by kernel_rfl, ?_⟩) (by assumption) ?_
        rotate_left 1
        focus (intro w hSw; (try dsimp only at hSw); go_simp; (try with_reducible rfl))
        try simp only [Act.put, z1, z2, z3]
        refine wpAnyH_ready (rs := [5, 9]) (by kernel_rfl) (by simp) (AllReadyH.cons (o := o14) rfl (fun K hK => ?_) (AllReadyH.cons (o := o35) rfl (fun K hK => ?_) AllReadyH.nil))
        · (go_simp; (go_at_call 31; (refine (St.call h1320 (HN.out _)).mono ?_); rintro e V1r15 ⟨rfl, h1321r15⟩))
          refine hK.out _ _ ?_ (fun hHeld => ?_)
          · exact HP33.out _ (h1321r15)
          clear hK K
          try simp only [Act.put, z1, z2, z3]
          refine wpAnyH_take (i := 6) (oi := o19) (v := ?_) rfl (by kernel_rfl) (by kernel_rfl) (by kernel_rfl) (fun _ _ _ h => h) (Or.inl ⟨by kernel_rfl, ?_⟩) (by assumption) ?_
          rotate_left 1
          focus (intro w hSw; (try dsimp only at hSw); go_simp; (try with_reducible rfl))
          try simp only [Act.put, z1, z2, z3]
          refine wpAnyH_take (i := 7) (oi := o22) (v := ?_) rfl (by kernel_rfl) (by kernel_rfl) (by kernel_rfl) (fun _ _ _ h => h) (Or.inl ⟨by kernel_rfl, ?_⟩) (by assumption) ?_
          rotate_left 1
          focus (intro w hSw; (try dsimp only at hSw); go_simp; (try with_reducible rfl))
          try simp only [Act.put, z1, z2, z3]
          refine wpAnyH_take (i := 8) (oi := o16) (v := ?_) rfl (by kernel_rfl) (by kernel_rfl) (by kernel_rfl) (fun _ _ _ h => h) (Or.inl ⟨by kernel_rfl, ?_⟩) (by assumption) ?_
          rotate_left 1
          focus (intro w hSw; (try dsimp only at hSw); go_simp; (try with_reducible rfl))
          try simp only [Act.put, z1, z2, z3]
          refine wpAnyH_ready (rs := [9]) (by kernel_rfl) (by simp) (AllReadyH.cons (o := o35) rfl (fun K hK => ?_) AllReadyH.nil)
          have hne9r15 := h1321r15.ne
          have hle9r15 := h1321r15.below.size
          have hlt9r15 := fun (b : Nat) (o : Obj) (hm : (b, o) ∈ _) => h1321r15.lt hm
          have h1322r15 := h1321r15.alloc (.cells #[.int .i64 0, .int .i64 0, .int .i64 0, .int .i64 0] 51)
          refine wp_alloc_of 51 rfl _ (zero_rect _) ?_
          refine hK.out _ _ ?_ (fun hHeld => ?_)
          · exact HP33.out _ (h1322r15.tl)
          clear hK K
          try simp only [Act.put, z1, z2, z3]
          refine wpAnyH_ready (rs := [10]) (by kernel_rfl) (by simp) (AllReadyH.cons (o := o2) rfl (fun K hK => ?_) AllReadyH.nil)
          have h1323r15 := h1322r15.rowset (ds := #[.int .i64 n0, .int .i64 n1, .int .i64 n2, .int .i64 n3]) hle9r15 hne9r15
          refine wp_store_of 51 _ _ rfl (store_row 51 (cs := #[.int .i64 0, .int .i64 0, .int .i64 0, .int .i64 0]) (ds := #[.int .i64 n0, .int .i64 n1, .int .i64 n2, .int .i64 n3]) (by kernel_rfl) rfl (by simp [Value.oneCell']) h1322r15.hd) ?_
          refine hK.out _ _ ?_ (fun hHeld => ?_)
          · exact HP33.out _ (h1323r15.tl)
          clear hK K
          try simp only [Act.put]
          refine wpAnyH_take (i := 11) (oi := o5) (v := ?_) rfl (by kernel_rfl) (by kernel_rfl) (by kernel_rfl) (fun _ _ _ h => h) (Or.inl ⟨by kernel_rfl, ?_⟩) (by assumption) ?_
          rotate_left 1
          focus (intro w hSw; (try dsimp only at hSw); go_simp; (try with_reducible rfl))
          try simp only [Act.put, z1, z2, z3]
          refine wpAnyH_done (by kernel_rfl) ?_ _
          have h9 := h1323r15
          go_wp2_with fail
          go_meet
          case rel => exact ⟨_, rfl, rfl, h9⟩
        · have hne9r15 := h1320.ne
          have hle9r15 := h1320.below.size
          have hlt9r15 := fun (b : Nat) (o : Obj) (hm : (b, o) ∈ _) => h1320.lt hm
          have h1324r15 := h1320.alloc (.cells #[.int .i64 0, .int .i64 0, .int .i64 0, .int .i64 0] 51)
          refine wp_alloc_of 51 rfl _ (zero_rect _) ?_
          refine hK.out _ _ ?_ (fun hHeld => ?_)
          · exact HP33.out _ (h1324r15.tl)
          clear hK K
          try simp only [Act.put, z1, z2, z3]
          refine wpAnyH_ready (rs := [5]) (by kernel_rfl) (by simp) (AllReadyH.cons (o := o14) rfl (fun K hK => ?_) AllReadyH.nil)
          (go_simp; (go_at_call 31; (refine (St.call h1324r15 (HN.out _)).mono ?_); rintro e V5r15 ⟨rfl, h1325r15⟩))
          refine hK.out _ _ ?_ (fun hHeld => ?_)
          · exact HP33.out _ (h1325r15.tl)
          clear hK K
          try simp only [Act.put, z1, z2, z3]
          refine wpAnyH_take (i := 6) (oi := o19) (v := ?_) rfl (by kernel_rfl) (by kernel_rfl) (by kernel_rfl) (fun _ _ _ h => h) (Or.inl ⟨by kernel_rfl, ?_⟩) (by assumption) ?_
          rotate_left 1
          focus (intro w hSw; (try dsimp only at hSw); go_simp; (try with_reducible rfl))
          try simp only [Act.put, z1, z2, z3]
          refine wpAnyH_take (i := 7) (oi := o22) (v := ?_) rfl (by kernel_rfl) (by kernel_rfl) (by kernel_rfl) (fun _ _ _ h => h) (Or.inl ⟨by kernel_rfl, ?_⟩) (by assumption) ?_
          rotate_left 1
          focus (intro w hSw; (try dsimp only at hSw); go_simp; (try with_reducible rfl))
          try simp only [Act.put, z1, z2, z3]
          refine wpAnyH_take (i := 8) (oi := o16) (v := ?_) rfl (by kernel_rfl) (by kernel_rfl) (by kernel_rfl) (fun _ _ _ h => h) (Or.inl ⟨by kernel_rfl, ?_⟩) (by assumption) ?_
          rotate_left 1
          focus (intro w hSw; (try dsimp only at hSw); go_simp; (try with_reducible rfl))
          try simp only [Act.put, z1, z2, z3]
          refine wpAnyH_ready (rs := [10]) (by kernel_rfl) (by simp) (AllReadyH.cons (o := o2) rfl (fun K hK => ?_) AllReadyH.nil)
          have h1326r15 := h1325r15.rowset (ds := #[.int .i64 n0, .int .i64 n1, .int .i64 n2, .int .i64 n3]) hle9r15 hne9r15
          refine wp_store_of 51 _ _ rfl (store_row 51 (cs := #[.int .i64 0, .int .i64 0, .int .i64 0, .int .i64 0]) (ds := #[.int .i64 n0, .int .i64 n1, .int .i64 n2, .int .i64 n3]) (by kernel_rfl) rfl (by simp [Value.oneCell']) h1325r15.hd) ?_
          refine hK.out _ _ ?_ (fun hHeld => ?_)
          · exact HP33.out _ (h1326r15.tl)
          clear hK K
          try simp only [Act.put]
          refine wpAnyH_take (i := 11) (oi := o5) (v := ?_) rfl (by kernel_rfl) (by kernel_rfl) (by kernel_rfl) (fun _ _ _ h => h) (Or.inl ⟨by kernel_rfl, ?_⟩) (by assumption) ?_
          rotate_left 1
          focus (intro w hSw; (try dsimp only at hSw); go_simp; (try with_reducible rfl))
          try simp only [Act.put, z1, z2, z3]
          refine wpAnyH_done (by kernel_rfl) ?_ _
          have h9 := h1326r15
          go_wp2_with fail
          go_meet
          case rel => exact ⟨_, rfl, rfl, h9⟩
      obtain ⟨e2, rfl, rfl, HQ⟩ := hcut
      have h133 := HQ.out
      clear HQ HP33 h132
      go_upto_region 16 with fail
      have HP34 : Hid (∀ V9, St w [(e2, ro n0 n1 n2 n3), (e1, pob X Y), (c31, ao p0 p1 p2 p3 p4 p5 p6), (c8, OP), (c7, OR), (c6, OA)] V9 → St w [(e2, ro n0 n1 n2 n3), (e1, pob X Y), (c31, ao p0 p1 p2 p3 p4 p5 p6), (c8, OP), (c7, OR), (c6, OA)] V9 ∧ AB V9 c31 p0 p1 p2 p3 p4 p5 p6 ∧ (V9.cell? ⟨c7, 0, none⟩ = some (.int .i64 p9) ∧ V9.cell? ⟨c7, 1, none⟩ = some (.int .i64 p10) ∧ V9.cell? ⟨c7, 2, none⟩ = some (.int .i64 p11) ∧ V9.cell? ⟨c7, 3, none⟩ = some (.int .i64 p12))) := fun V hV => ⟨hV, St.aff hV (by simp), HCR0.out V (hV.row (b := c7) (o := OR) (by simp))⟩
      go_cut [20, 21] (fun v8 v9 wx => ∃ b9, v8 = .pointer (some ⟨b9, 0, none⟩) ∧ v9 = .int .i64 m4 ∧ Hid (St w ((b9, ro m0 m1 m2 m3) :: [(e2, ro n0 n1 n2 n3), (e1, pob X Y), (c31, ao p0 p1 p2 p3 p4 p5 p6), (c8, OP), (c7, OR), (c6, OA)]) wx))
      case first => as_aux_lemma =>
        refine wp_region_held_drew (S := fun V9 => St w [(e2, ro n0 n1 n2 n3), (e1, pob X Y), (c31, ao p0 p1 p2 p3 p4 p5 p6), (c8, OP), (c7, OR), (c6, OA)] V9 ∧ AB V9 c31 p0 p1 p2 p3 p4 p5 p6 ∧ (V9.cell? ⟨c7, 0, none⟩ = some (.int .i64 p9) ∧ V9.cell? ⟨c7, 1, none⟩ = some (.int .i64 p10) ∧ V9.cell? ⟨c7, 2, none⟩ = some (.int .i64 p11) ∧ V9.cell? ⟨c7, 3, none⟩ = some (.int .i64 p12))) (by kernel_rfl) ?_ (fun hHeld => ?_)
        · exact HP34.out _ (h133.drew)
        have h1330 := h133.drew
        refine wpAnyH_take (i := 0) (oi := o57) (v := ?_) rfl (by kernel_rfl) (by kernel_rfl) (by kernel_rfl) (fun _ _ _ h => h) (Or.inl ⟨by kernel_rfl, ?_⟩) (by assumption) ?_
        rotate_left 1
        focus (intro w hSw; (try dsimp only at hSw); go_simp; (try with_reducible rfl))
        try simp only [Act.put, z1, z2, z3]
        refine wpAnyH_take (i := 1) (oi := o64) (v := ?_) rfl (by kernel_rfl) (by kernel_rfl) (by kernel_rfl) (fun _ _ _ h => h) (Or.inl ⟨by kernel_rfl, ?_⟩) (by assumption) ?_
        rotate_left 1
        focus (intro w hSw; (try dsimp only at hSw); go_simp; (try with_reducible rfl))
        try simp only [Act.put, z1, z2, z3]
        refine wpAnyH_take (i := 2) (oi := o32) (v := (.int .i64 0)) rfl (by kernel_rfl) (by kernel_rfl) (by kernel_rfl) (fun _ _ _ h => h) (Or.inl ⟨by kernel_rfl, ?_⟩) (by assumption) ?_
        focus (intro w hSw; (try dsimp only at hSw); go_simp; try (first | rfl | decide))
        try simp only [Act.put, z1, z2, z3]
        refine wpAnyH_take (i := 3) (oi := o43) (v := ?_) rfl (by kernel_rfl) (by kernel_rfl) (by kernel_rfl) (fun _ _ _ h => h) (Or.inl ⟨by kernel_rfl, ?_⟩) (by assumption) ?_
        rotate_left 1
        focus (intro w hSw; (try dsimp only at hSw); go_simp; (try with_reducible rfl))
        try simp only [Act.put, z1, z2, z3]
        refine wpAnyH_take (i := 4) (oi := o48) (v := ?_) rfl (by kernel_rfl) (by kernel_rfl) (by kernel_rfl) (fun _ _ _ h => h) (Or.inl ⟨by kernel_rfl, ?_⟩) (by assumption) ?_
        rotate_left 1
        focus (intro w hSw; (try dsimp only at hSw); go_simp; (try with_reducible rfl))
        try simp only [Act.put, z1, z2, z3]
        refine wpAnyH_ready (rs := [5, 9]) (by kernel_rfl) (by simp) (AllReadyH.cons (o := o13) rfl (fun K hK => ?_) (AllReadyH.cons (o := o36) rfl (fun K hK => ?_) AllReadyH.nil))
        · (go_simp; (go_at_call 32; (refine (St.call h1330 (HB.out _)).mono ?_); rintro e V1r16 ⟨rfl, h1331r16⟩))
          refine hK.out _ _ ?_ (fun hHeld => ?_)
          · exact HP34.out _ (h1331r16)
          clear hK K
          try simp only [Act.put, z1, z2, z3]
          refine wpAnyH_take (i := 6) (oi := o20) (v := ?_) rfl (by kernel_rfl) (by kernel_rfl) (by kernel_rfl) (fun _ _ _ h => h) (Or.inl ⟨by kernel_rfl, ?_⟩) (by assumption) ?_
          rotate_left 1
          focus (intro w hSw; (try dsimp only at hSw); go_simp; (try with_reducible rfl))
          try simp only [Act.put, z1, z2, z3]
          refine wpAnyH_take (i := 7) (oi := o23) (v := ?_) rfl (by kernel_rfl) (by kernel_rfl) (by kernel_rfl) (fun _ _ _ h => h) (Or.inl ⟨by kernel_rfl, ?_⟩) (by assumption) ?_
          rotate_left 1
          focus (intro w hSw; (try dsimp only at hSw); go_simp; (try with_reducible rfl))
          try simp only [Act.put, z1, z2, z3]
          refine wpAnyH_take (i := 8) (oi := o17) (v := ?_) rfl (by kernel_rfl) (by kernel_rfl) (by kernel_rfl) (fun _ _ _ h => h) (Or.inl ⟨by kernel_rfl, ?_⟩) (by assumption) ?_
          rotate_left 1
          focus (intro w hSw; (try dsimp only at hSw); go_simp; (try with_reducible rfl))
          try simp only [Act.put, z1, z2, z3]
          refine wpAnyH_ready (rs := [9]) (by kernel_rfl) (by simp) (AllReadyH.cons (o := o36) rfl (fun K hK => ?_) AllReadyH.nil)
          have hne9r16 := h1331r16.ne
          have hle9r16 := h1331r16.below.size
          have hlt9r16 := fun (b : Nat) (o : Obj) (hm : (b, o) ∈ _) => h1331r16.lt hm
          have h1332r16 := h1331r16.alloc (.cells #[.int .i64 0, .int .i64 0, .int .i64 0, .int .i64 0] 51)
          refine wp_alloc_of 51 rfl _ (zero_rect _) ?_
          refine hK.out _ _ ?_ (fun hHeld => ?_)
          · exact HP34.out _ (h1332r16.tl)
          clear hK K
          try simp only [Act.put, z1, z2, z3]
          refine wpAnyH_ready (rs := [10]) (by kernel_rfl) (by simp) (AllReadyH.cons (o := o3) rfl (fun K hK => ?_) AllReadyH.nil)
          have h1333r16 := h1332r16.rowset (ds := #[.int .i64 m0, .int .i64 m1, .int .i64 m2, .int .i64 m3]) hle9r16 hne9r16
          refine wp_store_of 51 _ _ rfl (store_row 51 (cs := #[.int .i64 0, .int .i64 0, .int .i64 0, .int .i64 0]) (ds := #[.int .i64 m0, .int .i64 m1, .int .i64 m2, .int .i64 m3]) (by kernel_rfl) rfl (by simp [Value.oneCell']) h1332r16.hd) ?_
          refine hK.out _ _ ?_ (fun hHeld => ?_)
          · exact HP34.out _ (h1333r16.tl)
          clear hK K
          try simp only [Act.put]
          refine wpAnyH_take (i := 11) (oi := o6) (v := ?_) rfl (by kernel_rfl) (by kernel_rfl) (by kernel_rfl) (fun _ _ _ h => h) (Or.inl ⟨by kernel_rfl, ?_⟩) (by assumption) ?_
          rotate_left 1
          focus (intro w hSw; (try dsimp only at hSw); go_simp; (try with_reducible rfl))
          try simp only [Act.put, z1, z2, z3]
          refine wpAnyH_done (by kernel_rfl) ?_ _
          have h9 := h1333r16
          go_wp2_with fail
          go_meet
          case rel => exact ⟨_, rfl, rfl, h9⟩
        · have hne9r16 := h1330.ne
          have hle9r16 := h1330.below.size
          have hlt9r16 := fun (b : Nat) (o : Obj) (hm : (b, o) ∈ _) => h1330.lt hm
          have h1334r16 := h1330.alloc (.cells #[.int .i64 0, .int .i64 0, .int .i64 0, .int .i64 0] 51)
          refine wp_alloc_of 51 rfl _ (zero_rect _) ?_
          refine hK.out _ _ ?_ (fun hHeld => ?_)
          · exact HP34.out _ (h1334r16.tl)
          clear hK K
          try simp only [Act.put, z1, z2, z3]
          refine wpAnyH_ready (rs := [5]) (by kernel_rfl) (by simp) (AllReadyH.cons (o := o13) rfl (fun K hK => ?_) AllReadyH.nil)
          (go_simp; (go_at_call 32; (refine (St.call h1334r16 (HB.out _)).mono ?_); rintro e V5r16 ⟨rfl, h1335r16⟩))
          refine hK.out _ _ ?_ (fun hHeld => ?_)
          · exact HP34.out _ (h1335r16.tl)
          clear hK K
          try simp only [Act.put, z1, z2, z3]
          refine wpAnyH_take (i := 6) (oi := o20) (v := ?_) rfl (by kernel_rfl) (by kernel_rfl) (by kernel_rfl) (fun _ _ _ h => h) (Or.inl ⟨by kernel_rfl, ?_⟩) (by assumption) ?_
          rotate_left 1
          focus (intro w hSw; (try dsimp only at hSw); go_simp; (try with_reducible rfl))
          try simp only [Act.put, z1, z2, z3]
          refine wpAnyH_take (i := 7) (oi := o23) (v := ?_) rfl (by kernel_rfl) (by kernel_rfl) (by kernel_rfl) (fun _ _ _ h => h) (Or.inl ⟨by kernel_rfl, ?_⟩) (by assumption) ?_
          rotate_left 1
          focus (intro w hSw; (try dsimp only at hSw); go_simp; (try with_reducible rfl))
          try simp only [Act.put, z1, z2, z3]
          refine wpAnyH_take (i := 8) (oi := o17) (v := ?_) rfl (by kernel_rfl) (by kernel_rfl) (by kernel_rfl) (fun _ _ _ h => h) (Or.inl ⟨by kernel_rfl, ?_⟩) (by assumption) ?_
          rotate_left 1
          focus (intro w hSw; (try dsimp only at hSw); go_simp; (try with_reducible rfl))
          try simp only [Act.put, z1, z2, z3]
          refine wpAnyH_ready (rs := [10]) (by kernel_rfl) (by simp) (AllReadyH.cons (o := o3) rfl (fun K hK => ?_) AllReadyH.nil)
          have h1336r16 := h1335r16.rowset (ds := #[.int .i64 m0, .int .i64 m1, .int .i64 m2, .int .i64 m3]) hle9r16 hne9r16
          refine wp_store_of 51 _ _ rfl (store_row 51 (cs := #[.int .i64 0, .int .i64 0, .int .i64 0, .int .i64 0]) (ds := #[.int .i64 m0, .int .i64 m1, .int .i64 m2, .int .i64 m3]) (by kernel_rfl) rfl (by simp [Value.oneCell']) h1335r16.hd) ?_
          refine hK.out _ _ ?_ (fun hHeld => ?_)
          · exact HP34.out _ (h1336r16.tl)
          clear hK K
          try simp only [Act.put]
          refine wpAnyH_take (i := 11) (oi := o6) (v := ?_) rfl (by kernel_rfl) (by kernel_rfl) (by kernel_rfl) (fun _ _ _ h => h) (Or.inl ⟨by kernel_rfl, ?_⟩) (by assumption) ?_
          rotate_left 1
          focus (intro w hSw; (try dsimp only at hSw); go_simp; (try with_reducible rfl))
          try simp only [Act.put, z1, z2, z3]
          refine wpAnyH_done (by kernel_rfl) ?_ _
          have h9 := h1336r16
          go_wp2_with fail
          go_meet
          case rel => exact ⟨_, rfl, rfl, h9⟩
      obtain ⟨e3, rfl, rfl, HQ⟩ := hcut
      have h134 := HQ.out
      clear HQ HP34 h133
      go_upto_region 17 with fail
      have HP35 : Hid (∀ V9, St w [(e3, ro m0 m1 m2 m3), (e2, ro n0 n1 n2 n3), (e1, pob X Y), (c31, ao p0 p1 p2 p3 p4 p5 p6), (c8, OP), (c7, OR), (c6, OA)] V9 → St w [(e3, ro m0 m1 m2 m3), (e2, ro n0 n1 n2 n3), (e1, pob X Y), (c31, ao p0 p1 p2 p3 p4 p5 p6), (c8, OP), (c7, OR), (c6, OA)] V9 ∧ AB V9 c31 p0 p1 p2 p3 p4 p5 p6 ∧ (V9.cell? ⟨c8, 0, none⟩ = some (.int .i64 p7) ∧ V9.cell? ⟨c8, 1, none⟩ = some (.int .i64 p8))) := fun V hV => ⟨hV, St.aff hV (by simp), HCP0.out V (hV.row (b := c8) (o := OP) (by simp))⟩
      go_cut [22] (fun v8 wx => ∃ b9, v8 = .pointer (some ⟨b9, 0, none⟩) ∧ Hid (St w ((b9, (.cells #[.int .i64 X, .int .i64 Y, .int .i64 E] 63 : Obj)) :: [(e3, ro m0 m1 m2 m3), (e2, ro n0 n1 n2 n3), (e1, pob X Y), (c31, ao p0 p1 p2 p3 p4 p5 p6), (c8, OP), (c7, OR), (c6, OA)]) wx))
      case first => as_aux_lemma =>
        refine wp_region_held_drew (S := fun V9 => St w [(e3, ro m0 m1 m2 m3), (e2, ro n0 n1 n2 n3), (e1, pob X Y), (c31, ao p0 p1 p2 p3 p4 p5 p6), (c8, OP), (c7, OR), (c6, OA)] V9 ∧ AB V9 c31 p0 p1 p2 p3 p4 p5 p6 ∧ (V9.cell? ⟨c8, 0, none⟩ = some (.int .i64 p7) ∧ V9.cell? ⟨c8, 1, none⟩ = some (.int .i64 p8))) (by kernel_rfl) ?_ (fun hHeld => ?_)
        · exact HP35.out _ (h134.drew)
        have h1340 := h134.drew
        refine wpAnyH_take (i := 0) (oi := o58) (v := ?_) rfl (by kernel_rfl) (by kernel_rfl) (by kernel_rfl) (fun _ _ _ h => h) (Or.inl ⟨by kernel_rfl, ?_⟩) (by assumption) ?_
        rotate_left 1
        focus (intro w hSw; (try dsimp only at hSw); go_simp; (try with_reducible rfl))
        try simp only [Act.put, z1, z2, z3]
        refine wpAnyH_take (i := 1) (oi := o65) (v := ?_) rfl (by kernel_rfl) (by kernel_rfl) (by kernel_rfl) (fun _ _ _ h => h) (Or.inl ⟨by kernel_rfl, ?_⟩) (by assumption) ?_
        rotate_left 1
        focus (intro w hSw; (try dsimp only at hSw); go_simp; (try with_reducible rfl))
        try simp only [Act.put, z1, z2, z3]
        refine wpAnyH_take (i := 2) (oi := o33) (v := (.int .i64 0)) rfl (by kernel_rfl) (by kernel_rfl) (by kernel_rfl) (fun _ _ _ h => h) (Or.inl ⟨by kernel_rfl, ?_⟩) (by assumption) ?_
        focus (intro w hSw; (try dsimp only at hSw); go_simp; try (first | rfl | decide))
        try simp only [Act.put, z1, z2, z3]
        refine wpAnyH_take (i := 3) (oi := o41) (v := ?_) rfl (by kernel_rfl) (by kernel_rfl) (by kernel_rfl) (fun _ _ _ h => h) (Or.inl ⟨by kernel_rfl, ?_⟩) (by assumption) ?_
        rotate_left 1
        focus (intro w hSw; (try dsimp only at hSw); go_simp; (try with_reducible rfl))
        try simp only [Act.put, z1, z2, z3]
        refine wpAnyH_take (i := 4) (oi := o50) (v := ?_) rfl (by kernel_rfl) (by kernel_rfl) (by kernel_rfl) (fun _ _ _ h => h) (Or.inl ⟨by kernel_rfl, ?_⟩) (by assumption) ?_
        rotate_left 1
        focus (intro w hSw; (try dsimp only at hSw); go_simp; (try with_reducible rfl))
        try simp only [Act.put, z1, z2, z3]
        refine wpAnyH_take (i := 5) (oi := o52) (v := ?_) rfl (by kernel_rfl) (by kernel_rfl) (by kernel_rfl) (fun _ _ _ h => h) (Or.inl ⟨by kernel_rfl, ?_⟩) (by assumption) ?_
        rotate_left 1
        focus (intro w hSw; (try dsimp only at hSw); go_simp; (try with_reducible rfl))
        try simp only [Act.put, z1, z2, z3]
        refine wpAnyH_take (i := 6) (oi := o59) (v := ?_) rfl (by kernel_rfl) (by kernel_rfl) (by kernel_rfl) (fun _ _ _ h => h) (Or.inl ⟨by kernel_rfl, ?_⟩) (by assumption) ?_
        rotate_left 1
        focus (intro w hSw; (try dsimp only at hSw); go_simp; (try with_reducible rfl))
        try simp only [Act.put, z1, z2, z3]
        refine wpAnyH_take (i := 7) (oi := o27) (v := (.int .i64 0)) rfl (by kernel_rfl) (by kernel_rfl) (by kernel_rfl) (fun _ _ _ h => h) (Or.inl ⟨by kernel_rfl, ?_⟩) (by assumption) ?_
        focus (intro w hSw; (try dsimp only at hSw); go_simp; try (first | rfl | decide))
        try simp only [Act.put, z1, z2, z3]
        refine wpAnyH_take (i := 8) (oi := o37) (v := ?_) rfl (by kernel_rfl) (by kernel_rfl) (by kernel_rfl) (fun _ _ _ h => h) (Or.inl ⟨by kernel_rfl, ?_⟩) (by assumption) ?_
        rotate_left 1
        focus (intro w hSw; (try dsimp only at hSw); go_simp; (try with_reducible rfl))
        try simp only [Act.put, z1, z2, z3]
        refine wpAnyH_take (i := 9) (oi := o49) (v := ?_) rfl (by kernel_rfl) (by kernel_rfl) (by kernel_rfl) (fun _ _ _ h => h) (Or.inl ⟨by kernel_rfl, ?_⟩) (by assumption) ?_
        rotate_left 1
        focus (intro w hSw; (try dsimp only at hSw); go_simp; (try with_reducible rfl))
        try simp only [Act.put, z1, z2, z3]
        refine wpAnyH_take (i := 10) (oi := o51) (v := ?_) rfl (by kernel_rfl) (by kernel_rfl) (by kernel_rfl) (fun _ _ _ h => h) (Or.inl ⟨by kernel_rfl, ?_⟩) (by assumption) ?_
        rotate_left 1
        focus (intro w hSw; (try dsimp only at hSw); go_simp; (try with_reducible rfl))
        try simp only [Act.put, z1, z2, z3]
        refine wpAnyH_ready (rs := [11, 12]) (by kernel_rfl) (by simp) (AllReadyH.cons (o := o9) rfl (fun K hK => ?_) (AllReadyH.cons (o := o24) rfl (fun K hK => ?_) AllReadyH.nil))
        · (go_simp; (go_at_call 33; (refine (St.call h1340 (HRS.out _)).mono ?_); rintro e V1r17 ⟨rfl, h1341r17⟩))
          refine hK.out _ _ ?_ (fun hHeld => ?_)
          · exact HP35.out _ (h1341r17)
          clear hK K
          try simp only [Act.put, z1, z2, z3]
          refine wpAnyH_ready (rs := [12]) (by kernel_rfl) (by simp) (AllReadyH.cons (o := o24) rfl (fun K hK => ?_) AllReadyH.nil)
          have hne12r17 := h1341r17.ne
          have hle12r17 := h1341r17.below.size
          have hlt12r17 := fun (b : Nat) (o : Obj) (hm : (b, o) ∈ _) => h1341r17.lt hm
          have h1342r17 := h1341r17.alloc (.cells #[.int .i64 0, .int .i64 0, .int .i64 0] 63)
          refine wp_alloc_of 63 rfl _ (zero_pos _) ?_
          refine hK.out _ _ ?_ (fun hHeld => ?_)
          · exact HP35.out _ (h1342r17.tl)
          clear hK K
          try simp only [Act.put, z1, z2, z3]
          refine wpAnyH_ready (rs := [13]) (by kernel_rfl) (by simp) (AllReadyH.cons (o := o0) rfl (fun K hK => ?_) AllReadyH.nil)
          have h1343r17 := h1342r17.rowset (ds := #[.int .i64 X, .int .i64 Y, .int .i64 E]) hle12r17 hne12r17
          refine wp_store_of 63 _ _ rfl (store_row 63 (cs := #[.int .i64 0, .int .i64 0, .int .i64 0]) (ds := #[.int .i64 X, .int .i64 Y, .int .i64 E]) (by kernel_rfl) rfl (by simp [Value.oneCell']) h1342r17.hd) ?_
          refine hK.out _ _ ?_ (fun hHeld => ?_)
          · exact HP35.out _ (h1343r17.tl)
          clear hK K
          try simp only [Act.put]
          refine wpAnyH_done (by kernel_rfl) ?_ _
          have h9 := h1343r17
          go_wp2_with fail
          go_meet
          case rel => exact ⟨_, rfl, h9⟩
        · have hne12r17 := h1340.ne
          have hle12r17 := h1340.below.size
          have hlt12r17 := fun (b : Nat) (o : Obj) (hm : (b, o) ∈ _) => h1340.lt hm
          have h1344r17 := h1340.alloc (.cells #[.int .i64 0, .int .i64 0, .int .i64 0] 63)
          refine wp_alloc_of 63 rfl _ (zero_pos _) ?_
          refine hK.out _ _ ?_ (fun hHeld => ?_)
          · exact HP35.out _ (h1344r17.tl)
          clear hK K
          try simp only [Act.put, z1, z2, z3]
          refine wpAnyH_ready (rs := [11]) (by kernel_rfl) (by simp) (AllReadyH.cons (o := o9) rfl (fun K hK => ?_) AllReadyH.nil)
          (go_simp; (go_at_call 33; (refine (St.call h1344r17 (HRS.out _)).mono ?_); rintro e V5r17 ⟨rfl, h1345r17⟩))
          refine hK.out _ _ ?_ (fun hHeld => ?_)
          · exact HP35.out _ (h1345r17.tl)
          clear hK K
          try simp only [Act.put, z1, z2, z3]
          refine wpAnyH_ready (rs := [13]) (by kernel_rfl) (by simp) (AllReadyH.cons (o := o0) rfl (fun K hK => ?_) AllReadyH.nil)
          have h1346r17 := h1345r17.rowset (ds := #[.int .i64 X, .int .i64 Y, .int .i64 E]) hle12r17 hne12r17
          refine wp_store_of 63 _ _ rfl (store_row 63 (cs := #[.int .i64 0, .int .i64 0, .int .i64 0]) (ds := #[.int .i64 X, .int .i64 Y, .int .i64 E]) (by kernel_rfl) rfl (by simp [Value.oneCell']) h1345r17.hd) ?_
          refine hK.out _ _ ?_ (fun hHeld => ?_)
          · exact HP35.out _ (h1346r17.tl)
          clear hK K
          try simp only [Act.put]
          refine wpAnyH_done (by kernel_rfl) ?_ _
          have h9 := h1346r17
          go_wp2_with fail
          go_meet
          case rel => exact ⟨_, rfl, h9⟩
      obtain ⟨e4, rfl, HQ⟩ := hcut
      have h135 := HQ.out
      clear HQ HP35 h134
      go_upto_region 18 with fail
      have HP36 : Hid (∀ V9, St w [(e4, (.cells #[.int .i64 X, .int .i64 Y, .int .i64 E] 63 : Obj)), (e3, ro m0 m1 m2 m3), (e2, ro n0 n1 n2 n3), (e1, pob X Y), (c31, ao p0 p1 p2 p3 p4 p5 p6), (c8, OP), (c7, OR), (c6, OA)] V9 → St w [(e4, (.cells #[.int .i64 X, .int .i64 Y, .int .i64 E] 63 : Obj)), (e3, ro m0 m1 m2 m3), (e2, ro n0 n1 n2 n3), (e1, pob X Y), (c31, ao p0 p1 p2 p3 p4 p5 p6), (c8, OP), (c7, OR), (c6, OA)] V9 ∧ AB V9 c31 p0 p1 p2 p3 p4 p5 p6 ∧ (V9.cell? ⟨c7, 0, none⟩ = some (.int .i64 p9) ∧ V9.cell? ⟨c7, 1, none⟩ = some (.int .i64 p10) ∧ V9.cell? ⟨c7, 2, none⟩ = some (.int .i64 p11) ∧ V9.cell? ⟨c7, 3, none⟩ = some (.int .i64 p12))) := fun V hV => ⟨hV, St.aff hV (by simp), HCR0.out V (hV.row (b := c7) (o := OR) (by simp))⟩
      go_cut [23] (fun v8 wx => ∃ b9, v8 = .pointer (some ⟨b9, 0, none⟩) ∧ Hid (St w ((b9, (.cells #[.int .i64 n0, .int .i64 n1, .int .i64 n2, .int .i64 n3, .int .i64 n4] 66 : Obj)) :: [(e4, (.cells #[.int .i64 X, .int .i64 Y, .int .i64 E] 63 : Obj)), (e3, ro m0 m1 m2 m3), (e2, ro n0 n1 n2 n3), (e1, pob X Y), (c31, ao p0 p1 p2 p3 p4 p5 p6), (c8, OP), (c7, OR), (c6, OA)]) wx))
      case first => as_aux_lemma =>
        refine wp_region_held_drew (S := fun V9 => St w [(e4, (.cells #[.int .i64 X, .int .i64 Y, .int .i64 E] 63 : Obj)), (e3, ro m0 m1 m2 m3), (e2, ro n0 n1 n2 n3), (e1, pob X Y), (c31, ao p0 p1 p2 p3 p4 p5 p6), (c8, OP), (c7, OR), (c6, OA)] V9 ∧ AB V9 c31 p0 p1 p2 p3 p4 p5 p6 ∧ (V9.cell? ⟨c7, 0, none⟩ = some (.int .i64 p9) ∧ V9.cell? ⟨c7, 1, none⟩ = some (.int .i64 p10) ∧ V9.cell? ⟨c7, 2, none⟩ = some (.int .i64 p11) ∧ V9.cell? ⟨c7, 3, none⟩ = some (.int .i64 p12))) (by kernel_rfl) ?_ (fun hHeld => ?_)
        · exact HP36.out _ (h135.drew)
        have h1350 := h135.drew
        refine wpAnyH_take (i := 0) (oi := o53) (v := ?_) rfl (by kernel_rfl) (by kernel_rfl) (by kernel_rfl) (fun _ _ _ h => h) (Or.inl ⟨by kernel_rfl, ?_⟩) (by assumption) ?_
        rotate_left 1
        focus (intro w hSw; (try dsimp only at hSw); go_simp; (try with_reducible rfl))
        try simp only [Act.put, z1, z2, z3]
        refine wpAnyH_take (i := 1) (oi := o60) (v := ?_) rfl (by kernel_rfl) (by kernel_rfl) (by kernel_rfl) (fun _ _ _ h => h) (Or.inl ⟨by kernel_rfl, ?_⟩) (by assumption) ?_
        rotate_left 1
        focus (intro w hSw; (try dsimp only at hSw); go_simp; (try with_reducible rfl))
        try simp only [Act.put, z1, z2, z3]
        refine wpAnyH_take (i := 2) (oi := o28) (v := (.int .i64 0)) rfl (by kernel_rfl) (by kernel_rfl) (by kernel_rfl) (fun _ _ _ h => h) (Or.inl ⟨by kernel_rfl, ?_⟩) (by assumption) ?_
        focus (intro w hSw; (try dsimp only at hSw); go_simp; try (first | rfl | decide))
        try simp only [Act.put, z1, z2, z3]
        refine wpAnyH_take (i := 3) (oi := o38) (v := ?_) rfl (by kernel_rfl) (by kernel_rfl) (by kernel_rfl) (fun _ _ _ h => h) (Or.inl ⟨by kernel_rfl, ?_⟩) (by assumption) ?_
        rotate_left 1
        focus (intro w hSw; (try dsimp only at hSw); go_simp; (try with_reducible rfl))
        try simp only [Act.put, z1, z2, z3]
        refine wpAnyH_take (i := 4) (oi := o45) (v := ?_) rfl (by kernel_rfl) (by kernel_rfl) (by kernel_rfl) (fun _ _ _ h => h) (Or.inl ⟨by kernel_rfl, ?_⟩) (by assumption) ?_
        rotate_left 1
        focus (intro w hSw; (try dsimp only at hSw); go_simp; (try with_reducible rfl))
        try simp only [Act.put, z1, z2, z3]
        refine wpAnyH_ready (rs := [5, 6]) (by kernel_rfl) (by simp) (AllReadyH.cons (o := o12) rfl (fun K hK => ?_) (AllReadyH.cons (o := o25) rfl (fun K hK => ?_) AllReadyH.nil))
        · (go_simp; (go_at_call 34; (refine (St.call h1350 (HRN.out _)).mono ?_); rintro e V1r18 ⟨rfl, h1351r18⟩))
          refine hK.out _ _ ?_ (fun hHeld => ?_)
          · exact HP36.out _ (h1351r18)
          clear hK K
          try simp only [Act.put, z1, z2, z3]
          refine wpAnyH_ready (rs := [6]) (by kernel_rfl) (by simp) (AllReadyH.cons (o := o25) rfl (fun K hK => ?_) AllReadyH.nil)
          have hne6r18 := h1351r18.ne
          have hle6r18 := h1351r18.below.size
          have hlt6r18 := fun (b : Nat) (o : Obj) (hm : (b, o) ∈ _) => h1351r18.lt hm
          have h1352r18 := h1351r18.alloc (.cells #[.int .i64 0, .int .i64 0, .int .i64 0, .int .i64 0, .int .i64 0] 66)
          refine wp_alloc_of 66 rfl _ (zero_box _) ?_
          refine hK.out _ _ ?_ (fun hHeld => ?_)
          · exact HP36.out _ (h1352r18.tl)
          clear hK K
          try simp only [Act.put, z1, z2, z3]
          refine wpAnyH_ready (rs := [7]) (by kernel_rfl) (by simp) (AllReadyH.cons (o := o7) rfl (fun K hK => ?_) AllReadyH.nil)
          have h1353r18 := h1352r18.rowset (ds := #[.int .i64 n0, .int .i64 n1, .int .i64 n2, .int .i64 n3, .int .i64 n4]) hle6r18 hne6r18
          refine wp_store_of 66 _ _ rfl (store_row 66 (cs := #[.int .i64 0, .int .i64 0, .int .i64 0, .int .i64 0, .int .i64 0]) (ds := #[.int .i64 n0, .int .i64 n1, .int .i64 n2, .int .i64 n3, .int .i64 n4]) (by kernel_rfl) rfl (by simp [Value.oneCell']) h1352r18.hd) ?_
          refine hK.out _ _ ?_ (fun hHeld => ?_)
          · exact HP36.out _ (h1353r18.tl)
          clear hK K
          try simp only [Act.put]
          refine wpAnyH_done (by kernel_rfl) ?_ _
          have h9 := h1353r18
          go_wp2_with fail
          go_meet
          case rel => exact ⟨_, rfl, h9⟩
        · have hne6r18 := h1350.ne
          have hle6r18 := h1350.below.size
          have hlt6r18 := fun (b : Nat) (o : Obj) (hm : (b, o) ∈ _) => h1350.lt hm
          have h1354r18 := h1350.alloc (.cells #[.int .i64 0, .int .i64 0, .int .i64 0, .int .i64 0, .int .i64 0] 66)
          refine wp_alloc_of 66 rfl _ (zero_box _) ?_
          refine hK.out _ _ ?_ (fun hHeld => ?_)
          · exact HP36.out _ (h1354r18.tl)
          clear hK K
          try simp only [Act.put, z1, z2, z3]
          refine wpAnyH_ready (rs := [5]) (by kernel_rfl) (by simp) (AllReadyH.cons (o := o12) rfl (fun K hK => ?_) AllReadyH.nil)
          (go_simp; (go_at_call 34; (refine (St.call h1354r18 (HRN.out _)).mono ?_); rintro e V5r18 ⟨rfl, h1355r18⟩))
          refine hK.out _ _ ?_ (fun hHeld => ?_)
          · exact HP36.out _ (h1355r18.tl)
          clear hK K
          try simp only [Act.put, z1, z2, z3]
          refine wpAnyH_ready (rs := [7]) (by kernel_rfl) (by simp) (AllReadyH.cons (o := o7) rfl (fun K hK => ?_) AllReadyH.nil)
          have h1356r18 := h1355r18.rowset (ds := #[.int .i64 n0, .int .i64 n1, .int .i64 n2, .int .i64 n3, .int .i64 n4]) hle6r18 hne6r18
          refine wp_store_of 66 _ _ rfl (store_row 66 (cs := #[.int .i64 0, .int .i64 0, .int .i64 0, .int .i64 0, .int .i64 0]) (ds := #[.int .i64 n0, .int .i64 n1, .int .i64 n2, .int .i64 n3, .int .i64 n4]) (by kernel_rfl) rfl (by simp [Value.oneCell']) h1355r18.hd) ?_
          refine hK.out _ _ ?_ (fun hHeld => ?_)
          · exact HP36.out _ (h1356r18.tl)
          clear hK K
          try simp only [Act.put]
          refine wpAnyH_done (by kernel_rfl) ?_ _
          have h9 := h1356r18
          go_wp2_with fail
          go_meet
          case rel => exact ⟨_, rfl, h9⟩
      obtain ⟨e5, rfl, HQ⟩ := hcut
      have h136 := HQ.out
      clear HQ HP36 h135
      go_upto_region 19 with fail
      have HP37 : Hid (∀ V9, St w [(e5, (.cells #[.int .i64 n0, .int .i64 n1, .int .i64 n2, .int .i64 n3, .int .i64 n4] 66 : Obj)), (e4, (.cells #[.int .i64 X, .int .i64 Y, .int .i64 E] 63 : Obj)), (e3, ro m0 m1 m2 m3), (e2, ro n0 n1 n2 n3), (e1, pob X Y), (c31, ao p0 p1 p2 p3 p4 p5 p6), (c8, OP), (c7, OR), (c6, OA)] V9 → St w [(e5, (.cells #[.int .i64 n0, .int .i64 n1, .int .i64 n2, .int .i64 n3, .int .i64 n4] 66 : Obj)), (e4, (.cells #[.int .i64 X, .int .i64 Y, .int .i64 E] 63 : Obj)), (e3, ro m0 m1 m2 m3), (e2, ro n0 n1 n2 n3), (e1, pob X Y), (c31, ao p0 p1 p2 p3 p4 p5 p6), (c8, OP), (c7, OR), (c6, OA)] V9 ∧ AB V9 c31 p0 p1 p2 p3 p4 p5 p6 ∧ (V9.cell? ⟨c7, 0, none⟩ = some (.int .i64 p9) ∧ V9.cell? ⟨c7, 1, none⟩ = some (.int .i64 p10) ∧ V9.cell? ⟨c7, 2, none⟩ = some (.int .i64 p11) ∧ V9.cell? ⟨c7, 3, none⟩ = some (.int .i64 p12))) := fun V hV => ⟨hV, St.aff hV (by simp), HCR0.out V (hV.row (b := c7) (o := OR) (by simp))⟩
      go_cut [24] (fun v8 wx => ∃ b9, v8 = .pointer (some ⟨b9, 0, none⟩) ∧ Hid (St w ((b9, (.cells #[.int .i64 m0, .int .i64 m1, .int .i64 m2, .int .i64 m3, .int .i64 m4] 66 : Obj)) :: [(e5, (.cells #[.int .i64 n0, .int .i64 n1, .int .i64 n2, .int .i64 n3, .int .i64 n4] 66 : Obj)), (e4, (.cells #[.int .i64 X, .int .i64 Y, .int .i64 E] 63 : Obj)), (e3, ro m0 m1 m2 m3), (e2, ro n0 n1 n2 n3), (e1, pob X Y), (c31, ao p0 p1 p2 p3 p4 p5 p6), (c8, OP), (c7, OR), (c6, OA)]) wx))
      case first => as_aux_lemma =>
        refine wp_region_held_drew (S := fun V9 => St w [(e5, (.cells #[.int .i64 n0, .int .i64 n1, .int .i64 n2, .int .i64 n3, .int .i64 n4] 66 : Obj)), (e4, (.cells #[.int .i64 X, .int .i64 Y, .int .i64 E] 63 : Obj)), (e3, ro m0 m1 m2 m3), (e2, ro n0 n1 n2 n3), (e1, pob X Y), (c31, ao p0 p1 p2 p3 p4 p5 p6), (c8, OP), (c7, OR), (c6, OA)] V9 ∧ AB V9 c31 p0 p1 p2 p3 p4 p5 p6 ∧ (V9.cell? ⟨c7, 0, none⟩ = some (.int .i64 p9) ∧ V9.cell? ⟨c7, 1, none⟩ = some (.int .i64 p10) ∧ V9.cell? ⟨c7, 2, none⟩ = some (.int .i64 p11) ∧ V9.cell? ⟨c7, 3, none⟩ = some (.int .i64 p12))) (by kernel_rfl) ?_ (fun hHeld => ?_)
        · exact HP37.out _ (h136.drew)
        have h1360 := h136.drew
        refine wpAnyH_take (i := 0) (oi := o54) (v := ?_) rfl (by kernel_rfl) (by kernel_rfl) (by kernel_rfl) (fun _ _ _ h => h) (Or.inl ⟨by kernel_rfl, ?_⟩) (by assumption) ?_
        rotate_left 1
        focus (intro w hSw; (try dsimp only at hSw); go_simp; (try with_reducible rfl))
        try simp only [Act.put, z1, z2, z3]
        refine wpAnyH_take (i := 1) (oi := o61) (v := ?_) rfl (by kernel_rfl) (by kernel_rfl) (by kernel_rfl) (fun _ _ _ h => h) (Or.inl ⟨by kernel_rfl, ?_⟩) (by assumption) ?_
        rotate_left 1
        focus (intro w hSw; (try dsimp only at hSw); go_simp; (try with_reducible rfl))
        try simp only [Act.put, z1, z2, z3]
        refine wpAnyH_take (i := 2) (oi := o29) (v := (.int .i64 0)) rfl (by kernel_rfl) (by kernel_rfl) (by kernel_rfl) (fun _ _ _ h => h) (Or.inl ⟨by kernel_rfl, ?_⟩) (by assumption) ?_
        focus (intro w hSw; (try dsimp only at hSw); go_simp; try (first | rfl | decide))
        try simp only [Act.put, z1, z2, z3]
        refine wpAnyH_take (i := 3) (oi := o39) (v := ?_) rfl (by kernel_rfl) (by kernel_rfl) (by kernel_rfl) (fun _ _ _ h => h) (Or.inl ⟨by kernel_rfl, ?_⟩) (by assumption) ?_
        rotate_left 1
        focus (intro w hSw; (try dsimp only at hSw); go_simp; (try with_reducible rfl))
        try simp only [Act.put, z1, z2, z3]
        refine wpAnyH_take (i := 4) (oi := o46) (v := ?_) rfl (by kernel_rfl) (by kernel_rfl) (by kernel_rfl) (fun _ _ _ h => h) (Or.inl ⟨by kernel_rfl, ?_⟩) (by assumption) ?_
        rotate_left 1
        focus (intro w hSw; (try dsimp only at hSw); go_simp; (try with_reducible rfl))
        try simp only [Act.put, z1, z2, z3]
        refine wpAnyH_ready (rs := [5, 6]) (by kernel_rfl) (by simp) (AllReadyH.cons (o := o10) rfl (fun K hK => ?_) (AllReadyH.cons (o := o26) rfl (fun K hK => ?_) AllReadyH.nil))
        · (go_simp; (go_at_call 35; (refine (St.call h1360 (HRB.out _)).mono ?_); rintro e V1r19 ⟨rfl, h1361r19⟩))
          refine hK.out _ _ ?_ (fun hHeld => ?_)
          · exact HP37.out _ (h1361r19)
          clear hK K
          try simp only [Act.put, z1, z2, z3]
          refine wpAnyH_ready (rs := [6]) (by kernel_rfl) (by simp) (AllReadyH.cons (o := o26) rfl (fun K hK => ?_) AllReadyH.nil)
          have hne6r19 := h1361r19.ne
          have hle6r19 := h1361r19.below.size
          have hlt6r19 := fun (b : Nat) (o : Obj) (hm : (b, o) ∈ _) => h1361r19.lt hm
          have h1362r19 := h1361r19.alloc (.cells #[.int .i64 0, .int .i64 0, .int .i64 0, .int .i64 0, .int .i64 0] 66)
          refine wp_alloc_of 66 rfl _ (zero_box _) ?_
          refine hK.out _ _ ?_ (fun hHeld => ?_)
          · exact HP37.out _ (h1362r19.tl)
          clear hK K
          try simp only [Act.put, z1, z2, z3]
          refine wpAnyH_ready (rs := [7]) (by kernel_rfl) (by simp) (AllReadyH.cons (o := o8) rfl (fun K hK => ?_) AllReadyH.nil)
          have h1363r19 := h1362r19.rowset (ds := #[.int .i64 m0, .int .i64 m1, .int .i64 m2, .int .i64 m3, .int .i64 m4]) hle6r19 hne6r19
          refine wp_store_of 66 _ _ rfl (store_row 66 (cs := #[.int .i64 0, .int .i64 0, .int .i64 0, .int .i64 0, .int .i64 0]) (ds := #[.int .i64 m0, .int .i64 m1, .int .i64 m2, .int .i64 m3, .int .i64 m4]) (by kernel_rfl) rfl (by simp [Value.oneCell']) h1362r19.hd) ?_
          refine hK.out _ _ ?_ (fun hHeld => ?_)
          · exact HP37.out _ (h1363r19.tl)
          clear hK K
          try simp only [Act.put]
          refine wpAnyH_done (by kernel_rfl) ?_ _
          have h9 := h1363r19
          go_wp2_with fail
          go_meet
          case rel => exact ⟨_, rfl, h9⟩
        · have hne6r19 := h1360.ne
          have hle6r19 := h1360.below.size
          have hlt6r19 := fun (b : Nat) (o : Obj) (hm : (b, o) ∈ _) => h1360.lt hm
          have h1364r19 := h1360.alloc (.cells #[.int .i64 0, .int .i64 0, .int .i64 0, .int .i64 0, .int .i64 0] 66)
          refine wp_alloc_of 66 rfl _ (zero_box _) ?_
          refine hK.out _ _ ?_ (fun hHeld => ?_)
          · exact HP37.out _ (h1364r19.tl)
          clear hK K
          try simp only [Act.put, z1, z2, z3]
          refine wpAnyH_ready (rs := [5]) (by kernel_rfl) (by simp) (AllReadyH.cons (o := o10) rfl (fun K hK => ?_) AllReadyH.nil)
          (go_simp; (go_at_call 35; (refine (St.call h1364r19 (HRB.out _)).mono ?_); rintro e V5r19 ⟨rfl, h1365r19⟩))
          refine hK.out _ _ ?_ (fun hHeld => ?_)
          · exact HP37.out _ (h1365r19.tl)
          clear hK K
          try simp only [Act.put, z1, z2, z3]
          refine wpAnyH_ready (rs := [7]) (by kernel_rfl) (by simp) (AllReadyH.cons (o := o8) rfl (fun K hK => ?_) AllReadyH.nil)
          have h1366r19 := h1365r19.rowset (ds := #[.int .i64 m0, .int .i64 m1, .int .i64 m2, .int .i64 m3, .int .i64 m4]) hle6r19 hne6r19
          refine wp_store_of 66 _ _ rfl (store_row 66 (cs := #[.int .i64 0, .int .i64 0, .int .i64 0, .int .i64 0, .int .i64 0]) (ds := #[.int .i64 m0, .int .i64 m1, .int .i64 m2, .int .i64 m3, .int .i64 m4]) (by kernel_rfl) rfl (by simp [Value.oneCell']) h1365r19.hd) ?_
          refine hK.out _ _ ?_ (fun hHeld => ?_)
          · exact HP37.out _ (h1366r19.tl)
          clear hK K
          try simp only [Act.put]
          refine wpAnyH_done (by kernel_rfl) ?_ _
          have h9 := h1366r19
          go_wp2_with fail
          go_meet
          case rel => exact ⟨_, rfl, h9⟩
      obtain ⟨e6, rfl, HQ⟩ := hcut
      have h137 := HQ.out
      clear HQ HP37 h136
      go_upto_region 20 with fail
      obtain ⟨_, _⟩ := St.pt h137 (b := e1) (x := X) (y := Y) (by simp)
      obtain ⟨_, _, _, _⟩ := St.rect h137 (b := e2) (x0 := n0) (x1 := n1) (x2 := n2) (x3 := n3) (by simp)
      obtain ⟨_, _, _, _⟩ := St.rect h137 (b := e3) (x0 := m0) (x1 := m1) (x2 := m2) (x3 := m3) (by simp)
      have ye40 := St.cell h137 (b := e4) (cs := #[.int .i64 X, .int .i64 Y, .int .i64 E]) (t := 63) (by simp) 0
      have ye41 := St.cell h137 (b := e4) (cs := #[.int .i64 X, .int .i64 Y, .int .i64 E]) (t := 63) (by simp) 1
      have ye42 := St.cell h137 (b := e4) (cs := #[.int .i64 X, .int .i64 Y, .int .i64 E]) (t := 63) (by simp) 2
      simp only [z4, z5, z6] at ye40 ye41 ye42
      have ye50 := St.cell h137 (b := e5) (cs := #[.int .i64 n0, .int .i64 n1, .int .i64 n2, .int .i64 n3, .int .i64 n4]) (t := 66) (by simp) 0
      have ye51 := St.cell h137 (b := e5) (cs := #[.int .i64 n0, .int .i64 n1, .int .i64 n2, .int .i64 n3, .int .i64 n4]) (t := 66) (by simp) 1
      have ye52 := St.cell h137 (b := e5) (cs := #[.int .i64 n0, .int .i64 n1, .int .i64 n2, .int .i64 n3, .int .i64 n4]) (t := 66) (by simp) 2
      have ye53 := St.cell h137 (b := e5) (cs := #[.int .i64 n0, .int .i64 n1, .int .i64 n2, .int .i64 n3, .int .i64 n4]) (t := 66) (by simp) 3
      have ye54 := St.cell h137 (b := e5) (cs := #[.int .i64 n0, .int .i64 n1, .int .i64 n2, .int .i64 n3, .int .i64 n4]) (t := 66) (by simp) 4
      simp only [z4, z5, z6] at ye50 ye51 ye52 ye53 ye54
      have ye60 := St.cell h137 (b := e6) (cs := #[.int .i64 m0, .int .i64 m1, .int .i64 m2, .int .i64 m3, .int .i64 m4]) (t := 66) (by simp) 0
      have ye61 := St.cell h137 (b := e6) (cs := #[.int .i64 m0, .int .i64 m1, .int .i64 m2, .int .i64 m3, .int .i64 m4]) (t := 66) (by simp) 1
      have ye62 := St.cell h137 (b := e6) (cs := #[.int .i64 m0, .int .i64 m1, .int .i64 m2, .int .i64 m3, .int .i64 m4]) (t := 66) (by simp) 2
      have ye63 := St.cell h137 (b := e6) (cs := #[.int .i64 m0, .int .i64 m1, .int .i64 m2, .int .i64 m3, .int .i64 m4]) (t := 66) (by simp) 3
      have ye64 := St.cell h137 (b := e6) (cs := #[.int .i64 m0, .int .i64 m1, .int .i64 m2, .int .i64 m3, .int .i64 m4]) (t := 66) (by simp) 4
      simp only [z4, z5, z6] at ye60 ye61 ye62 ye63 ye64
      go_wp2_with fail
      exact ⟨⟨(.inr (.inl rfl)), h137.sub (by intro x hx; simp at hx ⊢; rcases hx with rfl | rfl | rfl <;> simp)⟩, by decide⟩
    · as_aux_lemma =>
      obtain ⟨X, Y, E, hsr⟩ : ∃ X Y E, srcT ⟨s0, s1, s2, s3, s4, s5, s6⟩ p7 p8 = ⟨X, Y, E⟩ := ⟨_, _, _, rfl⟩
      obtain ⟨n0, n1, n2, n3, n4, hnd⟩ : ∃ n0 n1 n2 n3 n4, needT ⟨s0, s1, s2, s3, s4, s5, s6⟩ p9 p10 p11 p12 = ⟨n0, n1, n2, n3, n4⟩ := ⟨_, _, _, _, _, rfl⟩
      obtain ⟨m0, m1, m2, m3, m4, hbn⟩ : ∃ m0 m1 m2 m3 m4, boundsT ⟨s0, s1, s2, s3, s4, s5, s6⟩ p9 p10 p11 p12 = ⟨m0, m1, m2, m3, m4⟩ := ⟨_, _, _, _, _, rfl⟩
      have HS : Hid (∀ W, Calls Try.prog 30 #[av s0 s1 s2 s3 s4 s5 s6, tv p7 p8] W fun en w' => en = .returned (.tuple #[tv X Y, .int .i64 E]) ∧ Below W.heap.size W w') := fun W => by
        have := sourceT_any s0 s1 s2 s3 s4 s5 s6 p7 p8 W; rw [hsr] at this; exact this
      have HN : Hid (∀ W, Calls Try.prog 31 #[av s0 s1 s2 s3 s4 s5 s6, rv p9 p10 p11 p12] W fun en w' => en = .returned (.tuple #[rv n0 n1 n2 n3, .int .i64 n4]) ∧ Below W.heap.size W w') := fun W => by
        have := needT_any s0 s1 s2 s3 s4 s5 s6 p9 p10 p11 p12 W; rw [hnd] at this; exact this
      have HB : Hid (∀ W, Calls Try.prog 32 #[av s0 s1 s2 s3 s4 s5 s6, rv p9 p10 p11 p12] W fun en w' => en = .returned (.tuple #[rv m0 m1 m2 m3, .int .i64 m4]) ∧ Below W.heap.size W w') := fun W => by
        have := boundsT_any s0 s1 s2 s3 s4 s5 s6 p9 p10 p11 p12 W; rw [hbn] at this; exact this
      have HRS : Hid (∀ W, Calls Try.prog 33 #[av s0 s1 s2 s3 s4 s5 s6, .int .i64 p7, .int .i64 p8] W fun en w' => en = .returned (.agg #[.int .i64 X, .int .i64 Y, .int .i64 E]) ∧ Below W.heap.size W w') := fun W => by
        have := refSourceT_any s0 s1 s2 s3 s4 s5 s6 p7 p8 W; rw [hsr] at this; exact this
      have HRN : Hid (∀ W, Calls Try.prog 34 #[av s0 s1 s2 s3 s4 s5 s6, rv p9 p10 p11 p12] W fun en w' => en = .returned (.agg #[.int .i64 n0, .int .i64 n1, .int .i64 n2, .int .i64 n3, .int .i64 n4]) ∧ Below W.heap.size W w') := fun W => by
        have := refNeedT_any s0 s1 s2 s3 s4 s5 s6 p9 p10 p11 p12 W; rw [hnd] at this; exact this
      have HRB : Hid (∀ W, Calls Try.prog 35 #[av s0 s1 s2 s3 s4 s5 s6, rv p9 p10 p11 p12] W fun en w' => en = .returned (.agg #[.int .i64 m0, .int .i64 m1, .int .i64 m2, .int .i64 m3, .int .i64 m4]) ∧ Below W.heap.size W w') := fun W => by
        have := refBoundsT_any s0 s1 s2 s3 s4 s5 s6 p9 p10 p11 p12 W; rw [hbn] at this; exact this
      clear hsr hnd hbn
      obtain ⟨_, _, _, _, _, _, _⟩ := HCA1.out _ (St.row hS (b := c6) (o := OA) (by simp))
      go_upto_region 14 with fail
      have h31 := hS.alloc (ao s0 s1 s2 s3 s4 s5 s6)
      generalize wr.heap.size = c31 at h31 ⊢
      generalize wr.alloc (ao s0 s1 s2 s3 s4 s5 s6) = w31 at h31 ⊢
      have HP32 : Hid (∀ V9, St w [(c31, ao s0 s1 s2 s3 s4 s5 s6), (c8, OP), (c7, OR), (c6, OA)] V9 → St w [(c31, ao s0 s1 s2 s3 s4 s5 s6), (c8, OP), (c7, OR), (c6, OA)] V9 ∧ AB V9 c31 s0 s1 s2 s3 s4 s5 s6 ∧ (V9.cell? ⟨c8, 0, none⟩ = some (.int .i64 p7) ∧ V9.cell? ⟨c8, 1, none⟩ = some (.int .i64 p8))) := fun V hV => ⟨hV, St.aff hV (by simp), HCP0.out V (hV.row (b := c8) (o := OP) (by simp))⟩
      go_cut [16, 17] (fun v8 v9 wx => ∃ b9, v8 = .pointer (some ⟨b9, 0, none⟩) ∧ v9 = .int .i64 E ∧ Hid (St w ((b9, pob X Y) :: [(c31, ao s0 s1 s2 s3 s4 s5 s6), (c8, OP), (c7, OR), (c6, OA)]) wx))
      case first => as_aux_lemma =>
        refine wp_region_held_drew (S := fun V9 => St w [(c31, ao s0 s1 s2 s3 s4 s5 s6), (c8, OP), (c7, OR), (c6, OA)] V9 ∧ AB V9 c31 s0 s1 s2 s3 s4 s5 s6 ∧ (V9.cell? ⟨c8, 0, none⟩ = some (.int .i64 p7) ∧ V9.cell? ⟨c8, 1, none⟩ = some (.int .i64 p8))) (by kernel_rfl) ?_ (fun hHeld => ?_)
        · exact HP32.out _ (h31.drew)
        have h310 := h31.drew
        refine wpAnyH_take (i := 0) (oi := o55) (v := ?_) rfl (by kernel_rfl) (by kernel_rfl) (by kernel_rfl) (fun _ _ _ h => h) (Or.inl ⟨by kernel_rfl, ?_⟩) (by assumption) ?_
        rotate_left 1
        focus (intro w hSw; (try dsimp only at hSw); go_simp; (try with_reducible rfl))
        try simp only [Act.put, z1, z2, z3]
        refine wpAnyH_take (i := 1) (oi := o62) (v := ?_) rfl (by kernel_rfl) (by kernel_rfl) (by kernel_rfl) (fun _ _ _ h => h) (Or.inl ⟨by kernel_rfl, ?_⟩) (by assumption) ?_
        rotate_left 1
        focus (intro w hSw; (try dsimp only at hSw); go_simp; (try with_reducible rfl))
        try simp only [Act.put, z1, z2, z3]
        refine wpAnyH_take (i := 2) (oi := o30) (v := (.int .i64 0)) rfl (by kernel_rfl) (by kernel_rfl) (by kernel_rfl) (fun _ _ _ h => h) (Or.inl ⟨by kernel_rfl, ?_⟩) (by assumption) ?_
        focus (intro w hSw; (try dsimp only at hSw); go_simp; try (first | rfl | decide))
        try simp only [Act.put, z1, z2, z3]
        refine wpAnyH_take (i := 3) (oi := o40) (v := ?_) rfl (by kernel_rfl) (by kernel_rfl) (by kernel_rfl) (fun _ _ _ h => h) (Or.inl ⟨by kernel_rfl, ?_⟩) (by assumption) ?_
        rotate_left 1
        focus (intro w hSw; (try dsimp only at hSw); go_simp; (try with_reducible rfl))
        try simp only [Act.put, z1, z2, z3]
        refine wpAnyH_take (i := 4) (oi := o44) (v := ?_) rfl (by kernel_rfl) (by kernel_rfl) (by kernel_rfl) (fun _ _ _ h => h) (Or.inl ⟨by kernel_rfl, ?_⟩) (by assumption) ?_
        rotate_left 1
        focus (intro w hSw; (try dsimp only at hSw); go_simp; (try with_reducible rfl))
        try simp only [Act.put, z1, z2, z3]
        refine wpAnyH_ready (rs := [5, 9]) (by kernel_rfl) (by simp) (AllReadyH.cons (o := o11) rfl (fun K hK => ?_) (AllReadyH.cons (o := o34) rfl (fun K hK => ?_) AllReadyH.nil))
        · (go_simp; (go_at_call 30; (refine (St.call h310 (HS.out _)).mono ?_); rintro e V1r14 ⟨rfl, h311r14⟩))
          refine hK.out _ _ ?_ (fun hHeld => ?_)
          · exact HP32.out _ (h311r14)
          clear hK K
          try simp only [Act.put, z1, z2, z3]
          refine wpAnyH_take (i := 6) (oi := o18) (v := ?_) rfl (by kernel_rfl) (by kernel_rfl) (by kernel_rfl) (fun _ _ _ h => h) (Or.inl ⟨by kernel_rfl, ?_⟩) (by assumption) ?_
          rotate_left 1
          focus (intro w hSw; (try dsimp only at hSw); go_simp; (try with_reducible rfl))
          try simp only [Act.put, z1, z2, z3]
          refine wpAnyH_take (i := 7) (oi := o21) (v := ?_) rfl (by kernel_rfl) (by kernel_rfl) (by kernel_rfl) (fun _ _ _ h => h) (Or.inl ⟨by kernel_rfl, ?_⟩) (by assumption) ?_
          rotate_left 1
          focus (intro w hSw; (try dsimp only at hSw); go_simp; (try with_reducible rfl))
          try simp only [Act.put, z1, z2, z3]
          refine wpAnyH_take (i := 8) (oi := o15) (v := ?_) rfl (by kernel_rfl) (by kernel_rfl) (by kernel_rfl) (fun _ _ _ h => h) (Or.inl ⟨by kernel_rfl, ?_⟩) (by assumption) ?_
          rotate_left 1
          focus (intro w hSw; (try dsimp only at hSw); go_simp; (try with_reducible rfl))
          try simp only [Act.put, z1, z2, z3]
          refine wpAnyH_ready (rs := [9]) (by kernel_rfl) (by simp) (AllReadyH.cons (o := o34) rfl (fun K hK => ?_) AllReadyH.nil)
          have hne9r14 := h311r14.ne
          have hle9r14 := h311r14.below.size
          have hlt9r14 := fun (b : Nat) (o : Obj) (hm : (b, o) ∈ _) => h311r14.lt hm
          have h312r14 := h311r14.alloc (.cells #[.int .i64 0, .int .i64 0] 49)
          refine wp_alloc_of 49 rfl _ (zero_pt _) ?_
          refine hK.out _ _ ?_ (fun hHeld => ?_)
          · exact HP32.out _ (h312r14.tl)
          clear hK K
          try simp only [Act.put, z1, z2, z3]
          refine wpAnyH_ready (rs := [10]) (by kernel_rfl) (by simp) (AllReadyH.cons (o := o1) rfl (fun K hK => ?_) AllReadyH.nil)
          have h313r14 := h312r14.rowset (ds := #[.int .i64 X, .int .i64 Y]) hle9r14 hne9r14
          refine wp_store_of 49 _ _ rfl (store_row 49 (cs := #[.int .i64 0, .int .i64 0]) (ds := #[.int .i64 X, .int .i64 Y]) (by kernel_rfl) rfl (by simp [Value.oneCell']) h312r14.hd) ?_
          refine hK.out _ _ ?_ (fun hHeld => ?_)
          · exact HP32.out _ (h313r14.tl)
          clear hK K
          try simp only [Act.put]
          refine wpAnyH_take (i := 11) (oi := o4) (v := ?_) rfl (by kernel_rfl) (by kernel_rfl) (by kernel_rfl) (fun _ _ _ h => h) (Or.inl ⟨by kernel_rfl, ?_⟩) (by assumption) ?_
          rotate_left 1
          focus (intro w hSw; (try dsimp only at hSw); go_simp; (try with_reducible rfl))
          try simp only [Act.put, z1, z2, z3]
          refine wpAnyH_done (by kernel_rfl) ?_ _
          have h9 := h313r14
          go_wp2_with fail
          go_meet
          case rel => exact ⟨_, rfl, rfl, h9⟩
        · have hne9r14 := h310.ne
          have hle9r14 := h310.below.size
          have hlt9r14 := fun (b : Nat) (o : Obj) (hm : (b, o) ∈ _) => h310.lt hm
          have h314r14 := h310.alloc (.cells #[.int .i64 0, .int .i64 0] 49)
          refine wp_alloc_of 49 rfl _ (zero_pt _) ?_
          refine hK.out _ _ ?_ (fun hHeld => ?_)
          · exact HP32.out _ (h314r14.tl)
          clear hK K
          try simp only [Act.put, z1, z2, z3]
          refine wpAnyH_ready (rs := [5]) (by kernel_rfl) (by simp) (AllReadyH.cons (o := o11) rfl (fun K hK => ?_) AllReadyH.nil)
          (go_simp; (go_at_call 30; (refine (St.call h314r14 (HS.out _)).mono ?_); rintro e V5r14 ⟨rfl, h315r14⟩))
          refine hK.out _ _ ?_ (fun hHeld => ?_)
          · exact HP32.out _ (h315r14.tl)
          clear hK K
          try simp only [Act.put, z1, z2, z3]
          refine wpAnyH_take (i := 6) (oi := o18) (v := ?_) rfl (by kernel_rfl) (by kernel_rfl) (by kernel_rfl) (fun _ _ _ h => h) (Or.inl ⟨by kernel_rfl, ?_⟩) (by assumption) ?_
          rotate_left 1
          focus (intro w hSw; (try dsimp only at hSw); go_simp; (try with_reducible rfl))
          try simp only [Act.put, z1, z2, z3]
          refine wpAnyH_take (i := 7) (oi := o21) (v := ?_) rfl (by kernel_rfl) (by kernel_rfl) (by kernel_rfl) (fun _ _ _ h => h) (Or.inl ⟨by kernel_rfl, ?_⟩) (by assumption) ?_
          rotate_left 1
          focus (intro w hSw; (try dsimp only at hSw); go_simp; (try with_reducible rfl))
          try simp only [Act.put, z1, z2, z3]
          refine wpAnyH_take (i := 8) (oi := o15) (v := ?_) rfl (by kernel_rfl) (by kernel_rfl) (by kernel_rfl) (fun _ _ _ h => h) (Or.inl ⟨by kernel_rfl, ?_⟩) (by assumption) ?_
          rotate_left 1
          focus (intro w hSw; (try dsimp only at hSw); go_simp; (try with_reducible rfl))
          try simp only [Act.put, z1, z2, z3]
          refine wpAnyH_ready (rs := [10]) (by kernel_rfl) (by simp) (AllReadyH.cons (o := o1) rfl (fun K hK => ?_) AllReadyH.nil)
          have h316r14 := h315r14.rowset (ds := #[.int .i64 X, .int .i64 Y]) hle9r14 hne9r14
          refine wp_store_of 49 _ _ rfl (store_row 49 (cs := #[.int .i64 0, .int .i64 0]) (ds := #[.int .i64 X, .int .i64 Y]) (by kernel_rfl) rfl (by simp [Value.oneCell']) h315r14.hd) ?_
          refine hK.out _ _ ?_ (fun hHeld => ?_)
          · exact HP32.out _ (h316r14.tl)
          clear hK K
          try simp only [Act.put]
          refine wpAnyH_take (i := 11) (oi := o4) (v := ?_) rfl (by kernel_rfl) (by kernel_rfl) (by kernel_rfl) (fun _ _ _ h => h) (Or.inl ⟨by kernel_rfl, ?_⟩) (by assumption) ?_
          rotate_left 1
          focus (intro w hSw; (try dsimp only at hSw); go_simp; (try with_reducible rfl))
          try simp only [Act.put, z1, z2, z3]
          refine wpAnyH_done (by kernel_rfl) ?_ _
          have h9 := h316r14
          go_wp2_with fail
          go_meet
          case rel => exact ⟨_, rfl, rfl, h9⟩
      obtain ⟨e1, rfl, rfl, HQ⟩ := hcut
      have h132 := HQ.out
      clear HQ HP32 h31
      go_upto_region 15 with fail
      have HP33 : Hid (∀ V9, St w [(e1, pob X Y), (c31, ao s0 s1 s2 s3 s4 s5 s6), (c8, OP), (c7, OR), (c6, OA)] V9 → St w [(e1, pob X Y), (c31, ao s0 s1 s2 s3 s4 s5 s6), (c8, OP), (c7, OR), (c6, OA)] V9 ∧ AB V9 c31 s0 s1 s2 s3 s4 s5 s6 ∧ (V9.cell? ⟨c7, 0, none⟩ = some (.int .i64 p9) ∧ V9.cell? ⟨c7, 1, none⟩ = some (.int .i64 p10) ∧ V9.cell? ⟨c7, 2, none⟩ = some (.int .i64 p11) ∧ V9.cell? ⟨c7, 3, none⟩ = some (.int .i64 p12))) := fun V hV => ⟨hV, St.aff hV (by simp), HCR0.out V (hV.row (b := c7) (o := OR) (by simp))⟩
      go_cut [18, 19] (fun v8 v9 wx => ∃ b9, v8 = .pointer (some ⟨b9, 0, none⟩) ∧ v9 = .int .i64 n4 ∧ Hid (St w ((b9, ro n0 n1 n2 n3) :: [(e1, pob X Y), (c31, ao s0 s1 s2 s3 s4 s5 s6), (c8, OP), (c7, OR), (c6, OA)]) wx))
      case first => as_aux_lemma =>
        refine wp_region_held_drew (S := fun V9 => St w [(e1, pob X Y), (c31, ao s0 s1 s2 s3 s4 s5 s6), (c8, OP), (c7, OR), (c6, OA)] V9 ∧ AB V9 c31 s0 s1 s2 s3 s4 s5 s6 ∧ (V9.cell? ⟨c7, 0, none⟩ = some (.int .i64 p9) ∧ V9.cell? ⟨c7, 1, none⟩ = some (.int .i64 p10) ∧ V9.cell? ⟨c7, 2, none⟩ = some (.int .i64 p11) ∧ V9.cell? ⟨c7, 3, none⟩ = some (.int .i64 p12))) (by kernel_rfl) ?_ (fun hHeld => ?_)
        · exact HP33.out _ (h132.drew)
        have h1320 := h132.drew
        refine wpAnyH_take (i := 0) (oi := o56) (v := ?_) rfl (by kernel_rfl) (by kernel_rfl) (by kernel_rfl) (fun _ _ _ h => h) (Or.inl ⟨by kernel_rfl, ?_⟩) (by assumption) ?_
        rotate_left 1
        focus (intro w hSw; (try dsimp only at hSw); go_simp; (try with_reducible rfl))
        try simp only [Act.put, z1, z2, z3]
        refine wpAnyH_take (i := 1) (oi := o63) (v := ?_) rfl (by kernel_rfl) (by kernel_rfl) (by kernel_rfl) (fun _ _ _ h => h) (Or.inl ⟨by kernel_rfl, ?_⟩) (by assumption) ?_
        rotate_left 1
        focus (intro w hSw; (try dsimp only at hSw); go_simp; (try with_reducible rfl))
        try simp only [Act.put, z1, z2, z3]
        refine wpAnyH_take (i := 2) (oi := o31) (v := (.int .i64 0)) rfl (by kernel_rfl) (by kernel_rfl) (by kernel_rfl) (fun _ _ _ h => h) (Or.inl ⟨by kernel_rfl, ?_⟩) (by assumption) ?_
        focus (intro w hSw; (try dsimp only at hSw); go_simp; try (first | rfl | decide))
        try simp only [Act.put, z1, z2, z3]
        refine wpAnyH_take (i := 3) (oi := o42) (v := ?_) rfl (by kernel_rfl) (by kernel_rfl) (by kernel_rfl) (fun _ _ _ h => h) (Or.inl ⟨by kernel_rfl, ?_⟩) (by assumption) ?_
        rotate_left 1
        focus (intro w hSw; (try dsimp only at hSw); go_simp; (try with_reducible rfl))
        try simp only [Act.put, z1, z2, z3]
        refine wpAnyH_take (i := 4) (oi := o47) (v := ?_) rfl (by kernel_rfl) (by kernel_rfl) (by kernel_rfl) (fun _ _ _ h => h) (Or.inl ⟨by kernel_rfl, ?_⟩) (by assumption) ?_
        rotate_left 1
        focus (intro w hSw; (try dsimp only at hSw); go_simp; (try with_reducible rfl))
        try simp only [Act.put, z1, z2, z3]
        refine wpAnyH_ready (rs := [5, 9]) (by kernel_rfl) (by simp) (AllReadyH.cons (o := o14) rfl (fun K hK => ?_) (AllReadyH.cons (o := o35) rfl (fun K hK => ?_) AllReadyH.nil))
        · (go_simp; (go_at_call 31; (refine (St.call h1320 (HN.out _)).mono ?_); rintro e V1r15 ⟨rfl, h1321r15⟩))
          refine hK.out _ _ ?_ (fun hHeld => ?_)
          · exact HP33.out _ (h1321r15)
          clear hK K
          try simp only [Act.put, z1, z2, z3]
          refine wpAnyH_take (i := 6) (oi := o19) (v := ?_) rfl (by kernel_rfl) (by kernel_rfl) (by kernel_rfl) (fun _ _ _ h => h) (Or.inl ⟨by kernel_rfl, ?_⟩) (by assumption) ?_
          rotate_left 1
          focus (intro w hSw; (try dsimp only at hSw); go_simp; (try with_reducible rfl))
          try simp only [Act.put, z1, z2, z3]
          refine wpAnyH_take (i := 7) (oi := o22) (v := ?_) rfl (by kernel_rfl) (by kernel_rfl) (by kernel_rfl) (fun _ _ _ h => h) (Or.inl ⟨by kernel_rfl, ?_⟩) (by assumption) ?_
          rotate_left 1
          focus (intro w hSw; (try dsimp only at hSw); go_simp; (try with_reducible rfl))
          try simp only [Act.put, z1, z2, z3]
          refine wpAnyH_take (i := 8) (oi := o16) (v := ?_) rfl (by kernel_rfl) (by kernel_rfl) (by kernel_rfl) (fun _ _ _ h => h) (Or.inl ⟨by kernel_rfl, ?_⟩) (by assumption) ?_
          rotate_left 1
          focus (intro w hSw; (try dsimp only at hSw); go_simp; (try with_reducible rfl))
          try simp only [Act.put, z1, z2, z3]
          refine wpAnyH_ready (rs := [9]) (by kernel_rfl) (by simp) (AllReadyH.cons (o := o35) rfl (fun K hK => ?_) AllReadyH.nil)
          have hne9r15 := h1321r15.ne
          have hle9r15 := h1321r15.below.size
          have hlt9r15 := fun (b : Nat) (o : Obj) (hm : (b, o) ∈ _) => h1321r15.lt hm
          have h1322r15 := h1321r15.alloc (.cells #[.int .i64 0, .int .i64 0, .int .i64 0, .int .i64 0] 51)
          refine wp_alloc_of 51 rfl _ (zero_rect _) ?_
          refine hK.out _ _ ?_ (fun hHeld => ?_)
          · exact HP33.out _ (h1322r15.tl)
          clear hK K
          try simp only [Act.put, z1, z2, z3]
          refine wpAnyH_ready (rs := [10]) (by kernel_rfl) (by simp) (AllReadyH.cons (o := o2) rfl (fun K hK => ?_) AllReadyH.nil)
          have h1323r15 := h1322r15.rowset (ds := #[.int .i64 n0, .int .i64 n1, .int .i64 n2, .int .i64 n3]) hle9r15 hne9r15
          refine wp_store_of 51 _ _ rfl (store_row 51 (cs := #[.int .i64 0, .int .i64 0, .int .i64 0, .int .i64 0]) (ds := #[.int .i64 n0, .int .i64 n1, .int .i64 n2, .int .i64 n3]) (by kernel_rfl) rfl (by simp [Value.oneCell']) h1322r15.hd) ?_
          refine hK.out _ _ ?_ (fun hHeld => ?_)
          · exact HP33.out _ (h1323r15.tl)
          clear hK K
          try simp only [Act.put]
          refine wpAnyH_take (i := 11) (oi := o5) (v := ?_) rfl (by kernel_rfl) (by kernel_rfl) (by kernel_rfl) (fun _ _ _ h => h) (Or.inl ⟨by kernel_rfl, ?_⟩) (by assumption) ?_
          rotate_left 1
          focus (intro w hSw; (try dsimp only at hSw); go_simp; (try with_reducible rfl))
          try simp only [Act.put, z1, z2, z3]
          refine wpAnyH_done (by kernel_rfl) ?_ _
          have h9 := h1323r15
          go_wp2_with fail
          go_meet
          case rel => exact ⟨_, rfl, rfl, h9⟩
        · have hne9r15 := h1320.ne
          have hle9r15 := h1320.below.size
          have hlt9r15 := fun (b : Nat) (o : Obj) (hm : (b, o) ∈ _) => h1320.lt hm
          have h1324r15 := h1320.alloc (.cells #[.int .i64 0, .int .i64 0, .int .i64 0, .int .i64 0] 51)
          refine wp_alloc_of 51 rfl _ (zero_rect _) ?_
          refine hK.out _ _ ?_ (fun hHeld => ?_)
          · exact HP33.out _ (h1324r15.tl)
          clear hK K
          try simp only [Act.put, z1, z2, z3]
          refine wpAnyH_ready (rs := [5]) (by kernel_rfl) (by simp) (AllReadyH.cons (o := o14) rfl (fun K hK => ?_) AllReadyH.nil)
          (go_simp; (go_at_call 31; (refine (St.call h1324r15 (HN.out _)).mono ?_); rintro e V5r15 ⟨rfl, h1325r15⟩))
          refine hK.out _ _ ?_ (fun hHeld => ?_)
          · exact HP33.out _ (h1325r15.tl)
          clear hK K
          try simp only [Act.put, z1, z2, z3]
          refine wpAnyH_take (i := 6) (oi := o19) (v := ?_) rfl (by kernel_rfl) (by kernel_rfl) (by kernel_rfl) (fun _ _ _ h => h) (Or.inl ⟨by kernel_rfl, ?_⟩) (by assumption) ?_
          rotate_left 1
          focus (intro w hSw; (try dsimp only at hSw); go_simp; (try with_reducible rfl))
          try simp only [Act.put, z1, z2, z3]
          refine wpAnyH_take (i := 7) (oi := o22) (v := ?_) rfl (by kernel_rfl) (by kernel_rfl) (by kernel_rfl) (fun _ _ _ h => h) (Or.inl ⟨by kernel_rfl, ?_⟩) (by assumption) ?_
          rotate_left 1
          focus (intro w hSw; (try dsimp only at hSw); go_simp; (try with_reducible rfl))
          try simp only [Act.put, z1, z2, z3]
          refine wpAnyH_take (i := 8) (oi := o16) (v := ?_) rfl (by kernel_rfl) (by kernel_rfl) (by kernel_rfl) (fun _ _ _ h => h) (Or.inl ⟨by kernel_rfl, ?_⟩) (by assumption) ?_
          rotate_left 1
          focus (intro w hSw; (try dsimp only at hSw); go_simp; (try with_reducible rfl))
          try simp only [Act.put, z1, z2, z3]
          refine wpAnyH_ready (rs := [10]) (by kernel_rfl) (by simp) (AllReadyH.cons (o := o2) rfl (fun K hK => ?_) AllReadyH.nil)
          have h1326r15 := h1325r15.rowset (ds := #[.int .i64 n0, .int .i64 n1, .int .i64 n2, .int .i64 n3]) hle9r15 hne9r15
          refine wp_store_of 51 _ _ rfl (store_row 51 (cs := #[.int .i64 0, .int .i64 0, .int .i64 0, .int .i64 0]) (ds := #[.int .i64 n0, .int .i64 n1, .int .i64 n2, .int .i64 n3]) (by kernel_rfl) rfl (by simp [Value.oneCell']) h1325r15.hd) ?_
          refine hK.out _ _ ?_ (fun hHeld => ?_)
          · exact HP33.out _ (h1326r15.tl)
          clear hK K
          try simp only [Act.put]
          refine wpAnyH_take (i := 11) (oi := o5) (v := ?_) rfl (by kernel_rfl) (by kernel_rfl) (by kernel_rfl) (fun _ _ _ h => h) (Or.inl ⟨by kernel_rfl, ?_⟩) (by assumption) ?_
          rotate_left 1
          focus (intro w hSw; (try dsimp only at hSw); go_simp; (try with_reducible rfl))
          try simp only [Act.put, z1, z2, z3]
          refine wpAnyH_done (by kernel_rfl) ?_ _
          have h9 := h1326r15
          go_wp2_with fail
          go_meet
          case rel => exact ⟨_, rfl, rfl, h9⟩
      obtain ⟨e2, rfl, rfl, HQ⟩ := hcut
      have h133 := HQ.out
      clear HQ HP33 h132
      go_upto_region 16 with fail
      have HP34 : Hid (∀ V9, St w [(e2, ro n0 n1 n2 n3), (e1, pob X Y), (c31, ao s0 s1 s2 s3 s4 s5 s6), (c8, OP), (c7, OR), (c6, OA)] V9 → St w [(e2, ro n0 n1 n2 n3), (e1, pob X Y), (c31, ao s0 s1 s2 s3 s4 s5 s6), (c8, OP), (c7, OR), (c6, OA)] V9 ∧ AB V9 c31 s0 s1 s2 s3 s4 s5 s6 ∧ (V9.cell? ⟨c7, 0, none⟩ = some (.int .i64 p9) ∧ V9.cell? ⟨c7, 1, none⟩ = some (.int .i64 p10) ∧ V9.cell? ⟨c7, 2, none⟩ = some (.int .i64 p11) ∧ V9.cell? ⟨c7, 3, none⟩ = some (.int .i64 p12))) := fun V hV => ⟨hV, St.aff hV (by simp), HCR0.out V (hV.row (b := c7) (o := OR) (by simp))⟩
      go_cut [20, 21] (fun v8 v9 wx => ∃ b9, v8 = .pointer (some ⟨b9, 0, none⟩) ∧ v9 = .int .i64 m4 ∧ Hid (St w ((b9, ro m0 m1 m2 m3) :: [(e2, ro n0 n1 n2 n3), (e1, pob X Y), (c31, ao s0 s1 s2 s3 s4 s5 s6), (c8, OP), (c7, OR), (c6, OA)]) wx))
      case first => as_aux_lemma =>
        refine wp_region_held_drew (S := fun V9 => St w [(e2, ro n0 n1 n2 n3), (e1, pob X Y), (c31, ao s0 s1 s2 s3 s4 s5 s6), (c8, OP), (c7, OR), (c6, OA)] V9 ∧ AB V9 c31 s0 s1 s2 s3 s4 s5 s6 ∧ (V9.cell? ⟨c7, 0, none⟩ = some (.int .i64 p9) ∧ V9.cell? ⟨c7, 1, none⟩ = some (.int .i64 p10) ∧ V9.cell? ⟨c7, 2, none⟩ = some (.int .i64 p11) ∧ V9.cell? ⟨c7, 3, none⟩ = some (.int .i64 p12))) (by kernel_rfl) ?_ (fun hHeld => ?_)
        · exact HP34.out _ (h133.drew)
        have h1330 := h133.drew
        refine wpAnyH_take (i := 0) (oi := o57) (v := ?_) rfl (by kernel_rfl) (by kernel_rfl) (by kernel_rfl) (fun _ _ _ h => h) (Or.inl ⟨by kernel_rfl, ?_⟩) (by assumption) ?_
        rotate_left 1
        focus (intro w hSw; (try dsimp only at hSw); go_simp; (try with_reducible rfl))
        try simp only [Act.put, z1, z2, z3]
        refine wpAnyH_take (i := 1) (oi := o64) (v := ?_) rfl (by kernel_rfl) (by kernel_rfl) (by kernel_rfl) (fun _ _ _ h => h) (Or.inl ⟨by kernel_rfl, ?_⟩) (by assumption) ?_
        rotate_left 1
        focus (intro w hSw; (try dsimp only at hSw); go_simp; (try with_reducible rfl))
        try simp only [Act.put, z1, z2, z3]
        refine wpAnyH_take (i := 2) (oi := o32) (v := (.int .i64 0)) rfl (by kernel_rfl) (by kernel_rfl) (by kernel_rfl) (fun _ _ _ h => h) (Or.inl ⟨by kernel_rfl, ?_⟩) (by assumption) ?_
        focus (intro w hSw; (try dsimp only at hSw); go_simp; try (first | rfl | decide))
        try simp only [Act.put, z1, z2, z3]
        refine wpAnyH_take (i := 3) (oi := o43) (v := ?_) rfl (by kernel_rfl) (by kernel_rfl) (by kernel_rfl) (fun _ _ _ h => h) (Or.inl ⟨by kernel_rfl, ?_⟩) (by assumption) ?_
        rotate_left 1
        focus (intro w hSw; (try dsimp only at hSw); go_simp; (try with_reducible rfl))
        try simp only [Act.put, z1, z2, z3]
        refine wpAnyH_take (i := 4) (oi := o48) (v := ?_) rfl (by kernel_rfl) (by kernel_rfl) (by kernel_rfl) (fun _ _ _ h => h) (Or.inl ⟨by kernel_rfl, ?_⟩) (by assumption) ?_
        rotate_left 1
        focus (intro w hSw; (try dsimp only at hSw); go_simp; (try with_reducible rfl))
        try simp only [Act.put, z1, z2, z3]
        refine wpAnyH_ready (rs := [5, 9]) (by kernel_rfl) (by simp) (AllReadyH.cons (o := o13) rfl (fun K hK => ?_) (AllReadyH.cons (o := o36) rfl (fun K hK => ?_) AllReadyH.nil))
        · (go_simp; (go_at_call 32; (refine (St.call h1330 (HB.out _)).mono ?_); rintro e V1r16 ⟨rfl, h1331r16⟩))
          refine hK.out _ _ ?_ (fun hHeld => ?_)
          · exact HP34.out _ (h1331r16)
          clear hK K
          try simp only [Act.put, z1, z2, z3]
          refine wpAnyH_take (i := 6) (oi := o20) (v := ?_) rfl (by kernel_rfl) (by kernel_rfl) (by kernel_rfl) (fun _ _ _ h => h) (Or.inl ⟨by kernel_rfl, ?_⟩) (by assumption) ?_
          rotate_left 1
          focus (intro w hSw; (try dsimp only at hSw); go_simp; (try with_reducible rfl))
          try simp only [Act.put, z1, z2, z3]
          refine wpAnyH_take (i := 7) (oi := o23) (v := ?_) rfl (by kernel_rfl) (by kernel_rfl) (by kernel_rfl) (fun _ _ _ h => h) (Or.inl ⟨by kernel_rfl, ?_⟩) (by assumption) ?_
          rotate_left 1
          focus (intro w hSw; (try dsimp only at hSw); go_simp; (try with_reducible rfl))
          try simp only [Act.put, z1, z2, z3]
          refine wpAnyH_take (i := 8) (oi := o17) (v := ?_) rfl (by kernel_rfl) (by kernel_rfl) (by kernel_rfl) (fun _ _ _ h => h) (Or.inl ⟨by kernel_rfl, ?_⟩) (by assumption) ?_
          rotate_left 1
          focus (intro w hSw; (try dsimp only at hSw); go_simp; (try with_reducible rfl))
          try simp only [Act.put, z1, z2, z3]
          refine wpAnyH_ready (rs := [9]) (by kernel_rfl) (by simp) (AllReadyH.cons (o := o36) rfl (fun K hK => ?_) AllReadyH.nil)
          have hne9r16 := h1331r16.ne
          have hle9r16 := h1331r16.below.size
          have hlt9r16 := fun (b : Nat) (o : Obj) (hm : (b, o) ∈ _) => h1331r16.lt hm
          have h1332r16 := h1331r16.alloc (.cells #[.int .i64 0, .int .i64 0, .int .i64 0, .int .i64 0] 51)
          refine wp_alloc_of 51 rfl _ (zero_rect _) ?_
          refine hK.out _ _ ?_ (fun hHeld => ?_)
          · exact HP34.out _ (h1332r16.tl)
          clear hK K
          try simp only [Act.put, z1, z2, z3]
          refine wpAnyH_ready (rs := [10]) (by kernel_rfl) (by simp) (AllReadyH.cons (o := o3) rfl (fun K hK => ?_) AllReadyH.nil)
          have h1333r16 := h1332r16.rowset (ds := #[.int .i64 m0, .int .i64 m1, .int .i64 m2, .int .i64 m3]) hle9r16 hne9r16
          refine wp_store_of 51 _ _ rfl (store_row 51 (cs := #[.int .i64 0, .int .i64 0, .int .i64 0, .int .i64 0]) (ds := #[.int .i64 m0, .int .i64 m1, .int .i64 m2, .int .i64 m3]) (by kernel_rfl) rfl (by simp [Value.oneCell']) h1332r16.hd) ?_
          refine hK.out _ _ ?_ (fun hHeld => ?_)
          · exact HP34.out _ (h1333r16.tl)
          clear hK K
          try simp only [Act.put]
          refine wpAnyH_take (i := 11) (oi := o6) (v := ?_) rfl (by kernel_rfl) (by kernel_rfl) (by kernel_rfl) (fun _ _ _ h => h) (Or.inl ⟨by kernel_rfl, ?_⟩) (by assumption) ?_
          rotate_left 1
          focus (intro w hSw; (try dsimp only at hSw); go_simp; (try with_reducible rfl))
          try simp only [Act.put, z1, z2, z3]
          refine wpAnyH_done (by kernel_rfl) ?_ _
          have h9 := h1333r16
          go_wp2_with fail
          go_meet
          case rel => exact ⟨_, rfl, rfl, h9⟩
        · have hne9r16 := h1330.ne
          have hle9r16 := h1330.below.size
          have hlt9r16 := fun (b : Nat) (o : Obj) (hm : (b, o) ∈ _) => h1330.lt hm
          have h1334r16 := h1330.alloc (.cells #[.int .i64 0, .int .i64 0, .int .i64 0, .int .i64 0] 51)
          refine wp_alloc_of 51 rfl _ (zero_rect _) ?_
          refine hK.out _ _ ?_ (fun hHeld => ?_)
          · exact HP34.out _ (h1334r16.tl)
          clear hK K
          try simp only [Act.put, z1, z2, z3]
          refine wpAnyH_ready (rs := [5]) (by kernel_rfl) (by simp) (AllReadyH.cons (o := o13) rfl (fun K hK => ?_) AllReadyH.nil)
          (go_simp; (go_at_call 32; (refine (St.call h1334r16 (HB.out _)).mono ?_); rintro e V5r16 ⟨rfl, h1335r16⟩))
          refine hK.out _ _ ?_ (fun hHeld => ?_)
          · exact HP34.out _ (h1335r16.tl)
          clear hK K
          try simp only [Act.put, z1, z2, z3]
          refine wpAnyH_take (i := 6) (oi := o20) (v := ?_) rfl (by kernel_rfl) (by kernel_rfl) (by kernel_rfl) (fun _ _ _ h => h) (Or.inl ⟨by kernel_rfl, ?_⟩) (by assumption) ?_
          rotate_left 1
          focus (intro w hSw; (try dsimp only at hSw); go_simp; (try with_reducible rfl))
          try simp only [Act.put, z1, z2, z3]
          refine wpAnyH_take (i := 7) (oi := o23) (v := ?_) rfl (by kernel_rfl) (by kernel_rfl) (by kernel_rfl) (fun _ _ _ h => h) (Or.inl ⟨by kernel_rfl, ?_⟩) (by assumption) ?_
          rotate_left 1
          focus (intro w hSw; (try dsimp only at hSw); go_simp; (try with_reducible rfl))
          try simp only [Act.put, z1, z2, z3]
          refine wpAnyH_take (i := 8) (oi := o17) (v := ?_) rfl (by kernel_rfl) (by kernel_rfl) (by kernel_rfl) (fun _ _ _ h => h) (Or.inl ⟨by kernel_rfl, ?_⟩) (by assumption) ?_
          rotate_left 1
          focus (intro w hSw; (try dsimp only at hSw); go_simp; (try with_reducible rfl))
          try simp only [Act.put, z1, z2, z3]
          refine wpAnyH_ready (rs := [10]) (by kernel_rfl) (by simp) (AllReadyH.cons (o := o3) rfl (fun K hK => ?_) AllReadyH.nil)
          have h1336r16 := h1335r16.rowset (ds := #[.int .i64 m0, .int .i64 m1, .int .i64 m2, .int .i64 m3]) hle9r16 hne9r16
          refine wp_store_of 51 _ _ rfl (store_row 51 (cs := #[.int .i64 0, .int .i64 0, .int .i64 0, .int .i64 0]) (ds := #[.int .i64 m0, .int .i64 m1, .int .i64 m2, .int .i64 m3]) (by kernel_rfl) rfl (by simp [Value.oneCell']) h1335r16.hd) ?_
          refine hK.out _ _ ?_ (fun hHeld => ?_)
          · exact HP34.out _ (h1336r16.tl)
          clear hK K
          try simp only [Act.put]
          refine wpAnyH_take (i := 11) (oi := o6) (v := ?_) rfl (by kernel_rfl) (by kernel_rfl) (by kernel_rfl) (fun _ _ _ h => h) (Or.inl ⟨by kernel_rfl, ?_⟩) (by assumption) ?_
          rotate_left 1
          focus (intro w hSw; (try dsimp only at hSw); go_simp; (try with_reducible rfl))
          try simp only [Act.put, z1, z2, z3]
          refine wpAnyH_done (by kernel_rfl) ?_ _
          have h9 := h1336r16
          go_wp2_with fail
          go_meet
          case rel => exact ⟨_, rfl, rfl, h9⟩
      obtain ⟨e3, rfl, rfl, HQ⟩ := hcut
      have h134 := HQ.out
      clear HQ HP34 h133
      go_upto_region 17 with fail
      have HP35 : Hid (∀ V9, St w [(e3, ro m0 m1 m2 m3), (e2, ro n0 n1 n2 n3), (e1, pob X Y), (c31, ao s0 s1 s2 s3 s4 s5 s6), (c8, OP), (c7, OR), (c6, OA)] V9 → St w [(e3, ro m0 m1 m2 m3), (e2, ro n0 n1 n2 n3), (e1, pob X Y), (c31, ao s0 s1 s2 s3 s4 s5 s6), (c8, OP), (c7, OR), (c6, OA)] V9 ∧ AB V9 c31 s0 s1 s2 s3 s4 s5 s6 ∧ (V9.cell? ⟨c8, 0, none⟩ = some (.int .i64 p7) ∧ V9.cell? ⟨c8, 1, none⟩ = some (.int .i64 p8))) := fun V hV => ⟨hV, St.aff hV (by simp), HCP0.out V (hV.row (b := c8) (o := OP) (by simp))⟩
      go_cut [22] (fun v8 wx => ∃ b9, v8 = .pointer (some ⟨b9, 0, none⟩) ∧ Hid (St w ((b9, (.cells #[.int .i64 X, .int .i64 Y, .int .i64 E] 63 : Obj)) :: [(e3, ro m0 m1 m2 m3), (e2, ro n0 n1 n2 n3), (e1, pob X Y), (c31, ao s0 s1 s2 s3 s4 s5 s6), (c8, OP), (c7, OR), (c6, OA)]) wx))
      case first => as_aux_lemma =>
        refine wp_region_held_drew (S := fun V9 => St w [(e3, ro m0 m1 m2 m3), (e2, ro n0 n1 n2 n3), (e1, pob X Y), (c31, ao s0 s1 s2 s3 s4 s5 s6), (c8, OP), (c7, OR), (c6, OA)] V9 ∧ AB V9 c31 s0 s1 s2 s3 s4 s5 s6 ∧ (V9.cell? ⟨c8, 0, none⟩ = some (.int .i64 p7) ∧ V9.cell? ⟨c8, 1, none⟩ = some (.int .i64 p8))) (by kernel_rfl) ?_ (fun hHeld => ?_)
        · exact HP35.out _ (h134.drew)
        have h1340 := h134.drew
        refine wpAnyH_take (i := 0) (oi := o58) (v := ?_) rfl (by kernel_rfl) (by kernel_rfl) (by kernel_rfl) (fun _ _ _ h => h) (Or.inl ⟨by kernel_rfl, ?_⟩) (by assumption) ?_
        rotate_left 1
        focus (intro w hSw; (try dsimp only at hSw); go_simp; (try with_reducible rfl))
        try simp only [Act.put, z1, z2, z3]
        refine wpAnyH_take (i := 1) (oi := o65) (v := ?_) rfl (by kernel_rfl) (by kernel_rfl) (by kernel_rfl) (fun _ _ _ h => h) (Or.inl ⟨by kernel_rfl, ?_⟩) (by assumption) ?_
        rotate_left 1
        focus (intro w hSw; (try dsimp only at hSw); go_simp; (try with_reducible rfl))
        try simp only [Act.put, z1, z2, z3]
        refine wpAnyH_take (i := 2) (oi := o33) (v := (.int .i64 0)) rfl (by kernel_rfl) (by kernel_rfl) (by kernel_rfl) (fun _ _ _ h => h) (Or.inl ⟨by kernel_rfl, ?_⟩) (by assumption) ?_
        focus (intro w hSw; (try dsimp only at hSw); go_simp; try (first | rfl | decide))
        try simp only [Act.put, z1, z2, z3]
        refine wpAnyH_take (i := 3) (oi := o41) (v := ?_) rfl (by kernel_rfl) (by kernel_rfl) (by kernel_rfl) (fun _ _ _ h => h) (Or.inl ⟨by kernel_rfl, ?_⟩) (by assumption) ?_
        rotate_left 1
        focus (intro w hSw; (try dsimp only at hSw); go_simp; (try with_reducible rfl))
        try simp only [Act.put, z1, z2, z3]
        refine wpAnyH_take (i := 4) (oi := o50) (v := ?_) rfl (by kernel_rfl) (by kernel_rfl) (by kernel_rfl) (fun _ _ _ h => h) (Or.inl ⟨by kernel_rfl, ?_⟩) (by assumption) ?_
        rotate_left 1
        focus (intro w hSw; (try dsimp only at hSw); go_simp; (try with_reducible rfl))
        try simp only [Act.put, z1, z2, z3]
        refine wpAnyH_take (i := 5) (oi := o52) (v := ?_) rfl (by kernel_rfl) (by kernel_rfl) (by kernel_rfl) (fun _ _ _ h => h) (Or.inl ⟨by kernel_rfl, ?_⟩) (by assumption) ?_
        rotate_left 1
        focus (intro w hSw; (try dsimp only at hSw); go_simp; (try with_reducible rfl))
        try simp only [Act.put, z1, z2, z3]
        refine wpAnyH_take (i := 6) (oi := o59) (v := ?_) rfl (by kernel_rfl) (by kernel_rfl) (by kernel_rfl) (fun _ _ _ h => h) (Or.inl ⟨by kernel_rfl, ?_⟩) (by assumption) ?_
        rotate_left 1
        focus (intro w hSw; (try dsimp only at hSw); go_simp; (try with_reducible rfl))
        try simp only [Act.put, z1, z2, z3]
        refine wpAnyH_take (i := 7) (oi := o27) (v := (.int .i64 0)) rfl (by kernel_rfl) (by kernel_rfl) (by kernel_rfl) (fun _ _ _ h => h) (Or.inl ⟨by kernel_rfl, ?_⟩) (by assumption) ?_
        focus (intro w hSw; (try dsimp only at hSw); go_simp; try (first | rfl | decide))
        try simp only [Act.put, z1, z2, z3]
        refine wpAnyH_take (i := 8) (oi := o37) (v := ?_) rfl (by kernel_rfl) (by kernel_rfl) (by kernel_rfl) (fun _ _ _ h => h) (Or.inl ⟨by kernel_rfl, ?_⟩) (by assumption) ?_
        rotate_left 1
        focus (intro w hSw; (try dsimp only at hSw); go_simp; (try with_reducible rfl))
        try simp only [Act.put, z1, z2, z3]
        refine wpAnyH_take (i := 9) (oi := o49) (v := ?_) rfl (by kernel_rfl) (by kernel_rfl) (by kernel_rfl) (fun _ _ _ h => h) (Or.inl ⟨by kernel_rfl, ?_⟩) (by assumption) ?_
        rotate_left 1
        focus (intro w hSw; (try dsimp only at hSw); go_simp; (try with_reducible rfl))
        try simp only [Act.put, z1, z2, z3]
        refine wpAnyH_take (i := 10) (oi := o51) (v := ?_) rfl (by kernel_rfl) (by kernel_rfl) (by kernel_rfl) (fun _ _ _ h => h) (Or.inl ⟨by kernel_rfl, ?_⟩) (by assumption) ?_
        rotate_left 1
        focus (intro w hSw; (try dsimp only at hSw); go_simp; (try with_reducible rfl))
        try simp only [Act.put, z1, z2, z3]
        refine wpAnyH_ready (rs := [11, 12]) (by kernel_rfl) (by simp) (AllReadyH.cons (o := o9) rfl (fun K hK => ?_) (AllReadyH.cons (o := o24) rfl (fun K hK => ?_) AllReadyH.nil))
        · (go_simp; (go_at_call 33; (refine (St.call h1340 (HRS.out _)).mono ?_); rintro e V1r17 ⟨rfl, h1341r17⟩))
          refine hK.out _ _ ?_ (fun hHeld => ?_)
          · exact HP35.out _ (h1341r17)
          clear hK K
          try simp only [Act.put, z1, z2, z3]
          refine wpAnyH_ready (rs := [12]) (by kernel_rfl) (by simp) (AllReadyH.cons (o := o24) rfl (fun K hK => ?_) AllReadyH.nil)
          have hne12r17 := h1341r17.ne
          have hle12r17 := h1341r17.below.size
          have hlt12r17 := fun (b : Nat) (o : Obj) (hm : (b, o) ∈ _) => h1341r17.lt hm
          have h1342r17 := h1341r17.alloc (.cells #[.int .i64 0, .int .i64 0, .int .i64 0] 63)
          refine wp_alloc_of 63 rfl _ (zero_pos _) ?_
          refine hK.out _ _ ?_ (fun hHeld => ?_)
          · exact HP35.out _ (h1342r17.tl)
          clear hK K
          try simp only [Act.put, z1, z2, z3]
          refine wpAnyH_ready (rs := [13]) (by kernel_rfl) (by simp) (AllReadyH.cons (o := o0) rfl (fun K hK => ?_) AllReadyH.nil)
          have h1343r17 := h1342r17.rowset (ds := #[.int .i64 X, .int .i64 Y, .int .i64 E]) hle12r17 hne12r17
          refine wp_store_of 63 _ _ rfl (store_row 63 (cs := #[.int .i64 0, .int .i64 0, .int .i64 0]) (ds := #[.int .i64 X, .int .i64 Y, .int .i64 E]) (by kernel_rfl) rfl (by simp [Value.oneCell']) h1342r17.hd) ?_
          refine hK.out _ _ ?_ (fun hHeld => ?_)
          · exact HP35.out _ (h1343r17.tl)
          clear hK K
          try simp only [Act.put]
          refine wpAnyH_done (by kernel_rfl) ?_ _
          have h9 := h1343r17
          go_wp2_with fail
          go_meet
          case rel => exact ⟨_, rfl, h9⟩
        · have hne12r17 := h1340.ne
          have hle12r17 := h1340.below.size
          have hlt12r17 := fun (b : Nat) (o : Obj) (hm : (b, o) ∈ _) => h1340.lt hm
          have h1344r17 := h1340.alloc (.cells #[.int .i64 0, .int .i64 0, .int .i64 0] 63)
          refine wp_alloc_of 63 rfl _ (zero_pos _) ?_
          refine hK.out _ _ ?_ (fun hHeld => ?_)
          · exact HP35.out _ (h1344r17.tl)
          clear hK K
          try simp only [Act.put, z1, z2, z3]
          refine wpAnyH_ready (rs := [11]) (by kernel_rfl) (by simp) (AllReadyH.cons (o := o9) rfl (fun K hK => ?_) AllReadyH.nil)
          (go_simp; (go_at_call 33; (refine (St.call h1344r17 (HRS.out _)).mono ?_); rintro e V5r17 ⟨rfl, h1345r17⟩))
          refine hK.out _ _ ?_ (fun hHeld => ?_)
          · exact HP35.out _ (h1345r17.tl)
          clear hK K
          try simp only [Act.put, z1, z2, z3]
          refine wpAnyH_ready (rs := [13]) (by kernel_rfl) (by simp) (AllReadyH.cons (o := o0) rfl (fun K hK => ?_) AllReadyH.nil)
          have h1346r17 := h1345r17.rowset (ds := #[.int .i64 X, .int .i64 Y, .int .i64 E]) hle12r17 hne12r17
          refine wp_store_of 63 _ _ rfl (store_row 63 (cs := #[.int .i64 0, .int .i64 0, .int .i64 0]) (ds := #[.int .i64 X, .int .i64 Y, .int .i64 E]) (by kernel_rfl) rfl (by simp [Value.oneCell']) h1345r17.hd) ?_
          refine hK.out _ _ ?_ (fun hHeld => ?_)
          · exact HP35.out _ (h1346r17.tl)
          clear hK K
          try simp only [Act.put]
          refine wpAnyH_done (by kernel_rfl) ?_ _
          have h9 := h1346r17
          go_wp2_with fail
          go_meet
          case rel => exact ⟨_, rfl, h9⟩
      obtain ⟨e4, rfl, HQ⟩ := hcut
      have h135 := HQ.out
      clear HQ HP35 h134
      go_upto_region 18 with fail
      have HP36 : Hid (∀ V9, St w [(e4, (.cells #[.int .i64 X, .int .i64 Y, .int .i64 E] 63 : Obj)), (e3, ro m0 m1 m2 m3), (e2, ro n0 n1 n2 n3), (e1, pob X Y), (c31, ao s0 s1 s2 s3 s4 s5 s6), (c8, OP), (c7, OR), (c6, OA)] V9 → St w [(e4, (.cells #[.int .i64 X, .int .i64 Y, .int .i64 E] 63 : Obj)), (e3, ro m0 m1 m2 m3), (e2, ro n0 n1 n2 n3), (e1, pob X Y), (c31, ao s0 s1 s2 s3 s4 s5 s6), (c8, OP), (c7, OR), (c6, OA)] V9 ∧ AB V9 c31 s0 s1 s2 s3 s4 s5 s6 ∧ (V9.cell? ⟨c7, 0, none⟩ = some (.int .i64 p9) ∧ V9.cell? ⟨c7, 1, none⟩ = some (.int .i64 p10) ∧ V9.cell? ⟨c7, 2, none⟩ = some (.int .i64 p11) ∧ V9.cell? ⟨c7, 3, none⟩ = some (.int .i64 p12))) := fun V hV => ⟨hV, St.aff hV (by simp), HCR0.out V (hV.row (b := c7) (o := OR) (by simp))⟩
      go_cut [23] (fun v8 wx => ∃ b9, v8 = .pointer (some ⟨b9, 0, none⟩) ∧ Hid (St w ((b9, (.cells #[.int .i64 n0, .int .i64 n1, .int .i64 n2, .int .i64 n3, .int .i64 n4] 66 : Obj)) :: [(e4, (.cells #[.int .i64 X, .int .i64 Y, .int .i64 E] 63 : Obj)), (e3, ro m0 m1 m2 m3), (e2, ro n0 n1 n2 n3), (e1, pob X Y), (c31, ao s0 s1 s2 s3 s4 s5 s6), (c8, OP), (c7, OR), (c6, OA)]) wx))
      case first => as_aux_lemma =>
        refine wp_region_held_drew (S := fun V9 => St w [(e4, (.cells #[.int .i64 X, .int .i64 Y, .int .i64 E] 63 : Obj)), (e3, ro m0 m1 m2 m3), (e2, ro n0 n1 n2 n3), (e1, pob X Y), (c31, ao s0 s1 s2 s3 s4 s5 s6), (c8, OP), (c7, OR), (c6, OA)] V9 ∧ AB V9 c31 s0 s1 s2 s3 s4 s5 s6 ∧ (V9.cell? ⟨c7, 0, none⟩ = some (.int .i64 p9) ∧ V9.cell? ⟨c7, 1, none⟩ = some (.int .i64 p10) ∧ V9.cell? ⟨c7, 2, none⟩ = some (.int .i64 p11) ∧ V9.cell? ⟨c7, 3, none⟩ = some (.int .i64 p12))) (by kernel_rfl) ?_ (fun hHeld => ?_)
        · exact HP36.out _ (h135.drew)
        have h1350 := h135.drew
        refine wpAnyH_take (i := 0) (oi := o53) (v := ?_) rfl (by kernel_rfl) (by kernel_rfl) (by kernel_rfl) (fun _ _ _ h => h) (Or.inl ⟨by kernel_rfl, ?_⟩) (by assumption) ?_
        rotate_left 1
        focus (intro w hSw; (try dsimp only at hSw); go_simp; (try with_reducible rfl))
        try simp only [Act.put, z1, z2, z3]
        refine wpAnyH_take (i := 1) (oi := o60) (v := ?_) rfl (by kernel_rfl) (by kernel_rfl) (by kernel_rfl) (fun _ _ _ h => h) (Or.inl ⟨by kernel_rfl, ?_⟩) (by assumption) ?_
        rotate_left 1
        focus (intro w hSw; (try dsimp only at hSw); go_simp; (try with_reducible rfl))
        try simp only [Act.put, z1, z2, z3]
        refine wpAnyH_take (i := 2) (oi := o28) (v := (.int .i64 0)) rfl (by kernel_rfl) (by kernel_rfl) (by kernel_rfl) (fun _ _ _ h => h) (Or.inl ⟨by kernel_rfl, ?_⟩) (by assumption) ?_
        focus (intro w hSw; (try dsimp only at hSw); go_simp; try (first | rfl | decide))
        try simp only [Act.put, z1, z2, z3]
        refine wpAnyH_take (i := 3) (oi := o38) (v := ?_) rfl (by kernel_rfl) (by kernel_rfl) (by kernel_rfl) (fun _ _ _ h => h) (Or.inl ⟨by kernel_rfl, ?_⟩) (by assumption) ?_
        rotate_left 1
        focus (intro w hSw; (try dsimp only at hSw); go_simp; (try with_reducible rfl))
        try simp only [Act.put, z1, z2, z3]
        refine wpAnyH_take (i := 4) (oi := o45) (v := ?_) rfl (by kernel_rfl) (by kernel_rfl) (by kernel_rfl) (fun _ _ _ h => h) (Or.inl ⟨by kernel_rfl, ?_⟩) (by assumption) ?_
        rotate_left 1
        focus (intro w hSw; (try dsimp only at hSw); go_simp; (try with_reducible rfl))
        try simp only [Act.put, z1, z2, z3]
        refine wpAnyH_ready (rs := [5, 6]) (by kernel_rfl) (by simp) (AllReadyH.cons (o := o12) rfl (fun K hK => ?_) (AllReadyH.cons (o := o25) rfl (fun K hK => ?_) AllReadyH.nil))
        · (go_simp; (go_at_call 34; (refine (St.call h1350 (HRN.out _)).mono ?_); rintro e V1r18 ⟨rfl, h1351r18⟩))
          refine hK.out _ _ ?_ (fun hHeld => ?_)
          · exact HP36.out _ (h1351r18)
          clear hK K
          try simp only [Act.put, z1, z2, z3]
          refine wpAnyH_ready (rs := [6]) (by kernel_rfl) (by simp) (AllReadyH.cons (o := o25) rfl (fun K hK => ?_) AllReadyH.nil)
          have hne6r18 := h1351r18.ne
          have hle6r18 := h1351r18.below.size
          have hlt6r18 := fun (b : Nat) (o : Obj) (hm : (b, o) ∈ _) => h1351r18.lt hm
          have h1352r18 := h1351r18.alloc (.cells #[.int .i64 0, .int .i64 0, .int .i64 0, .int .i64 0, .int .i64 0] 66)
          refine wp_alloc_of 66 rfl _ (zero_box _) ?_
          refine hK.out _ _ ?_ (fun hHeld => ?_)
          · exact HP36.out _ (h1352r18.tl)
          clear hK K
          try simp only [Act.put, z1, z2, z3]
          refine wpAnyH_ready (rs := [7]) (by kernel_rfl) (by simp) (AllReadyH.cons (o := o7) rfl (fun K hK => ?_) AllReadyH.nil)
          have h1353r18 := h1352r18.rowset (ds := #[.int .i64 n0, .int .i64 n1, .int .i64 n2, .int .i64 n3, .int .i64 n4]) hle6r18 hne6r18
          refine wp_store_of 66 _ _ rfl (store_row 66 (cs := #[.int .i64 0, .int .i64 0, .int .i64 0, .int .i64 0, .int .i64 0]) (ds := #[.int .i64 n0, .int .i64 n1, .int .i64 n2, .int .i64 n3, .int .i64 n4]) (by kernel_rfl) rfl (by simp [Value.oneCell']) h1352r18.hd) ?_
          refine hK.out _ _ ?_ (fun hHeld => ?_)
          · exact HP36.out _ (h1353r18.tl)
          clear hK K
          try simp only [Act.put]
          refine wpAnyH_done (by kernel_rfl) ?_ _
          have h9 := h1353r18
          go_wp2_with fail
          go_meet
          case rel => exact ⟨_, rfl, h9⟩
        · have hne6r18 := h1350.ne
          have hle6r18 := h1350.below.size
          have hlt6r18 := fun (b : Nat) (o : Obj) (hm : (b, o) ∈ _) => h1350.lt hm
          have h1354r18 := h1350.alloc (.cells #[.int .i64 0, .int .i64 0, .int .i64 0, .int .i64 0, .int .i64 0] 66)
          refine wp_alloc_of 66 rfl _ (zero_box _) ?_
          refine hK.out _ _ ?_ (fun hHeld => ?_)
          · exact HP36.out _ (h1354r18.tl)
          clear hK K
          try simp only [Act.put, z1, z2, z3]
          refine wpAnyH_ready (rs := [5]) (by kernel_rfl) (by simp) (AllReadyH.cons (o := o12) rfl (fun K hK => ?_) AllReadyH.nil)
          (go_simp; (go_at_call 34; (refine (St.call h1354r18 (HRN.out _)).mono ?_); rintro e V5r18 ⟨rfl, h1355r18⟩))
          refine hK.out _ _ ?_ (fun hHeld => ?_)
          · exact HP36.out _ (h1355r18.tl)
          clear hK K
          try simp only [Act.put, z1, z2, z3]
          refine wpAnyH_ready (rs := [7]) (by kernel_rfl) (by simp) (AllReadyH.cons (o := o7) rfl (fun K hK => ?_) AllReadyH.nil)
          have h1356r18 := h1355r18.rowset (ds := #[.int .i64 n0, .int .i64 n1, .int .i64 n2, .int .i64 n3, .int .i64 n4]) hle6r18 hne6r18
          refine wp_store_of 66 _ _ rfl (store_row 66 (cs := #[.int .i64 0, .int .i64 0, .int .i64 0, .int .i64 0, .int .i64 0]) (ds := #[.int .i64 n0, .int .i64 n1, .int .i64 n2, .int .i64 n3, .int .i64 n4]) (by kernel_rfl) rfl (by simp [Value.oneCell']) h1355r18.hd) ?_
          refine hK.out _ _ ?_ (fun hHeld => ?_)
          · exact HP36.out _ (h1356r18.tl)
          clear hK K
          try simp only [Act.put]
          refine wpAnyH_done (by kernel_rfl) ?_ _
          have h9 := h1356r18
          go_wp2_with fail
          go_meet
          case rel => exact ⟨_, rfl, h9⟩
      obtain ⟨e5, rfl, HQ⟩ := hcut
      have h136 := HQ.out
      clear HQ HP36 h135
      go_upto_region 19 with fail
      have HP37 : Hid (∀ V9, St w [(e5, (.cells #[.int .i64 n0, .int .i64 n1, .int .i64 n2, .int .i64 n3, .int .i64 n4] 66 : Obj)), (e4, (.cells #[.int .i64 X, .int .i64 Y, .int .i64 E] 63 : Obj)), (e3, ro m0 m1 m2 m3), (e2, ro n0 n1 n2 n3), (e1, pob X Y), (c31, ao s0 s1 s2 s3 s4 s5 s6), (c8, OP), (c7, OR), (c6, OA)] V9 → St w [(e5, (.cells #[.int .i64 n0, .int .i64 n1, .int .i64 n2, .int .i64 n3, .int .i64 n4] 66 : Obj)), (e4, (.cells #[.int .i64 X, .int .i64 Y, .int .i64 E] 63 : Obj)), (e3, ro m0 m1 m2 m3), (e2, ro n0 n1 n2 n3), (e1, pob X Y), (c31, ao s0 s1 s2 s3 s4 s5 s6), (c8, OP), (c7, OR), (c6, OA)] V9 ∧ AB V9 c31 s0 s1 s2 s3 s4 s5 s6 ∧ (V9.cell? ⟨c7, 0, none⟩ = some (.int .i64 p9) ∧ V9.cell? ⟨c7, 1, none⟩ = some (.int .i64 p10) ∧ V9.cell? ⟨c7, 2, none⟩ = some (.int .i64 p11) ∧ V9.cell? ⟨c7, 3, none⟩ = some (.int .i64 p12))) := fun V hV => ⟨hV, St.aff hV (by simp), HCR0.out V (hV.row (b := c7) (o := OR) (by simp))⟩
      go_cut [24] (fun v8 wx => ∃ b9, v8 = .pointer (some ⟨b9, 0, none⟩) ∧ Hid (St w ((b9, (.cells #[.int .i64 m0, .int .i64 m1, .int .i64 m2, .int .i64 m3, .int .i64 m4] 66 : Obj)) :: [(e5, (.cells #[.int .i64 n0, .int .i64 n1, .int .i64 n2, .int .i64 n3, .int .i64 n4] 66 : Obj)), (e4, (.cells #[.int .i64 X, .int .i64 Y, .int .i64 E] 63 : Obj)), (e3, ro m0 m1 m2 m3), (e2, ro n0 n1 n2 n3), (e1, pob X Y), (c31, ao s0 s1 s2 s3 s4 s5 s6), (c8, OP), (c7, OR), (c6, OA)]) wx))
      case first => as_aux_lemma =>
        refine wp_region_held_drew (S := fun V9 => St w [(e5, (.cells #[.int .i64 n0, .int .i64 n1, .int .i64 n2, .int .i64 n3, .int .i64 n4] 66 : Obj)), (e4, (.cells #[.int .i64 X, .int .i64 Y, .int .i64 E] 63 : Obj)), (e3, ro m0 m1 m2 m3), (e2, ro n0 n1 n2 n3), (e1, pob X Y), (c31, ao s0 s1 s2 s3 s4 s5 s6), (c8, OP), (c7, OR), (c6, OA)] V9 ∧ AB V9 c31 s0 s1 s2 s3 s4 s5 s6 ∧ (V9.cell? ⟨c7, 0, none⟩ = some (.int .i64 p9) ∧ V9.cell? ⟨c7, 1, none⟩ = some (.int .i64 p10) ∧ V9.cell? ⟨c7, 2, none⟩ = some (.int .i64 p11) ∧ V9.cell? ⟨c7, 3, none⟩ = some (.int .i64 p12))) (by kernel_rfl) ?_ (fun hHeld => ?_)
        · exact HP37.out _ (h136.drew)
        have h1360 := h136.drew
        refine wpAnyH_take (i := 0) (oi := o54) (v := ?_) rfl (by kernel_rfl) (by kernel_rfl) (by kernel_rfl) (fun _ _ _ h => h) (Or.inl ⟨by kernel_rfl, ?_⟩) (by assumption) ?_
        rotate_left 1
        focus (intro w hSw; (try dsimp only at hSw); go_simp; (try with_reducible rfl))
        try simp only [Act.put, z1, z2, z3]
        refine wpAnyH_take (i := 1) (oi := o61) (v := ?_) rfl (by kernel_rfl) (by kernel_rfl) (by kernel_rfl) (fun _ _ _ h => h) (Or.inl ⟨by kernel_rfl, ?_⟩) (by assumption) ?_
        rotate_left 1
        focus (intro w hSw; (try dsimp only at hSw); go_simp; (try with_reducible rfl))
        try simp only [Act.put, z1, z2, z3]
        refine wpAnyH_take (i := 2) (oi := o29) (v := (.int .i64 0)) rfl (by kernel_rfl) (by kernel_rfl) (by kernel_rfl) (fun _ _ _ h => h) (Or.inl ⟨by kernel_rfl, ?_⟩) (by assumption) ?_
        focus (intro w hSw; (try dsimp only at hSw); go_simp; try (first | rfl | decide))
        try simp only [Act.put, z1, z2, z3]
        refine wpAnyH_take (i := 3) (oi := o39) (v := ?_) rfl (by kernel_rfl) (by kernel_rfl) (by kernel_rfl) (fun _ _ _ h => h) (Or.inl ⟨by kernel_rfl, ?_⟩) (by assumption) ?_
        rotate_left 1
        focus (intro w hSw; (try dsimp only at hSw); go_simp; (try with_reducible rfl))
        try simp only [Act.put, z1, z2, z3]
        refine wpAnyH_take (i := 4) (oi := o46) (v := ?_) rfl (by kernel_rfl) (by kernel_rfl) (by kernel_rfl) (fun _ _ _ h => h) (Or.inl ⟨by kernel_rfl, ?_⟩) (by assumption) ?_
        rotate_left 1
        focus (intro w hSw; (try dsimp only at hSw); go_simp; (try with_reducible rfl))
        try simp only [Act.put, z1, z2, z3]
        refine wpAnyH_ready (rs := [5, 6]) (by kernel_rfl) (by simp) (AllReadyH.cons (o := o10) rfl (fun K hK => ?_) (AllReadyH.cons (o := o26) rfl (fun K hK => ?_) AllReadyH.nil))
        · (go_simp; (go_at_call 35; (refine (St.call h1360 (HRB.out _)).mono ?_); rintro e V1r19 ⟨rfl, h1361r19⟩))
          refine hK.out _ _ ?_ (fun hHeld => ?_)
          · exact HP37.out _ (h1361r19)
          clear hK K
          try simp only [Act.put, z1, z2, z3]
          refine wpAnyH_ready (rs := [6]) (by kernel_rfl) (by simp) (AllReadyH.cons (o := o26) rfl (fun K hK => ?_) AllReadyH.nil)
          have hne6r19 := h1361r19.ne
          have hle6r19 := h1361r19.below.size
          have hlt6r19 := fun (b : Nat) (o : Obj) (hm : (b, o) ∈ _) => h1361r19.lt hm
          have h1362r19 := h1361r19.alloc (.cells #[.int .i64 0, .int .i64 0, .int .i64 0, .int .i64 0, .int .i64 0] 66)
          refine wp_alloc_of 66 rfl _ (zero_box _) ?_
          refine hK.out _ _ ?_ (fun hHeld => ?_)
          · exact HP37.out _ (h1362r19.tl)
          clear hK K
          try simp only [Act.put, z1, z2, z3]
          refine wpAnyH_ready (rs := [7]) (by kernel_rfl) (by simp) (AllReadyH.cons (o := o8) rfl (fun K hK => ?_) AllReadyH.nil)
          have h1363r19 := h1362r19.rowset (ds := #[.int .i64 m0, .int .i64 m1, .int .i64 m2, .int .i64 m3, .int .i64 m4]) hle6r19 hne6r19
          refine wp_store_of 66 _ _ rfl (store_row 66 (cs := #[.int .i64 0, .int .i64 0, .int .i64 0, .int .i64 0, .int .i64 0]) (ds := #[.int .i64 m0, .int .i64 m1, .int .i64 m2, .int .i64 m3, .int .i64 m4]) (by kernel_rfl) rfl (by simp [Value.oneCell']) h1362r19.hd) ?_
          refine hK.out _ _ ?_ (fun hHeld => ?_)
          · exact HP37.out _ (h1363r19.tl)
          clear hK K
          try simp only [Act.put]
          refine wpAnyH_done (by kernel_rfl) ?_ _
          have h9 := h1363r19
          go_wp2_with fail
          go_meet
          case rel => exact ⟨_, rfl, h9⟩
        · have hne6r19 := h1360.ne
          have hle6r19 := h1360.below.size
          have hlt6r19 := fun (b : Nat) (o : Obj) (hm : (b, o) ∈ _) => h1360.lt hm
          have h1364r19 := h1360.alloc (.cells #[.int .i64 0, .int .i64 0, .int .i64 0, .int .i64 0, .int .i64 0] 66)
          refine wp_alloc_of 66 rfl _ (zero_box _) ?_
          refine hK.out _ _ ?_ (fun hHeld => ?_)
          · exact HP37.out _ (h1364r19.tl)
          clear hK K
          try simp only [Act.put, z1, z2, z3]
          refine wpAnyH_ready (rs := [5]) (by kernel_rfl) (by simp) (AllReadyH.cons (o := o10) rfl (fun K hK => ?_) AllReadyH.nil)
          (go_simp; (go_at_call 35; (refine (St.call h1364r19 (HRB.out _)).mono ?_); rintro e V5r19 ⟨rfl, h1365r19⟩))
          refine hK.out _ _ ?_ (fun hHeld => ?_)
          · exact HP37.out _ (h1365r19.tl)
          clear hK K
          try simp only [Act.put, z1, z2, z3]
          refine wpAnyH_ready (rs := [7]) (by kernel_rfl) (by simp) (AllReadyH.cons (o := o8) rfl (fun K hK => ?_) AllReadyH.nil)
          have h1366r19 := h1365r19.rowset (ds := #[.int .i64 m0, .int .i64 m1, .int .i64 m2, .int .i64 m3, .int .i64 m4]) hle6r19 hne6r19
          refine wp_store_of 66 _ _ rfl (store_row 66 (cs := #[.int .i64 0, .int .i64 0, .int .i64 0, .int .i64 0, .int .i64 0]) (ds := #[.int .i64 m0, .int .i64 m1, .int .i64 m2, .int .i64 m3, .int .i64 m4]) (by kernel_rfl) rfl (by simp [Value.oneCell']) h1365r19.hd) ?_
          refine hK.out _ _ ?_ (fun hHeld => ?_)
          · exact HP37.out _ (h1366r19.tl)
          clear hK K
          try simp only [Act.put]
          refine wpAnyH_done (by kernel_rfl) ?_ _
          have h9 := h1366r19
          go_wp2_with fail
          go_meet
          case rel => exact ⟨_, rfl, h9⟩
      obtain ⟨e6, rfl, HQ⟩ := hcut
      have h137 := HQ.out
      clear HQ HP37 h136
      go_upto_region 20 with fail
      obtain ⟨_, _⟩ := St.pt h137 (b := e1) (x := X) (y := Y) (by simp)
      obtain ⟨_, _, _, _⟩ := St.rect h137 (b := e2) (x0 := n0) (x1 := n1) (x2 := n2) (x3 := n3) (by simp)
      obtain ⟨_, _, _, _⟩ := St.rect h137 (b := e3) (x0 := m0) (x1 := m1) (x2 := m2) (x3 := m3) (by simp)
      have ye40 := St.cell h137 (b := e4) (cs := #[.int .i64 X, .int .i64 Y, .int .i64 E]) (t := 63) (by simp) 0
      have ye41 := St.cell h137 (b := e4) (cs := #[.int .i64 X, .int .i64 Y, .int .i64 E]) (t := 63) (by simp) 1
      have ye42 := St.cell h137 (b := e4) (cs := #[.int .i64 X, .int .i64 Y, .int .i64 E]) (t := 63) (by simp) 2
      simp only [z4, z5, z6] at ye40 ye41 ye42
      have ye50 := St.cell h137 (b := e5) (cs := #[.int .i64 n0, .int .i64 n1, .int .i64 n2, .int .i64 n3, .int .i64 n4]) (t := 66) (by simp) 0
      have ye51 := St.cell h137 (b := e5) (cs := #[.int .i64 n0, .int .i64 n1, .int .i64 n2, .int .i64 n3, .int .i64 n4]) (t := 66) (by simp) 1
      have ye52 := St.cell h137 (b := e5) (cs := #[.int .i64 n0, .int .i64 n1, .int .i64 n2, .int .i64 n3, .int .i64 n4]) (t := 66) (by simp) 2
      have ye53 := St.cell h137 (b := e5) (cs := #[.int .i64 n0, .int .i64 n1, .int .i64 n2, .int .i64 n3, .int .i64 n4]) (t := 66) (by simp) 3
      have ye54 := St.cell h137 (b := e5) (cs := #[.int .i64 n0, .int .i64 n1, .int .i64 n2, .int .i64 n3, .int .i64 n4]) (t := 66) (by simp) 4
      simp only [z4, z5, z6] at ye50 ye51 ye52 ye53 ye54
      have ye60 := St.cell h137 (b := e6) (cs := #[.int .i64 m0, .int .i64 m1, .int .i64 m2, .int .i64 m3, .int .i64 m4]) (t := 66) (by simp) 0
      have ye61 := St.cell h137 (b := e6) (cs := #[.int .i64 m0, .int .i64 m1, .int .i64 m2, .int .i64 m3, .int .i64 m4]) (t := 66) (by simp) 1
      have ye62 := St.cell h137 (b := e6) (cs := #[.int .i64 m0, .int .i64 m1, .int .i64 m2, .int .i64 m3, .int .i64 m4]) (t := 66) (by simp) 2
      have ye63 := St.cell h137 (b := e6) (cs := #[.int .i64 m0, .int .i64 m1, .int .i64 m2, .int .i64 m3, .int .i64 m4]) (t := 66) (by simp) 3
      have ye64 := St.cell h137 (b := e6) (cs := #[.int .i64 m0, .int .i64 m1, .int .i64 m2, .int .i64 m3, .int .i64 m4]) (t := 66) (by simp) 4
      simp only [z4, z5, z6] at ye60 ye61 ye62 ye63 ye64
      go_wp2_with fail
      exact ⟨⟨(.inr (.inr (.inl rfl))), h137.sub (by intro x hx; simp at hx ⊢; rcases hx with rfl | rfl | rfl <;> simp)⟩, by decide⟩
    · as_aux_lemma =>
      obtain ⟨X, Y, E, hsr⟩ : ∃ X Y E, srcT ⟨p0, p1, p2, p3, p4, p5, p6⟩ u v = ⟨X, Y, E⟩ := ⟨_, _, _, rfl⟩
      obtain ⟨n0, n1, n2, n3, n4, hnd⟩ : ∃ n0 n1 n2 n3 n4, needT ⟨p0, p1, p2, p3, p4, p5, p6⟩ k0 k1 k2 k3 = ⟨n0, n1, n2, n3, n4⟩ := ⟨_, _, _, _, _, rfl⟩
      obtain ⟨m0, m1, m2, m3, m4, hbn⟩ : ∃ m0 m1 m2 m3 m4, boundsT ⟨p0, p1, p2, p3, p4, p5, p6⟩ k0 k1 k2 k3 = ⟨m0, m1, m2, m3, m4⟩ := ⟨_, _, _, _, _, rfl⟩
      have HS : Hid (∀ W, Calls Try.prog 30 #[av p0 p1 p2 p3 p4 p5 p6, tv u v] W fun en w' => en = .returned (.tuple #[tv X Y, .int .i64 E]) ∧ Below W.heap.size W w') := fun W => by
        have := sourceT_any p0 p1 p2 p3 p4 p5 p6 u v W; rw [hsr] at this; exact this
      have HN : Hid (∀ W, Calls Try.prog 31 #[av p0 p1 p2 p3 p4 p5 p6, rv k0 k1 k2 k3] W fun en w' => en = .returned (.tuple #[rv n0 n1 n2 n3, .int .i64 n4]) ∧ Below W.heap.size W w') := fun W => by
        have := needT_any p0 p1 p2 p3 p4 p5 p6 k0 k1 k2 k3 W; rw [hnd] at this; exact this
      have HB : Hid (∀ W, Calls Try.prog 32 #[av p0 p1 p2 p3 p4 p5 p6, rv k0 k1 k2 k3] W fun en w' => en = .returned (.tuple #[rv m0 m1 m2 m3, .int .i64 m4]) ∧ Below W.heap.size W w') := fun W => by
        have := boundsT_any p0 p1 p2 p3 p4 p5 p6 k0 k1 k2 k3 W; rw [hbn] at this; exact this
      have HRS : Hid (∀ W, Calls Try.prog 33 #[av p0 p1 p2 p3 p4 p5 p6, .int .i64 u, .int .i64 v] W fun en w' => en = .returned (.agg #[.int .i64 X, .int .i64 Y, .int .i64 E]) ∧ Below W.heap.size W w') := fun W => by
        have := refSourceT_any p0 p1 p2 p3 p4 p5 p6 u v W; rw [hsr] at this; exact this
      have HRN : Hid (∀ W, Calls Try.prog 34 #[av p0 p1 p2 p3 p4 p5 p6, rv k0 k1 k2 k3] W fun en w' => en = .returned (.agg #[.int .i64 n0, .int .i64 n1, .int .i64 n2, .int .i64 n3, .int .i64 n4]) ∧ Below W.heap.size W w') := fun W => by
        have := refNeedT_any p0 p1 p2 p3 p4 p5 p6 k0 k1 k2 k3 W; rw [hnd] at this; exact this
      have HRB : Hid (∀ W, Calls Try.prog 35 #[av p0 p1 p2 p3 p4 p5 p6, rv k0 k1 k2 k3] W fun en w' => en = .returned (.agg #[.int .i64 m0, .int .i64 m1, .int .i64 m2, .int .i64 m3, .int .i64 m4]) ∧ Below W.heap.size W w') := fun W => by
        have := refBoundsT_any p0 p1 p2 p3 p4 p5 p6 k0 k1 k2 k3 W; rw [hbn] at this; exact this
      clear hsr hnd hbn
      obtain ⟨_, _, _, _, _, _, _⟩ := HCA0.out _ (St.row hS (b := c6) (o := OA) (by simp))
      go_upto_region 14 with fail
      have h31 := hS.alloc (ao p0 p1 p2 p3 p4 p5 p6)
      generalize wr.heap.size = c31 at h31 ⊢
      generalize wr.alloc (ao p0 p1 p2 p3 p4 p5 p6) = w31 at h31 ⊢
      have HP32 : Hid (∀ V9, St w [(c31, ao p0 p1 p2 p3 p4 p5 p6), (c8, OP), (c7, OR), (c6, OA)] V9 → St w [(c31, ao p0 p1 p2 p3 p4 p5 p6), (c8, OP), (c7, OR), (c6, OA)] V9 ∧ AB V9 c31 p0 p1 p2 p3 p4 p5 p6 ∧ (V9.cell? ⟨c8, 2, none⟩ = some (.int .i64 u) ∧ V9.cell? ⟨c8, 3, none⟩ = some (.int .i64 v))) := fun V hV => ⟨hV, St.aff hV (by simp), HCP1.out V (hV.row (b := c8) (o := OP) (by simp))⟩
      go_cut [16, 17] (fun v8 v9 wx => ∃ b9, v8 = .pointer (some ⟨b9, 0, none⟩) ∧ v9 = .int .i64 E ∧ Hid (St w ((b9, pob X Y) :: [(c31, ao p0 p1 p2 p3 p4 p5 p6), (c8, OP), (c7, OR), (c6, OA)]) wx))
      case first => as_aux_lemma =>
        refine wp_region_held_drew (S := fun V9 => St w [(c31, ao p0 p1 p2 p3 p4 p5 p6), (c8, OP), (c7, OR), (c6, OA)] V9 ∧ AB V9 c31 p0 p1 p2 p3 p4 p5 p6 ∧ (V9.cell? ⟨c8, 2, none⟩ = some (.int .i64 u) ∧ V9.cell? ⟨c8, 3, none⟩ = some (.int .i64 v))) (by kernel_rfl) ?_ (fun hHeld => ?_)
        · exact HP32.out _ (h31.drew)
        have h310 := h31.drew
        refine wpAnyH_take (i := 0) (oi := o55) (v := ?_) rfl (by kernel_rfl) (by kernel_rfl) (by kernel_rfl) (fun _ _ _ h => h) (Or.inl ⟨by kernel_rfl, ?_⟩) (by assumption) ?_
        rotate_left 1
        focus (intro w hSw; (try dsimp only at hSw); go_simp; (try with_reducible rfl))
        try simp only [Act.put, z1, z2, z3]
        refine wpAnyH_take (i := 1) (oi := o62) (v := ?_) rfl (by kernel_rfl) (by kernel_rfl) (by kernel_rfl) (fun _ _ _ h => h) (Or.inl ⟨by kernel_rfl, ?_⟩) (by assumption) ?_
        rotate_left 1
        focus (intro w hSw; (try dsimp only at hSw); go_simp; (try with_reducible rfl))
        try simp only [Act.put, z1, z2, z3]
        refine wpAnyH_take (i := 2) (oi := o30) (v := (.int .i64 1)) rfl (by kernel_rfl) (by kernel_rfl) (by kernel_rfl) (fun _ _ _ h => h) (Or.inl ⟨by kernel_rfl, ?_⟩) (by assumption) ?_
        focus (intro w hSw; (try dsimp only at hSw); go_simp; try (first | rfl | decide))
        try simp only [Act.put, z1, z2, z3]
        refine wpAnyH_take (i := 3) (oi := o40) (v := ?_) rfl (by kernel_rfl) (by kernel_rfl) (by kernel_rfl) (fun _ _ _ h => h) (Or.inl ⟨by kernel_rfl, ?_⟩) (by assumption) ?_
        rotate_left 1
        focus (intro w hSw; (try dsimp only at hSw); go_simp; (try with_reducible rfl))
        try simp only [Act.put, z1, z2, z3]
        refine wpAnyH_take (i := 4) (oi := o44) (v := ?_) rfl (by kernel_rfl) (by kernel_rfl) (by kernel_rfl) (fun _ _ _ h => h) (Or.inl ⟨by kernel_rfl, ?_⟩) (by assumption) ?_
        rotate_left 1
        focus (intro w hSw; (try dsimp only at hSw); go_simp; (try with_reducible rfl))
        try simp only [Act.put, z1, z2, z3]
        refine wpAnyH_ready (rs := [5, 9]) (by kernel_rfl) (by simp) (AllReadyH.cons (o := o11) rfl (fun K hK => ?_) (AllReadyH.cons (o := o34) rfl (fun K hK => ?_) AllReadyH.nil))
        · (go_simp; (go_at_call 30; (refine (St.call h310 (HS.out _)).mono ?_); rintro e V1r14 ⟨rfl, h311r14⟩))
          refine hK.out _ _ ?_ (fun hHeld => ?_)
          · exact HP32.out _ (h311r14)
          clear hK K
          try simp only [Act.put, z1, z2, z3]
          refine wpAnyH_take (i := 6) (oi := o18) (v := ?_) rfl (by kernel_rfl) (by kernel_rfl) (by kernel_rfl) (fun _ _ _ h => h) (Or.inl ⟨by kernel_rfl, ?_⟩) (by assumption) ?_
          rotate_left 1
          focus (intro w hSw; (try dsimp only at hSw); go_simp; (try with_reducible rfl))
          try simp only [Act.put, z1, z2, z3]
          refine wpAnyH_take (i := 7) (oi := o21) (v := ?_) rfl (by kernel_rfl) (by kernel_rfl) (by kernel_rfl) (fun _ _ _ h => h) (Or.inl ⟨by kernel_rfl, ?_⟩) (by assumption) ?_
          rotate_left 1
          focus (intro w hSw; (try dsimp only at hSw); go_simp; (try with_reducible rfl))
          try simp only [Act.put, z1, z2, z3]
          refine wpAnyH_take (i := 8) (oi := o15) (v := ?_) rfl (by kernel_rfl) (by kernel_rfl) (by kernel_rfl) (fun _ _ _ h => h) (Or.inl ⟨by kernel_rfl, ?_⟩) (by assumption) ?_
          rotate_left 1
          focus (intro w hSw; (try dsimp only at hSw); go_simp; (try with_reducible rfl))
          try simp only [Act.put, z1, z2, z3]
          refine wpAnyH_ready (rs := [9]) (by kernel_rfl) (by simp) (AllReadyH.cons (o := o34) rfl (fun K hK => ?_) AllReadyH.nil)
          have hne9r14 := h311r14.ne
          have hle9r14 := h311r14.below.size
          have hlt9r14 := fun (b : Nat) (o : Obj) (hm : (b, o) ∈ _) => h311r14.lt hm
          have h312r14 := h311r14.alloc (.cells #[.int .i64 0, .int .i64 0] 49)
          refine wp_alloc_of 49 rfl _ (zero_pt _) ?_
          refine hK.out _ _ ?_ (fun hHeld => ?_)
          · exact HP32.out _ (h312r14.tl)
          clear hK K
          try simp only [Act.put, z1, z2, z3]
          refine wpAnyH_ready (rs := [10]) (by kernel_rfl) (by simp) (AllReadyH.cons (o := o1) rfl (fun K hK => ?_) AllReadyH.nil)
          have h313r14 := h312r14.rowset (ds := #[.int .i64 X, .int .i64 Y]) hle9r14 hne9r14
          refine wp_store_of 49 _ _ rfl (store_row 49 (cs := #[.int .i64 0, .int .i64 0]) (ds := #[.int .i64 X, .int .i64 Y]) (by kernel_rfl) rfl (by simp [Value.oneCell']) h312r14.hd) ?_
          refine hK.out _ _ ?_ (fun hHeld => ?_)
          · exact HP32.out _ (h313r14.tl)
          clear hK K
          try simp only [Act.put]
          refine wpAnyH_take (i := 11) (oi := o4) (v := ?_) rfl (by kernel_rfl) (by kernel_rfl) (by kernel_rfl) (fun _ _ _ h => h) (Or.inl ⟨by kernel_rfl, ?_⟩) (by assumption) ?_
          rotate_left 1
          focus (intro w hSw; (try dsimp only at hSw); go_simp; (try with_reducible rfl))
          try simp only [Act.put, z1, z2, z3]
          refine wpAnyH_done (by kernel_rfl) ?_ _
          have h9 := h313r14
          go_wp2_with fail
          go_meet
          case rel => exact ⟨_, rfl, rfl, h9⟩
        · have hne9r14 := h310.ne
          have hle9r14 := h310.below.size
          have hlt9r14 := fun (b : Nat) (o : Obj) (hm : (b, o) ∈ _) => h310.lt hm
          have h314r14 := h310.alloc (.cells #[.int .i64 0, .int .i64 0] 49)
          refine wp_alloc_of 49 rfl _ (zero_pt _) ?_
          refine hK.out _ _ ?_ (fun hHeld => ?_)
          · exact HP32.out _ (h314r14.tl)
          clear hK K
          try simp only [Act.put, z1, z2, z3]
          refine wpAnyH_ready (rs := [5]) (by kernel_rfl) (by simp) (AllReadyH.cons (o := o11) rfl (fun K hK => ?_) AllReadyH.nil)
          (go_simp; (go_at_call 30; (refine (St.call h314r14 (HS.out _)).mono ?_); rintro e V5r14 ⟨rfl, h315r14⟩))
          refine hK.out _ _ ?_ (fun hHeld => ?_)
          · exact HP32.out _ (h315r14.tl)
          clear hK K
          try simp only [Act.put, z1, z2, z3]
          refine wpAnyH_take (i := 6) (oi := o18) (v := ?_) rfl (by kernel_rfl) (by kernel_rfl) (by kernel_rfl) (fun _ _ _ h => h) (Or.inl ⟨by kernel_rfl, ?_⟩) (by assumption) ?_
          rotate_left 1
          focus (intro w hSw; (try dsimp only at hSw); go_simp; (try with_reducible rfl))
          try simp only [Act.put, z1, z2, z3]
          refine wpAnyH_take (i := 7) (oi := o21) (v := ?_) rfl (by kernel_rfl) (by kernel_rfl) (by kernel_rfl) (fun _ _ _ h => h) (Or.inl ⟨by kernel_rfl, ?_⟩) (by assumption) ?_
          rotate_left 1
          focus (intro w hSw; (try dsimp only at hSw); go_simp; (try with_reducible rfl))
          try simp only [Act.put, z1, z2, z3]
          refine wpAnyH_take (i := 8) (oi := o15) (v := ?_) rfl (by kernel_rfl) (by kernel_rfl) (by kernel_rfl) (fun _ _ _ h => h) (Or.inl ⟨by kernel_rfl, ?_⟩) (by assumption) ?_
          rotate_left 1
          focus (intro w hSw; (try dsimp only at hSw); go_simp; (try with_reducible rfl))
          try simp only [Act.put, z1, z2, z3]
          refine wpAnyH_ready (rs := [10]) (by kernel_rfl) (by simp) (AllReadyH.cons (o := o1) rfl (fun K hK => ?_) AllReadyH.nil)
          have h316r14 := h315r14.rowset (ds := #[.int .i64 X, .int .i64 Y]) hle9r14 hne9r14
          refine wp_store_of 49 _ _ rfl (store_row 49 (cs := #[.int .i64 0, .int .i64 0]) (ds := #[.int .i64 X, .int .i64 Y]) (by kernel_rfl) rfl (by simp [Value.oneCell']) h315r14.hd) ?_
          refine hK.out _ _ ?_ (fun hHeld => ?_)
          · exact HP32.out _ (h316r14.tl)
          clear hK K
          try simp only [Act.put]
          refine wpAnyH_take (i := 11) (oi := o4) (v := ?_) rfl (by kernel_rfl) (by kernel_rfl) (by kernel_rfl) (fun _ _ _ h => h) (Or.inl ⟨by kernel_rfl, ?_⟩) (by assumption) ?_
          rotate_left 1
          focus (intro w hSw; (try dsimp only at hSw); go_simp; (try with_reducible rfl))
          try simp only [Act.put, z1, z2, z3]
          refine wpAnyH_done (by kernel_rfl) ?_ _
          have h9 := h316r14
          go_wp2_with fail
          go_meet
          case rel => exact ⟨_, rfl, rfl, h9⟩
      obtain ⟨e1, rfl, rfl, HQ⟩ := hcut
      have h132 := HQ.out
      clear HQ HP32 h31
      go_upto_region 15 with fail
      have HP33 : Hid (∀ V9, St w [(e1, pob X Y), (c31, ao p0 p1 p2 p3 p4 p5 p6), (c8, OP), (c7, OR), (c6, OA)] V9 → St w [(e1, pob X Y), (c31, ao p0 p1 p2 p3 p4 p5 p6), (c8, OP), (c7, OR), (c6, OA)] V9 ∧ AB V9 c31 p0 p1 p2 p3 p4 p5 p6 ∧ (V9.cell? ⟨c7, 4, none⟩ = some (.int .i64 k0) ∧ V9.cell? ⟨c7, 5, none⟩ = some (.int .i64 k1) ∧ V9.cell? ⟨c7, 6, none⟩ = some (.int .i64 k2) ∧ V9.cell? ⟨c7, 7, none⟩ = some (.int .i64 k3))) := fun V hV => ⟨hV, St.aff hV (by simp), HCR1.out V (hV.row (b := c7) (o := OR) (by simp))⟩
      go_cut [18, 19] (fun v8 v9 wx => ∃ b9, v8 = .pointer (some ⟨b9, 0, none⟩) ∧ v9 = .int .i64 n4 ∧ Hid (St w ((b9, ro n0 n1 n2 n3) :: [(e1, pob X Y), (c31, ao p0 p1 p2 p3 p4 p5 p6), (c8, OP), (c7, OR), (c6, OA)]) wx))
      case first => as_aux_lemma =>
        refine wp_region_held_drew (S := fun V9 => St w [(e1, pob X Y), (c31, ao p0 p1 p2 p3 p4 p5 p6), (c8, OP), (c7, OR), (c6, OA)] V9 ∧ AB V9 c31 p0 p1 p2 p3 p4 p5 p6 ∧ (V9.cell? ⟨c7, 4, none⟩ = some (.int .i64 k0) ∧ V9.cell? ⟨c7, 5, none⟩ = some (.int .i64 k1) ∧ V9.cell? ⟨c7, 6, none⟩ = some (.int .i64 k2) ∧ V9.cell? ⟨c7, 7, none⟩ = some (.int .i64 k3))) (by kernel_rfl) ?_ (fun hHeld => ?_)
        · exact HP33.out _ (h132.drew)
        have h1320 := h132.drew
        refine wpAnyH_take (i := 0) (oi := o56) (v := ?_) rfl (by kernel_rfl) (by kernel_rfl) (by kernel_rfl) (fun _ _ _ h => h) (Or.inl ⟨by kernel_rfl, ?_⟩) (by assumption) ?_
        rotate_left 1
        focus (intro w hSw; (try dsimp only at hSw); go_simp; (try with_reducible rfl))
        try simp only [Act.put, z1, z2, z3]
        refine wpAnyH_take (i := 1) (oi := o63) (v := ?_) rfl (by kernel_rfl) (by kernel_rfl) (by kernel_rfl) (fun _ _ _ h => h) (Or.inl ⟨by kernel_rfl, ?_⟩) (by assumption) ?_
        rotate_left 1
        focus (intro w hSw; (try dsimp only at hSw); go_simp; (try with_reducible rfl))
        try simp only [Act.put, z1, z2, z3]
        refine wpAnyH_take (i := 2) (oi := o31) (v := (.int .i64 1)) rfl (by kernel_rfl) (by kernel_rfl) (by kernel_rfl) (fun _ _ _ h => h) (Or.inl ⟨by kernel_rfl, ?_⟩) (by assumption) ?_
        focus (intro w hSw; (try dsimp only at hSw); go_simp; try (first | rfl | decide))
        try simp only [Act.put, z1, z2, z3]
        refine wpAnyH_take (i := 3) (oi := o42) (v := ?_) rfl (by kernel_rfl) (by kernel_rfl) (by kernel_rfl) (fun _ _ _ h => h) (Or.inl ⟨by kernel_rfl, ?_⟩) (by assumption) ?_
        rotate_left 1
        focus (intro w hSw; (try dsimp only at hSw); go_simp; (try with_reducible rfl))
        try simp only [Act.put, z1, z2, z3]
        refine wpAnyH_take (i := 4) (oi := o47) (v := ?_) rfl (by kernel_rfl) (by kernel_rfl) (by kernel_rfl) (fun _ _ _ h => h) (Or.inl ⟨by kernel_rfl, ?_⟩) (by assumption) ?_
        rotate_left 1
        focus (intro w hSw; (try dsimp only at hSw); go_simp; (try with_reducible rfl))
        try simp only [Act.put, z1, z2, z3]
        refine wpAnyH_ready (rs := [5, 9]) (by kernel_rfl) (by simp) (AllReadyH.cons (o := o14) rfl (fun K hK => ?_) (AllReadyH.cons (o := o35) rfl (fun K hK => ?_) AllReadyH.nil))
        · (go_simp; (go_at_call 31; (refine (St.call h1320 (HN.out _)).mono ?_); rintro e V1r15 ⟨rfl, h1321r15⟩))
          refine hK.out _ _ ?_ (fun hHeld => ?_)
          · exact HP33.out _ (h1321r15)
          clear hK K
          try simp only [Act.put, z1, z2, z3]
          refine wpAnyH_take (i := 6) (oi := o19) (v := ?_) rfl (by kernel_rfl) (by kernel_rfl) (by kernel_rfl) (fun _ _ _ h => h) (Or.inl ⟨by kernel_rfl, ?_⟩) (by assumption) ?_
          rotate_left 1
          focus (intro w hSw; (try dsimp only at hSw); go_simp; (try with_reducible rfl))
          try simp only [Act.put, z1, z2, z3]
          refine wpAnyH_take (i := 7) (oi := o22) (v := ?_) rfl (by kernel_rfl) (by kernel_rfl) (by kernel_rfl) (fun _ _ _ h => h) (Or.inl ⟨by kernel_rfl, ?_⟩) (by assumption) ?_
          rotate_left 1
          focus (intro w hSw; (try dsimp only at hSw); go_simp; (try with_reducible rfl))
          try simp only [Act.put, z1, z2, z3]
          refine wpAnyH_take (i := 8) (oi := o16) (v := ?_) rfl (by kernel_rfl) (by kernel_rfl) (by kernel_rfl) (fun _ _ _ h => h) (Or.inl ⟨by kernel_rfl, ?_⟩) (by assumption) ?_
          rotate_left 1
          focus (intro w hSw; (try dsimp only at hSw); go_simp; (try with_reducible rfl))
          try simp only [Act.put, z1, z2, z3]
          refine wpAnyH_ready (rs := [9]) (by kernel_rfl) (by simp) (AllReadyH.cons (o := o35) rfl (fun K hK => ?_) AllReadyH.nil)
          have hne9r15 := h1321r15.ne
          have hle9r15 := h1321r15.below.size
          have hlt9r15 := fun (b : Nat) (o : Obj) (hm : (b, o) ∈ _) => h1321r15.lt hm
          have h1322r15 := h1321r15.alloc (.cells #[.int .i64 0, .int .i64 0, .int .i64 0, .int .i64 0] 51)
          refine wp_alloc_of 51 rfl _ (zero_rect _) ?_
          refine hK.out _ _ ?_ (fun hHeld => ?_)
          · exact HP33.out _ (h1322r15.tl)
          clear hK K
          try simp only [Act.put, z1, z2, z3]
          refine wpAnyH_ready (rs := [10]) (by kernel_rfl) (by simp) (AllReadyH.cons (o := o2) rfl (fun K hK => ?_) AllReadyH.nil)
          have h1323r15 := h1322r15.rowset (ds := #[.int .i64 n0, .int .i64 n1, .int .i64 n2, .int .i64 n3]) hle9r15 hne9r15
          refine wp_store_of 51 _ _ rfl (store_row 51 (cs := #[.int .i64 0, .int .i64 0, .int .i64 0, .int .i64 0]) (ds := #[.int .i64 n0, .int .i64 n1, .int .i64 n2, .int .i64 n3]) (by kernel_rfl) rfl (by simp [Value.oneCell']) h1322r15.hd) ?_
          refine hK.out _ _ ?_ (fun hHeld => ?_)
          · exact HP33.out _ (h1323r15.tl)
          clear hK K
          try simp only [Act.put]
          refine wpAnyH_take (i := 11) (oi := o5) (v := ?_) rfl (by kernel_rfl) (by kernel_rfl) (by kernel_rfl) (fun _ _ _ h => h) (Or.inl ⟨by kernel_rfl, ?_⟩) (by assumption) ?_
          rotate_left 1
          focus (intro w hSw; (try dsimp only at hSw); go_simp; (try with_reducible rfl))
          try simp only [Act.put, z1, z2, z3]
          refine wpAnyH_done (by kernel_rfl) ?_ _
          have h9 := h1323r15
          go_wp2_with fail
          go_meet
          case rel => exact ⟨_, rfl, rfl, h9⟩
        · have hne9r15 := h1320.ne
          have hle9r15 := h1320.below.size
          have hlt9r15 := fun (b : Nat) (o : Obj) (hm : (b, o) ∈ _) => h1320.lt hm
          have h1324r15 := h1320.alloc (.cells #[.int .i64 0, .int .i64 0, .int .i64 0, .int .i64 0] 51)
          refine wp_alloc_of 51 rfl _ (zero_rect _) ?_
          refine hK.out _ _ ?_ (fun hHeld => ?_)
          · exact HP33.out _ (h1324r15.tl)
          clear hK K
          try simp only [Act.put, z1, z2, z3]
          refine wpAnyH_ready (rs := [5]) (by kernel_rfl) (by simp) (AllReadyH.cons (o := o14) rfl (fun K hK => ?_) AllReadyH.nil)
          (go_simp; (go_at_call 31; (refine (St.call h1324r15 (HN.out _)).mono ?_); rintro e V5r15 ⟨rfl, h1325r15⟩))
          refine hK.out _ _ ?_ (fun hHeld => ?_)
          · exact HP33.out _ (h1325r15.tl)
          clear hK K
          try simp only [Act.put, z1, z2, z3]
          refine wpAnyH_take (i := 6) (oi := o19) (v := ?_) rfl (by kernel_rfl) (by kernel_rfl) (by kernel_rfl) (fun _ _ _ h => h) (Or.inl ⟨by kernel_rfl, ?_⟩) (by assumption) ?_
          rotate_left 1
          focus (intro w hSw; (try dsimp only at hSw); go_simp; (try with_reducible rfl))
          try simp only [Act.put, z1, z2, z3]
          refine wpAnyH_take (i := 7) (oi := o22) (v := ?_) rfl (by kernel_rfl) (by kernel_rfl) (by kernel_rfl) (fun _ _ _ h => h) (Or.inl ⟨by kernel_rfl, ?_⟩) (by assumption) ?_
          rotate_left 1
          focus (intro w hSw; (try dsimp only at hSw); go_simp; (try with_reducible rfl))
          try simp only [Act.put, z1, z2, z3]
          refine wpAnyH_take (i := 8) (oi := o16) (v := ?_) rfl (by kernel_rfl) (by kernel_rfl) (by kernel_rfl) (fun _ _ _ h => h) (Or.inl ⟨by kernel_rfl, ?_⟩) (by assumption) ?_
          rotate_left 1
          focus (intro w hSw; (try dsimp only at hSw); go_simp; (try with_reducible rfl))
          try simp only [Act.put, z1, z2, z3]
          refine wpAnyH_ready (rs := [10]) (by kernel_rfl) (by simp) (AllReadyH.cons (o := o2) rfl (fun K hK => ?_) AllReadyH.nil)
          have h1326r15 := h1325r15.rowset (ds := #[.int .i64 n0, .int .i64 n1, .int .i64 n2, .int .i64 n3]) hle9r15 hne9r15
          refine wp_store_of 51 _ _ rfl (store_row 51 (cs := #[.int .i64 0, .int .i64 0, .int .i64 0, .int .i64 0]) (ds := #[.int .i64 n0, .int .i64 n1, .int .i64 n2, .int .i64 n3]) (by kernel_rfl) rfl (by simp [Value.oneCell']) h1325r15.hd) ?_
          refine hK.out _ _ ?_ (fun hHeld => ?_)
          · exact HP33.out _ (h1326r15.tl)
          clear hK K
          try simp only [Act.put]
          refine wpAnyH_take (i := 11) (oi := o5) (v := ?_) rfl (by kernel_rfl) (by kernel_rfl) (by kernel_rfl) (fun _ _ _ h => h) (Or.inl ⟨by kernel_rfl, ?_⟩) (by assumption) ?_
          rotate_left 1
          focus (intro w hSw; (try dsimp only at hSw); go_simp; (try with_reducible rfl))
          try simp only [Act.put, z1, z2, z3]
          refine wpAnyH_done (by kernel_rfl) ?_ _
          have h9 := h1326r15
          go_wp2_with fail
          go_meet
          case rel => exact ⟨_, rfl, rfl, h9⟩
      obtain ⟨e2, rfl, rfl, HQ⟩ := hcut
      have h133 := HQ.out
      clear HQ HP33 h132
      go_upto_region 16 with fail
      have HP34 : Hid (∀ V9, St w [(e2, ro n0 n1 n2 n3), (e1, pob X Y), (c31, ao p0 p1 p2 p3 p4 p5 p6), (c8, OP), (c7, OR), (c6, OA)] V9 → St w [(e2, ro n0 n1 n2 n3), (e1, pob X Y), (c31, ao p0 p1 p2 p3 p4 p5 p6), (c8, OP), (c7, OR), (c6, OA)] V9 ∧ AB V9 c31 p0 p1 p2 p3 p4 p5 p6 ∧ (V9.cell? ⟨c7, 4, none⟩ = some (.int .i64 k0) ∧ V9.cell? ⟨c7, 5, none⟩ = some (.int .i64 k1) ∧ V9.cell? ⟨c7, 6, none⟩ = some (.int .i64 k2) ∧ V9.cell? ⟨c7, 7, none⟩ = some (.int .i64 k3))) := fun V hV => ⟨hV, St.aff hV (by simp), HCR1.out V (hV.row (b := c7) (o := OR) (by simp))⟩
      go_cut [20, 21] (fun v8 v9 wx => ∃ b9, v8 = .pointer (some ⟨b9, 0, none⟩) ∧ v9 = .int .i64 m4 ∧ Hid (St w ((b9, ro m0 m1 m2 m3) :: [(e2, ro n0 n1 n2 n3), (e1, pob X Y), (c31, ao p0 p1 p2 p3 p4 p5 p6), (c8, OP), (c7, OR), (c6, OA)]) wx))
      case first => as_aux_lemma =>
        refine wp_region_held_drew (S := fun V9 => St w [(e2, ro n0 n1 n2 n3), (e1, pob X Y), (c31, ao p0 p1 p2 p3 p4 p5 p6), (c8, OP), (c7, OR), (c6, OA)] V9 ∧ AB V9 c31 p0 p1 p2 p3 p4 p5 p6 ∧ (V9.cell? ⟨c7, 4, none⟩ = some (.int .i64 k0) ∧ V9.cell? ⟨c7, 5, none⟩ = some (.int .i64 k1) ∧ V9.cell? ⟨c7, 6, none⟩ = some (.int .i64 k2) ∧ V9.cell? ⟨c7, 7, none⟩ = some (.int .i64 k3))) (by kernel_rfl) ?_ (fun hHeld => ?_)
        · exact HP34.out _ (h133.drew)
        have h1330 := h133.drew
        refine wpAnyH_take (i := 0) (oi := o57) (v := ?_) rfl (by kernel_rfl) (by kernel_rfl) (by kernel_rfl) (fun _ _ _ h => h) (Or.inl ⟨by kernel_rfl, ?_⟩) (by assumption) ?_
        rotate_left 1
        focus (intro w hSw; (try dsimp only at hSw); go_simp; (try with_reducible rfl))
        try simp only [Act.put, z1, z2, z3]
        refine wpAnyH_take (i := 1) (oi := o64) (v := ?_) rfl (by kernel_rfl) (by kernel_rfl) (by kernel_rfl) (fun _ _ _ h => h) (Or.inl ⟨by kernel_rfl, ?_⟩) (by assumption) ?_
        rotate_left 1
        focus (intro w hSw; (try dsimp only at hSw); go_simp; (try with_reducible rfl))
        try simp only [Act.put, z1, z2, z3]
        refine wpAnyH_take (i := 2) (oi := o32) (v := (.int .i64 1)) rfl (by kernel_rfl) (by kernel_rfl) (by kernel_rfl) (fun _ _ _ h => h) (Or.inl ⟨by kernel_rfl, ?_⟩) (by assumption) ?_
        focus (intro w hSw; (try dsimp only at hSw); go_simp; try (first | rfl | decide))
        try simp only [Act.put, z1, z2, z3]
        refine wpAnyH_take (i := 3) (oi := o43) (v := ?_) rfl (by kernel_rfl) (by kernel_rfl) (by kernel_rfl) (fun _ _ _ h => h) (Or.inl ⟨by kernel_rfl, ?_⟩) (by assumption) ?_
        rotate_left 1
        focus (intro w hSw; (try dsimp only at hSw); go_simp; (try with_reducible rfl))
        try simp only [Act.put, z1, z2, z3]
        refine wpAnyH_take (i := 4) (oi := o48) (v := ?_) rfl (by kernel_rfl) (by kernel_rfl) (by kernel_rfl) (fun _ _ _ h => h) (Or.inl ⟨by kernel_rfl, ?_⟩) (by assumption) ?_
        rotate_left 1
        focus (intro w hSw; (try dsimp only at hSw); go_simp; (try with_reducible rfl))
        try simp only [Act.put, z1, z2, z3]
        refine wpAnyH_ready (rs := [5, 9]) (by kernel_rfl) (by simp) (AllReadyH.cons (o := o13) rfl (fun K hK => ?_) (AllReadyH.cons (o := o36) rfl (fun K hK => ?_) AllReadyH.nil))
        · (go_simp; (go_at_call 32; (refine (St.call h1330 (HB.out _)).mono ?_); rintro e V1r16 ⟨rfl, h1331r16⟩))
          refine hK.out _ _ ?_ (fun hHeld => ?_)
          · exact HP34.out _ (h1331r16)
          clear hK K
          try simp only [Act.put, z1, z2, z3]
          refine wpAnyH_take (i := 6) (oi := o20) (v := ?_) rfl (by kernel_rfl) (by kernel_rfl) (by kernel_rfl) (fun _ _ _ h => h) (Or.inl ⟨by kernel_rfl, ?_⟩) (by assumption) ?_
          rotate_left 1
          focus (intro w hSw; (try dsimp only at hSw); go_simp; (try with_reducible rfl))
          try simp only [Act.put, z1, z2, z3]
          refine wpAnyH_take (i := 7) (oi := o23) (v := ?_) rfl (by kernel_rfl) (by kernel_rfl) (by kernel_rfl) (fun _ _ _ h => h) (Or.inl ⟨by kernel_rfl, ?_⟩) (by assumption) ?_
          rotate_left 1
          focus (intro w hSw; (try dsimp only at hSw); go_simp; (try with_reducible rfl))
          try simp only [Act.put, z1, z2, z3]
          refine wpAnyH_take (i := 8) (oi := o17) (v := ?_) rfl (by kernel_rfl) (by kernel_rfl) (by kernel_rfl) (fun _ _ _ h => h) (Or.inl ⟨by kernel_rfl, ?_⟩) (by assumption) ?_
          rotate_left 1
          focus (intro w hSw; (try dsimp only at hSw); go_simp; (try with_reducible rfl))
          try simp only [Act.put, z1, z2, z3]
          refine wpAnyH_ready (rs := [9]) (by kernel_rfl) (by simp) (AllReadyH.cons (o := o36) rfl (fun K hK => ?_) AllReadyH.nil)
          have hne9r16 := h1331r16.ne
          have hle9r16 := h1331r16.below.size
          have hlt9r16 := fun (b : Nat) (o : Obj) (hm : (b, o) ∈ _) => h1331r16.lt hm
          have h1332r16 := h1331r16.alloc (.cells #[.int .i64 0, .int .i64 0, .int .i64 0, .int .i64 0] 51)
          refine wp_alloc_of 51 rfl _ (zero_rect _) ?_
          refine hK.out _ _ ?_ (fun hHeld => ?_)
          · exact HP34.out _ (h1332r16.tl)
          clear hK K
          try simp only [Act.put, z1, z2, z3]
          refine wpAnyH_ready (rs := [10]) (by kernel_rfl) (by simp) (AllReadyH.cons (o := o3) rfl (fun K hK => ?_) AllReadyH.nil)
          have h1333r16 := h1332r16.rowset (ds := #[.int .i64 m0, .int .i64 m1, .int .i64 m2, .int .i64 m3]) hle9r16 hne9r16
          refine wp_store_of 51 _ _ rfl (store_row 51 (cs := #[.int .i64 0, .int .i64 0, .int .i64 0, .int .i64 0]) (ds := #[.int .i64 m0, .int .i64 m1, .int .i64 m2, .int .i64 m3]) (by kernel_rfl) rfl (by simp [Value.oneCell']) h1332r16.hd) ?_
          refine hK.out _ _ ?_ (fun hHeld => ?_)
          · exact HP34.out _ (h1333r16.tl)
          clear hK K
          try simp only [Act.put]
          refine wpAnyH_take (i := 11) (oi := o6) (v := ?_) rfl (by kernel_rfl) (by kernel_rfl) (by kernel_rfl) (fun _ _ _ h => h) (Or.inl ⟨by kernel_rfl, ?_⟩) (by assumption) ?_
          rotate_left 1
          focus (intro w hSw; (try dsimp only at hSw); go_simp; (try with_reducible rfl))
          try simp only [Act.put, z1, z2, z3]
          refine wpAnyH_done (by kernel_rfl) ?_ _
          have h9 := h1333r16
          go_wp2_with fail
          go_meet
          case rel => exact ⟨_, rfl, rfl, h9⟩
        · have hne9r16 := h1330.ne
          have hle9r16 := h1330.below.size
          have hlt9r16 := fun (b : Nat) (o : Obj) (hm : (b, o) ∈ _) => h1330.lt hm
          have h1334r16 := h1330.alloc (.cells #[.int .i64 0, .int .i64 0, .int .i64 0, .int .i64 0] 51)
          refine wp_alloc_of 51 rfl _ (zero_rect _) ?_
          refine hK.out _ _ ?_ (fun hHeld => ?_)
          · exact HP34.out _ (h1334r16.tl)
          clear hK K
          try simp only [Act.put, z1, z2, z3]
          refine wpAnyH_ready (rs := [5]) (by kernel_rfl) (by simp) (AllReadyH.cons (o := o13) rfl (fun K hK => ?_) AllReadyH.nil)
          (go_simp; (go_at_call 32; (refine (St.call h1334r16 (HB.out _)).mono ?_); rintro e V5r16 ⟨rfl, h1335r16⟩))
          refine hK.out _ _ ?_ (fun hHeld => ?_)
          · exact HP34.out _ (h1335r16.tl)
          clear hK K
          try simp only [Act.put, z1, z2, z3]
          refine wpAnyH_take (i := 6) (oi := o20) (v := ?_) rfl (by kernel_rfl) (by kernel_rfl) (by kernel_rfl) (fun _ _ _ h => h) (Or.inl ⟨by kernel_rfl, ?_⟩) (by assumption) ?_
          rotate_left 1
          focus (intro w hSw; (try dsimp only at hSw); go_simp; (try with_reducible rfl))
          try simp only [Act.put, z1, z2, z3]
          refine wpAnyH_take (i := 7) (oi := o23) (v := ?_) rfl (by kernel_rfl) (by kernel_rfl) (by kernel_rfl) (fun _ _ _ h => h) (Or.inl ⟨by kernel_rfl, ?_⟩) (by assumption) ?_
          rotate_left 1
          focus (intro w hSw; (try dsimp only at hSw); go_simp; (try with_reducible rfl))
          try simp only [Act.put, z1, z2, z3]
          refine wpAnyH_take (i := 8) (oi := o17) (v := ?_) rfl (by kernel_rfl) (by kernel_rfl) (by kernel_rfl) (fun _ _ _ h => h) (Or.inl ⟨by kernel_rfl, ?_⟩) (by assumption) ?_
          rotate_left 1
          focus (intro w hSw; (try dsimp only at hSw); go_simp; (try with_reducible rfl))
          try simp only [Act.put, z1, z2, z3]
          refine wpAnyH_ready (rs := [10]) (by kernel_rfl) (by simp) (AllReadyH.cons (o := o3) rfl (fun K hK => ?_) AllReadyH.nil)
          have h1336r16 := h1335r16.rowset (ds := #[.int .i64 m0, .int .i64 m1, .int .i64 m2, .int .i64 m3]) hle9r16 hne9r16
          refine wp_store_of 51 _ _ rfl (store_row 51 (cs := #[.int .i64 0, .int .i64 0, .int .i64 0, .int .i64 0]) (ds := #[.int .i64 m0, .int .i64 m1, .int .i64 m2, .int .i64 m3]) (by kernel_rfl) rfl (by simp [Value.oneCell']) h1335r16.hd) ?_
          refine hK.out _ _ ?_ (fun hHeld => ?_)
          · exact HP34.out _ (h1336r16.tl)
          clear hK K
          try simp only [Act.put]
          refine wpAnyH_take (i := 11) (oi := o6) (v := ?_) rfl (by kernel_rfl) (by kernel_rfl) (by kernel_rfl) (fun _ _ _ h => h) (Or.inl ⟨by kernel_rfl, ?_⟩) (by assumption) ?_
          rotate_left 1
          focus (intro w hSw; (try dsimp only at hSw); go_simp; (try with_reducible rfl))
          try simp only [Act.put, z1, z2, z3]
          refine wpAnyH_done (by kernel_rfl) ?_ _
          have h9 := h1336r16
          go_wp2_with fail
          go_meet
          case rel => exact ⟨_, rfl, rfl, h9⟩
      obtain ⟨e3, rfl, rfl, HQ⟩ := hcut
      have h134 := HQ.out
      clear HQ HP34 h133
      go_upto_region 17 with fail
      have HP35 : Hid (∀ V9, St w [(e3, ro m0 m1 m2 m3), (e2, ro n0 n1 n2 n3), (e1, pob X Y), (c31, ao p0 p1 p2 p3 p4 p5 p6), (c8, OP), (c7, OR), (c6, OA)] V9 → St w [(e3, ro m0 m1 m2 m3), (e2, ro n0 n1 n2 n3), (e1, pob X Y), (c31, ao p0 p1 p2 p3 p4 p5 p6), (c8, OP), (c7, OR), (c6, OA)] V9 ∧ AB V9 c31 p0 p1 p2 p3 p4 p5 p6 ∧ (V9.cell? ⟨c8, 2, none⟩ = some (.int .i64 u) ∧ V9.cell? ⟨c8, 3, none⟩ = some (.int .i64 v))) := fun V hV => ⟨hV, St.aff hV (by simp), HCP1.out V (hV.row (b := c8) (o := OP) (by simp))⟩
      go_cut [22] (fun v8 wx => ∃ b9, v8 = .pointer (some ⟨b9, 0, none⟩) ∧ Hid (St w ((b9, (.cells #[.int .i64 X, .int .i64 Y, .int .i64 E] 63 : Obj)) :: [(e3, ro m0 m1 m2 m3), (e2, ro n0 n1 n2 n3), (e1, pob X Y), (c31, ao p0 p1 p2 p3 p4 p5 p6), (c8, OP), (c7, OR), (c6, OA)]) wx))
      case first => as_aux_lemma =>
        refine wp_region_held_drew (S := fun V9 => St w [(e3, ro m0 m1 m2 m3), (e2, ro n0 n1 n2 n3), (e1, pob X Y), (c31, ao p0 p1 p2 p3 p4 p5 p6), (c8, OP), (c7, OR), (c6, OA)] V9 ∧ AB V9 c31 p0 p1 p2 p3 p4 p5 p6 ∧ (V9.cell? ⟨c8, 2, none⟩ = some (.int .i64 u) ∧ V9.cell? ⟨c8, 3, none⟩ = some (.int .i64 v))) (by kernel_rfl) ?_ (fun hHeld => ?_)
        · exact HP35.out _ (h134.drew)
        have h1340 := h134.drew
        refine wpAnyH_take (i := 0) (oi := o58) (v := ?_) rfl (by kernel_rfl) (by kernel_rfl) (by kernel_rfl) (fun _ _ _ h => h) (Or.inl ⟨by kernel_rfl, ?_⟩) (by assumption) ?_
        rotate_left 1
        focus (intro w hSw; (try dsimp only at hSw); go_simp; (try with_reducible rfl))
        try simp only [Act.put, z1, z2, z3]
        refine wpAnyH_take (i := 1) (oi := o65) (v := ?_) rfl (by kernel_rfl) (by kernel_rfl) (by kernel_rfl) (fun _ _ _ h => h) (Or.inl ⟨by kernel_rfl, ?_⟩) (by assumption) ?_
        rotate_left 1
        focus (intro w hSw; (try dsimp only at hSw); go_simp; (try with_reducible rfl))
        try simp only [Act.put, z1, z2, z3]
        refine wpAnyH_take (i := 2) (oi := o33) (v := (.int .i64 1)) rfl (by kernel_rfl) (by kernel_rfl) (by kernel_rfl) (fun _ _ _ h => h) (Or.inl ⟨by kernel_rfl, ?_⟩) (by assumption) ?_
        focus (intro w hSw; (try dsimp only at hSw); go_simp; try (first | rfl | decide))
        try simp only [Act.put, z1, z2, z3]
        refine wpAnyH_take (i := 3) (oi := o41) (v := ?_) rfl (by kernel_rfl) (by kernel_rfl) (by kernel_rfl) (fun _ _ _ h => h) (Or.inl ⟨by kernel_rfl, ?_⟩) (by assumption) ?_
        rotate_left 1
        focus (intro w hSw; (try dsimp only at hSw); go_simp; (try with_reducible rfl))
        try simp only [Act.put, z1, z2, z3]
        refine wpAnyH_take (i := 4) (oi := o50) (v := ?_) rfl (by kernel_rfl) (by kernel_rfl) (by kernel_rfl) (fun _ _ _ h => h) (Or.inl ⟨by kernel_rfl, ?_⟩) (by assumption) ?_
        rotate_left 1
        focus (intro w hSw; (try dsimp only at hSw); go_simp; (try with_reducible rfl))
        try simp only [Act.put, z1, z2, z3]
        refine wpAnyH_take (i := 5) (oi := o52) (v := ?_) rfl (by kernel_rfl) (by kernel_rfl) (by kernel_rfl) (fun _ _ _ h => h) (Or.inl ⟨by kernel_rfl, ?_⟩) (by assumption) ?_
        rotate_left 1
        focus (intro w hSw; (try dsimp only at hSw); go_simp; (try with_reducible rfl))
        try simp only [Act.put, z1, z2, z3]
        refine wpAnyH_take (i := 6) (oi := o59) (v := ?_) rfl (by kernel_rfl) (by kernel_rfl) (by kernel_rfl) (fun _ _ _ h => h) (Or.inl ⟨by kernel_rfl, ?_⟩) (by assumption) ?_
        rotate_left 1
        focus (intro w hSw; (try dsimp only at hSw); go_simp; (try with_reducible rfl))
        try simp only [Act.put, z1, z2, z3]
        refine wpAnyH_take (i := 7) (oi := o27) (v := (.int .i64 1)) rfl (by kernel_rfl) (by kernel_rfl) (by kernel_rfl) (fun _ _ _ h => h) (Or.inl ⟨by kernel_rfl, ?_⟩) (by assumption) ?_
        focus (intro w hSw; (try dsimp only at hSw); go_simp; try (first | rfl | decide))
        try simp only [Act.put, z1, z2, z3]
        refine wpAnyH_take (i := 8) (oi := o37) (v := ?_) rfl (by kernel_rfl) (by kernel_rfl) (by kernel_rfl) (fun _ _ _ h => h) (Or.inl ⟨by kernel_rfl, ?_⟩) (by assumption) ?_
        rotate_left 1
        focus (intro w hSw; (try dsimp only at hSw); go_simp; (try with_reducible rfl))
        try simp only [Act.put, z1, z2, z3]
        refine wpAnyH_take (i := 9) (oi := o49) (v := ?_) rfl (by kernel_rfl) (by kernel_rfl) (by kernel_rfl) (fun _ _ _ h => h) (Or.inl ⟨by kernel_rfl, ?_⟩) (by assumption) ?_
        rotate_left 1
        focus (intro w hSw; (try dsimp only at hSw); go_simp; (try with_reducible rfl))
        try simp only [Act.put, z1, z2, z3]
        refine wpAnyH_take (i := 10) (oi := o51) (v := ?_) rfl (by kernel_rfl) (by kernel_rfl) (by kernel_rfl) (fun _ _ _ h => h) (Or.inl ⟨by kernel_rfl, ?_⟩) (by assumption) ?_
        rotate_left 1
        focus (intro w hSw; (try dsimp only at hSw); go_simp; (try with_reducible rfl))
        try simp only [Act.put, z1, z2, z3]
        refine wpAnyH_ready (rs := [11, 12]) (by kernel_rfl) (by simp) (AllReadyH.cons (o := o9) rfl (fun K hK => ?_) (AllReadyH.cons (o := o24) rfl (fun K hK => ?_) AllReadyH.nil))
        · (go_simp; (go_at_call 33; (refine (St.call h1340 (HRS.out _)).mono ?_); rintro e V1r17 ⟨rfl, h1341r17⟩))
          refine hK.out _ _ ?_ (fun hHeld => ?_)
          · exact HP35.out _ (h1341r17)
          clear hK K
          try simp only [Act.put, z1, z2, z3]
          refine wpAnyH_ready (rs := [12]) (by kernel_rfl) (by simp) (AllReadyH.cons (o := o24) rfl (fun K hK => ?_) AllReadyH.nil)
          have hne12r17 := h1341r17.ne
          have hle12r17 := h1341r17.below.size
          have hlt12r17 := fun (b : Nat) (o : Obj) (hm : (b, o) ∈ _) => h1341r17.lt hm
          have h1342r17 := h1341r17.alloc (.cells #[.int .i64 0, .int .i64 0, .int .i64 0] 63)
          refine wp_alloc_of 63 rfl _ (zero_pos _) ?_
          refine hK.out _ _ ?_ (fun hHeld => ?_)
          · exact HP35.out _ (h1342r17.tl)
          clear hK K
          try simp only [Act.put, z1, z2, z3]
          refine wpAnyH_ready (rs := [13]) (by kernel_rfl) (by simp) (AllReadyH.cons (o := o0) rfl (fun K hK => ?_) AllReadyH.nil)
          have h1343r17 := h1342r17.rowset (ds := #[.int .i64 X, .int .i64 Y, .int .i64 E]) hle12r17 hne12r17
          refine wp_store_of 63 _ _ rfl (store_row 63 (cs := #[.int .i64 0, .int .i64 0, .int .i64 0]) (ds := #[.int .i64 X, .int .i64 Y, .int .i64 E]) (by kernel_rfl) rfl (by simp [Value.oneCell']) h1342r17.hd) ?_
          refine hK.out _ _ ?_ (fun hHeld => ?_)
          · exact HP35.out _ (h1343r17.tl)
          clear hK K
          try simp only [Act.put]
          refine wpAnyH_done (by kernel_rfl) ?_ _
          have h9 := h1343r17
          go_wp2_with fail
          go_meet
          case rel => exact ⟨_, rfl, h9⟩
        · have hne12r17 := h1340.ne
          have hle12r17 := h1340.below.size
          have hlt12r17 := fun (b : Nat) (o : Obj) (hm : (b, o) ∈ _) => h1340.lt hm
          have h1344r17 := h1340.alloc (.cells #[.int .i64 0, .int .i64 0, .int .i64 0] 63)
          refine wp_alloc_of 63 rfl _ (zero_pos _) ?_
          refine hK.out _ _ ?_ (fun hHeld => ?_)
          · exact HP35.out _ (h1344r17.tl)
          clear hK K
          try simp only [Act.put, z1, z2, z3]
          refine wpAnyH_ready (rs := [11]) (by kernel_rfl) (by simp) (AllReadyH.cons (o := o9) rfl (fun K hK => ?_) AllReadyH.nil)
          (go_simp; (go_at_call 33; (refine (St.call h1344r17 (HRS.out _)).mono ?_); rintro e V5r17 ⟨rfl, h1345r17⟩))
          refine hK.out _ _ ?_ (fun hHeld => ?_)
          · exact HP35.out _ (h1345r17.tl)
          clear hK K
          try simp only [Act.put, z1, z2, z3]
          refine wpAnyH_ready (rs := [13]) (by kernel_rfl) (by simp) (AllReadyH.cons (o := o0) rfl (fun K hK => ?_) AllReadyH.nil)
          have h1346r17 := h1345r17.rowset (ds := #[.int .i64 X, .int .i64 Y, .int .i64 E]) hle12r17 hne12r17
          refine wp_store_of 63 _ _ rfl (store_row 63 (cs := #[.int .i64 0, .int .i64 0, .int .i64 0]) (ds := #[.int .i64 X, .int .i64 Y, .int .i64 E]) (by kernel_rfl) rfl (by simp [Value.oneCell']) h1345r17.hd) ?_
          refine hK.out _ _ ?_ (fun hHeld => ?_)
          · exact HP35.out _ (h1346r17.tl)
          clear hK K
          try simp only [Act.put]
          refine wpAnyH_done (by kernel_rfl) ?_ _
          have h9 := h1346r17
          go_wp2_with fail
          go_meet
          case rel => exact ⟨_, rfl, h9⟩
      obtain ⟨e4, rfl, HQ⟩ := hcut
      have h135 := HQ.out
      clear HQ HP35 h134
      go_upto_region 18 with fail
      have HP36 : Hid (∀ V9, St w [(e4, (.cells #[.int .i64 X, .int .i64 Y, .int .i64 E] 63 : Obj)), (e3, ro m0 m1 m2 m3), (e2, ro n0 n1 n2 n3), (e1, pob X Y), (c31, ao p0 p1 p2 p3 p4 p5 p6), (c8, OP), (c7, OR), (c6, OA)] V9 → St w [(e4, (.cells #[.int .i64 X, .int .i64 Y, .int .i64 E] 63 : Obj)), (e3, ro m0 m1 m2 m3), (e2, ro n0 n1 n2 n3), (e1, pob X Y), (c31, ao p0 p1 p2 p3 p4 p5 p6), (c8, OP), (c7, OR), (c6, OA)] V9 ∧ AB V9 c31 p0 p1 p2 p3 p4 p5 p6 ∧ (V9.cell? ⟨c7, 4, none⟩ = some (.int .i64 k0) ∧ V9.cell? ⟨c7, 5, none⟩ = some (.int .i64 k1) ∧ V9.cell? ⟨c7, 6, none⟩ = some (.int .i64 k2) ∧ V9.cell? ⟨c7, 7, none⟩ = some (.int .i64 k3))) := fun V hV => ⟨hV, St.aff hV (by simp), HCR1.out V (hV.row (b := c7) (o := OR) (by simp))⟩
      go_cut [23] (fun v8 wx => ∃ b9, v8 = .pointer (some ⟨b9, 0, none⟩) ∧ Hid (St w ((b9, (.cells #[.int .i64 n0, .int .i64 n1, .int .i64 n2, .int .i64 n3, .int .i64 n4] 66 : Obj)) :: [(e4, (.cells #[.int .i64 X, .int .i64 Y, .int .i64 E] 63 : Obj)), (e3, ro m0 m1 m2 m3), (e2, ro n0 n1 n2 n3), (e1, pob X Y), (c31, ao p0 p1 p2 p3 p4 p5 p6), (c8, OP), (c7, OR), (c6, OA)]) wx))
      case first => as_aux_lemma =>
        refine wp_region_held_drew (S := fun V9 => St w [(e4, (.cells #[.int .i64 X, .int .i64 Y, .int .i64 E] 63 : Obj)), (e3, ro m0 m1 m2 m3), (e2, ro n0 n1 n2 n3), (e1, pob X Y), (c31, ao p0 p1 p2 p3 p4 p5 p6), (c8, OP), (c7, OR), (c6, OA)] V9 ∧ AB V9 c31 p0 p1 p2 p3 p4 p5 p6 ∧ (V9.cell? ⟨c7, 4, none⟩ = some (.int .i64 k0) ∧ V9.cell? ⟨c7, 5, none⟩ = some (.int .i64 k1) ∧ V9.cell? ⟨c7, 6, none⟩ = some (.int .i64 k2) ∧ V9.cell? ⟨c7, 7, none⟩ = some (.int .i64 k3))) (by kernel_rfl) ?_ (fun hHeld => ?_)
        · exact HP36.out _ (h135.drew)
        have h1350 := h135.drew
        refine wpAnyH_take (i := 0) (oi := o53) (v := ?_) rfl (by kernel_rfl) (by kernel_rfl) (by kernel_rfl) (fun _ _ _ h => h) (Or.inl ⟨by kernel_rfl, ?_⟩) (by assumption) ?_
        rotate_left 1
        focus (intro w hSw; (try dsimp only at hSw); go_simp; (try with_reducible rfl))
        try simp only [Act.put, z1, z2, z3]
        refine wpAnyH_take (i := 1) (oi := o60) (v := ?_) rfl (by kernel_rfl) (by kernel_rfl) (by kernel_rfl) (fun _ _ _ h => h) (Or.inl ⟨by kernel_rfl, ?_⟩) (by assumption) ?_
        rotate_left 1
        focus (intro w hSw; (try dsimp only at hSw); go_simp; (try with_reducible rfl))
        try simp only [Act.put, z1, z2, z3]
        refine wpAnyH_take (i := 2) (oi := o28) (v := (.int .i64 1)) rfl (by kernel_rfl) (by kernel_rfl) (by kernel_rfl) (fun _ _ _ h => h) (Or.inl ⟨by kernel_rfl, ?_⟩) (by assumption) ?_
        focus (intro w hSw; (try dsimp only at hSw); go_simp; try (first | rfl | decide))
        try simp only [Act.put, z1, z2, z3]
        refine wpAnyH_take (i := 3) (oi := o38) (v := ?_) rfl (by kernel_rfl) (by kernel_rfl) (by kernel_rfl) (fun _ _ _ h => h) (Or.inl ⟨by kernel_rfl, ?_⟩) (by assumption) ?_
        rotate_left 1
        focus (intro w hSw; (try dsimp only at hSw); go_simp; (try with_reducible rfl))
        try simp only [Act.put, z1, z2, z3]
        refine wpAnyH_take (i := 4) (oi := o45) (v := ?_) rfl (by kernel_rfl) (by kernel_rfl) (by kernel_rfl) (fun _ _ _ h => h) (Or.inl ⟨by kernel_rfl, ?_⟩) (by assumption) ?_
        rotate_left 1
        focus (intro w hSw; (try dsimp only at hSw); go_simp; (try with_reducible rfl))
        try simp only [Act.put, z1, z2, z3]
        refine wpAnyH_ready (rs := [5, 6]) (by kernel_rfl) (by simp) (AllReadyH.cons (o := o12) rfl (fun K hK => ?_) (AllReadyH.cons (o := o25) rfl (fun K hK => ?_) AllReadyH.nil))
        · (go_simp; (go_at_call 34; (refine (St.call h1350 (HRN.out _)).mono ?_); rintro e V1r18 ⟨rfl, h1351r18⟩))
          refine hK.out _ _ ?_ (fun hHeld => ?_)
          · exact HP36.out _ (h1351r18)
          clear hK K
          try simp only [Act.put, z1, z2, z3]
          refine wpAnyH_ready (rs := [6]) (by kernel_rfl) (by simp) (AllReadyH.cons (o := o25) rfl (fun K hK => ?_) AllReadyH.nil)
          have hne6r18 := h1351r18.ne
          have hle6r18 := h1351r18.below.size
          have hlt6r18 := fun (b : Nat) (o : Obj) (hm : (b, o) ∈ _) => h1351r18.lt hm
          have h1352r18 := h1351r18.alloc (.cells #[.int .i64 0, .int .i64 0, .int .i64 0, .int .i64 0, .int .i64 0] 66)
          refine wp_alloc_of 66 rfl _ (zero_box _) ?_
          refine hK.out _ _ ?_ (fun hHeld => ?_)
          · exact HP36.out _ (h1352r18.tl)
          clear hK K
          try simp only [Act.put, z1, z2, z3]
          refine wpAnyH_ready (rs := [7]) (by kernel_rfl) (by simp) (AllReadyH.cons (o := o7) rfl (fun K hK => ?_) AllReadyH.nil)
          have h1353r18 := h1352r18.rowset (ds := #[.int .i64 n0, .int .i64 n1, .int .i64 n2, .int .i64 n3, .int .i64 n4]) hle6r18 hne6r18
          refine wp_store_of 66 _ _ rfl (store_row 66 (cs := #[.int .i64 0, .int .i64 0, .int .i64 0, .int .i64 0, .int .i64 0]) (ds := #[.int .i64 n0, .int .i64 n1, .int .i64 n2, .int .i64 n3, .int .i64 n4]) (by kernel_rfl) rfl (by simp [Value.oneCell']) h1352r18.hd) ?_
          refine hK.out _ _ ?_ (fun hHeld => ?_)
          · exact HP36.out _ (h1353r18.tl)
          clear hK K
          try simp only [Act.put]
          refine wpAnyH_done (by kernel_rfl) ?_ _
          have h9 := h1353r18
          go_wp2_with fail
          go_meet
          case rel => exact ⟨_, rfl, h9⟩
        · have hne6r18 := h1350.ne
          have hle6r18 := h1350.below.size
          have hlt6r18 := fun (b : Nat) (o : Obj) (hm : (b, o) ∈ _) => h1350.lt hm
          have h1354r18 := h1350.alloc (.cells #[.int .i64 0, .int .i64 0, .int .i64 0, .int .i64 0, .int .i64 0] 66)
          refine wp_alloc_of 66 rfl _ (zero_box _) ?_
          refine hK.out _ _ ?_ (fun hHeld => ?_)
          · exact HP36.out _ (h1354r18.tl)
          clear hK K
          try simp only [Act.put, z1, z2, z3]
          refine wpAnyH_ready (rs := [5]) (by kernel_rfl) (by simp) (AllReadyH.cons (o := o12) rfl (fun K hK => ?_) AllReadyH.nil)
          (go_simp; (go_at_call 34; (refine (St.call h1354r18 (HRN.out _)).mono ?_); rintro e V5r18 ⟨rfl, h1355r18⟩))
          refine hK.out _ _ ?_ (fun hHeld => ?_)
          · exact HP36.out _ (h1355r18.tl)
          clear hK K
          try simp only [Act.put, z1, z2, z3]
          refine wpAnyH_ready (rs := [7]) (by kernel_rfl) (by simp) (AllReadyH.cons (o := o7) rfl (fun K hK => ?_) AllReadyH.nil)
          have h1356r18 := h1355r18.rowset (ds := #[.int .i64 n0, .int .i64 n1, .int .i64 n2, .int .i64 n3, .int .i64 n4]) hle6r18 hne6r18
          refine wp_store_of 66 _ _ rfl (store_row 66 (cs := #[.int .i64 0, .int .i64 0, .int .i64 0, .int .i64 0, .int .i64 0]) (ds := #[.int .i64 n0, .int .i64 n1, .int .i64 n2, .int .i64 n3, .int .i64 n4]) (by kernel_rfl) rfl (by simp [Value.oneCell']) h1355r18.hd) ?_
          refine hK.out _ _ ?_ (fun hHeld => ?_)
          · exact HP36.out _ (h1356r18.tl)
          clear hK K
          try simp only [Act.put]
          refine wpAnyH_done (by kernel_rfl) ?_ _
          have h9 := h1356r18
          go_wp2_with fail
          go_meet
          case rel => exact ⟨_, rfl, h9⟩
      obtain ⟨e5, rfl, HQ⟩ := hcut
      have h136 := HQ.out
      clear HQ HP36 h135
      go_upto_region 19 with fail
      have HP37 : Hid (∀ V9, St w [(e5, (.cells #[.int .i64 n0, .int .i64 n1, .int .i64 n2, .int .i64 n3, .int .i64 n4] 66 : Obj)), (e4, (.cells #[.int .i64 X, .int .i64 Y, .int .i64 E] 63 : Obj)), (e3, ro m0 m1 m2 m3), (e2, ro n0 n1 n2 n3), (e1, pob X Y), (c31, ao p0 p1 p2 p3 p4 p5 p6), (c8, OP), (c7, OR), (c6, OA)] V9 → St w [(e5, (.cells #[.int .i64 n0, .int .i64 n1, .int .i64 n2, .int .i64 n3, .int .i64 n4] 66 : Obj)), (e4, (.cells #[.int .i64 X, .int .i64 Y, .int .i64 E] 63 : Obj)), (e3, ro m0 m1 m2 m3), (e2, ro n0 n1 n2 n3), (e1, pob X Y), (c31, ao p0 p1 p2 p3 p4 p5 p6), (c8, OP), (c7, OR), (c6, OA)] V9 ∧ AB V9 c31 p0 p1 p2 p3 p4 p5 p6 ∧ (V9.cell? ⟨c7, 4, none⟩ = some (.int .i64 k0) ∧ V9.cell? ⟨c7, 5, none⟩ = some (.int .i64 k1) ∧ V9.cell? ⟨c7, 6, none⟩ = some (.int .i64 k2) ∧ V9.cell? ⟨c7, 7, none⟩ = some (.int .i64 k3))) := fun V hV => ⟨hV, St.aff hV (by simp), HCR1.out V (hV.row (b := c7) (o := OR) (by simp))⟩
      go_cut [24] (fun v8 wx => ∃ b9, v8 = .pointer (some ⟨b9, 0, none⟩) ∧ Hid (St w ((b9, (.cells #[.int .i64 m0, .int .i64 m1, .int .i64 m2, .int .i64 m3, .int .i64 m4] 66 : Obj)) :: [(e5, (.cells #[.int .i64 n0, .int .i64 n1, .int .i64 n2, .int .i64 n3, .int .i64 n4] 66 : Obj)), (e4, (.cells #[.int .i64 X, .int .i64 Y, .int .i64 E] 63 : Obj)), (e3, ro m0 m1 m2 m3), (e2, ro n0 n1 n2 n3), (e1, pob X Y), (c31, ao p0 p1 p2 p3 p4 p5 p6), (c8, OP), (c7, OR), (c6, OA)]) wx))
      case first => as_aux_lemma =>
        refine wp_region_held_drew (S := fun V9 => St w [(e5, (.cells #[.int .i64 n0, .int .i64 n1, .int .i64 n2, .int .i64 n3, .int .i64 n4] 66 : Obj)), (e4, (.cells #[.int .i64 X, .int .i64 Y, .int .i64 E] 63 : Obj)), (e3, ro m0 m1 m2 m3), (e2, ro n0 n1 n2 n3), (e1, pob X Y), (c31, ao p0 p1 p2 p3 p4 p5 p6), (c8, OP), (c7, OR), (c6, OA)] V9 ∧ AB V9 c31 p0 p1 p2 p3 p4 p5 p6 ∧ (V9.cell? ⟨c7, 4, none⟩ = some (.int .i64 k0) ∧ V9.cell? ⟨c7, 5, none⟩ = some (.int .i64 k1) ∧ V9.cell? ⟨c7, 6, none⟩ = some (.int .i64 k2) ∧ V9.cell? ⟨c7, 7, none⟩ = some (.int .i64 k3))) (by kernel_rfl) ?_ (fun hHeld => ?_)
        · exact HP37.out _ (h136.drew)
        have h1360 := h136.drew
        refine wpAnyH_take (i := 0) (oi := o54) (v := ?_) rfl (by kernel_rfl) (by kernel_rfl) (by kernel_rfl) (fun _ _ _ h => h) (Or.inl ⟨by kernel_rfl, ?_⟩) (by assumption) ?_
        rotate_left 1
        focus (intro w hSw; (try dsimp only at hSw); go_simp; (try with_reducible rfl))
        try simp only [Act.put, z1, z2, z3]
        refine wpAnyH_take (i := 1) (oi := o61) (v := ?_) rfl (by kernel_rfl) (by kernel_rfl) (by kernel_rfl) (fun _ _ _ h => h) (Or.inl ⟨by kernel_rfl, ?_⟩) (by assumption) ?_
        rotate_left 1
        focus (intro w hSw; (try dsimp only at hSw); go_simp; (try with_reducible rfl))
        try simp only [Act.put, z1, z2, z3]
        refine wpAnyH_take (i := 2) (oi := o29) (v := (.int .i64 1)) rfl (by kernel_rfl) (by kernel_rfl) (by kernel_rfl) (fun _ _ _ h => h) (Or.inl ⟨by kernel_rfl, ?_⟩) (by assumption) ?_
        focus (intro w hSw; (try dsimp only at hSw); go_simp; try (first | rfl | decide))
        try simp only [Act.put, z1, z2, z3]
        refine wpAnyH_take (i := 3) (oi := o39) (v := ?_) rfl (by kernel_rfl) (by kernel_rfl) (by kernel_rfl) (fun _ _ _ h => h) (Or.inl ⟨by kernel_rfl, ?_⟩) (by assumption) ?_
        rotate_left 1
        focus (intro w hSw; (try dsimp only at hSw); go_simp; (try with_reducible rfl))
        try simp only [Act.put, z1, z2, z3]
        refine wpAnyH_take (i := 4) (oi := o46) (v := ?_) rfl (by kernel_rfl) (by kernel_rfl) (by kernel_rfl) (fun _ _ _ h => h) (Or.inl ⟨by kernel_rfl, ?_⟩) (by assumption) ?_
        rotate_left 1
        focus (intro w hSw; (try dsimp only at hSw); go_simp; (try with_reducible rfl))
        try simp only [Act.put, z1, z2, z3]
        refine wpAnyH_ready (rs := [5, 6]) (by kernel_rfl) (by simp) (AllReadyH.cons (o := o10) rfl (fun K hK => ?_) (AllReadyH.cons (o := o26) rfl (fun K hK => ?_) AllReadyH.nil))
        · (go_simp; (go_at_call 35; (refine (St.call h1360 (HRB.out _)).mono ?_); rintro e V1r19 ⟨rfl, h1361r19⟩))
          refine hK.out _ _ ?_ (fun hHeld => ?_)
          · exact HP37.out _ (h1361r19)
          clear hK K
          try simp only [Act.put, z1, z2, z3]
          refine wpAnyH_ready (rs := [6]) (by kernel_rfl) (by simp) (AllReadyH.cons (o := o26) rfl (fun K hK => ?_) AllReadyH.nil)
          have hne6r19 := h1361r19.ne
          have hle6r19 := h1361r19.below.size
          have hlt6r19 := fun (b : Nat) (o : Obj) (hm : (b, o) ∈ _) => h1361r19.lt hm
          have h1362r19 := h1361r19.alloc (.cells #[.int .i64 0, .int .i64 0, .int .i64 0, .int .i64 0, .int .i64 0] 66)
          refine wp_alloc_of 66 rfl _ (zero_box _) ?_
          refine hK.out _ _ ?_ (fun hHeld => ?_)
          · exact HP37.out _ (h1362r19.tl)
          clear hK K
          try simp only [Act.put, z1, z2, z3]
          refine wpAnyH_ready (rs := [7]) (by kernel_rfl) (by simp) (AllReadyH.cons (o := o8) rfl (fun K hK => ?_) AllReadyH.nil)
          have h1363r19 := h1362r19.rowset (ds := #[.int .i64 m0, .int .i64 m1, .int .i64 m2, .int .i64 m3, .int .i64 m4]) hle6r19 hne6r19
          refine wp_store_of 66 _ _ rfl (store_row 66 (cs := #[.int .i64 0, .int .i64 0, .int .i64 0, .int .i64 0, .int .i64 0]) (ds := #[.int .i64 m0, .int .i64 m1, .int .i64 m2, .int .i64 m3, .int .i64 m4]) (by kernel_rfl) rfl (by simp [Value.oneCell']) h1362r19.hd) ?_
          refine hK.out _ _ ?_ (fun hHeld => ?_)
          · exact HP37.out _ (h1363r19.tl)
          clear hK K
          try simp only [Act.put]
          refine wpAnyH_done (by kernel_rfl) ?_ _
          have h9 := h1363r19
          go_wp2_with fail
          go_meet
          case rel => exact ⟨_, rfl, h9⟩
        · have hne6r19 := h1360.ne
          have hle6r19 := h1360.below.size
          have hlt6r19 := fun (b : Nat) (o : Obj) (hm : (b, o) ∈ _) => h1360.lt hm
          have h1364r19 := h1360.alloc (.cells #[.int .i64 0, .int .i64 0, .int .i64 0, .int .i64 0, .int .i64 0] 66)
          refine wp_alloc_of 66 rfl _ (zero_box _) ?_
          refine hK.out _ _ ?_ (fun hHeld => ?_)
          · exact HP37.out _ (h1364r19.tl)
          clear hK K
          try simp only [Act.put, z1, z2, z3]
          refine wpAnyH_ready (rs := [5]) (by kernel_rfl) (by simp) (AllReadyH.cons (o := o10) rfl (fun K hK => ?_) AllReadyH.nil)
          (go_simp; (go_at_call 35; (refine (St.call h1364r19 (HRB.out _)).mono ?_); rintro e V5r19 ⟨rfl, h1365r19⟩))
          refine hK.out _ _ ?_ (fun hHeld => ?_)
          · exact HP37.out _ (h1365r19.tl)
          clear hK K
          try simp only [Act.put, z1, z2, z3]
          refine wpAnyH_ready (rs := [7]) (by kernel_rfl) (by simp) (AllReadyH.cons (o := o8) rfl (fun K hK => ?_) AllReadyH.nil)
          have h1366r19 := h1365r19.rowset (ds := #[.int .i64 m0, .int .i64 m1, .int .i64 m2, .int .i64 m3, .int .i64 m4]) hle6r19 hne6r19
          refine wp_store_of 66 _ _ rfl (store_row 66 (cs := #[.int .i64 0, .int .i64 0, .int .i64 0, .int .i64 0, .int .i64 0]) (ds := #[.int .i64 m0, .int .i64 m1, .int .i64 m2, .int .i64 m3, .int .i64 m4]) (by kernel_rfl) rfl (by simp [Value.oneCell']) h1365r19.hd) ?_
          refine hK.out _ _ ?_ (fun hHeld => ?_)
          · exact HP37.out _ (h1366r19.tl)
          clear hK K
          try simp only [Act.put]
          refine wpAnyH_done (by kernel_rfl) ?_ _
          have h9 := h1366r19
          go_wp2_with fail
          go_meet
          case rel => exact ⟨_, rfl, h9⟩
      obtain ⟨e6, rfl, HQ⟩ := hcut
      have h137 := HQ.out
      clear HQ HP37 h136
      go_upto_region 20 with fail
      obtain ⟨_, _⟩ := St.pt h137 (b := e1) (x := X) (y := Y) (by simp)
      obtain ⟨_, _, _, _⟩ := St.rect h137 (b := e2) (x0 := n0) (x1 := n1) (x2 := n2) (x3 := n3) (by simp)
      obtain ⟨_, _, _, _⟩ := St.rect h137 (b := e3) (x0 := m0) (x1 := m1) (x2 := m2) (x3 := m3) (by simp)
      have ye40 := St.cell h137 (b := e4) (cs := #[.int .i64 X, .int .i64 Y, .int .i64 E]) (t := 63) (by simp) 0
      have ye41 := St.cell h137 (b := e4) (cs := #[.int .i64 X, .int .i64 Y, .int .i64 E]) (t := 63) (by simp) 1
      have ye42 := St.cell h137 (b := e4) (cs := #[.int .i64 X, .int .i64 Y, .int .i64 E]) (t := 63) (by simp) 2
      simp only [z4, z5, z6] at ye40 ye41 ye42
      have ye50 := St.cell h137 (b := e5) (cs := #[.int .i64 n0, .int .i64 n1, .int .i64 n2, .int .i64 n3, .int .i64 n4]) (t := 66) (by simp) 0
      have ye51 := St.cell h137 (b := e5) (cs := #[.int .i64 n0, .int .i64 n1, .int .i64 n2, .int .i64 n3, .int .i64 n4]) (t := 66) (by simp) 1
      have ye52 := St.cell h137 (b := e5) (cs := #[.int .i64 n0, .int .i64 n1, .int .i64 n2, .int .i64 n3, .int .i64 n4]) (t := 66) (by simp) 2
      have ye53 := St.cell h137 (b := e5) (cs := #[.int .i64 n0, .int .i64 n1, .int .i64 n2, .int .i64 n3, .int .i64 n4]) (t := 66) (by simp) 3
      have ye54 := St.cell h137 (b := e5) (cs := #[.int .i64 n0, .int .i64 n1, .int .i64 n2, .int .i64 n3, .int .i64 n4]) (t := 66) (by simp) 4
      simp only [z4, z5, z6] at ye50 ye51 ye52 ye53 ye54
      have ye60 := St.cell h137 (b := e6) (cs := #[.int .i64 m0, .int .i64 m1, .int .i64 m2, .int .i64 m3, .int .i64 m4]) (t := 66) (by simp) 0
      have ye61 := St.cell h137 (b := e6) (cs := #[.int .i64 m0, .int .i64 m1, .int .i64 m2, .int .i64 m3, .int .i64 m4]) (t := 66) (by simp) 1
      have ye62 := St.cell h137 (b := e6) (cs := #[.int .i64 m0, .int .i64 m1, .int .i64 m2, .int .i64 m3, .int .i64 m4]) (t := 66) (by simp) 2
      have ye63 := St.cell h137 (b := e6) (cs := #[.int .i64 m0, .int .i64 m1, .int .i64 m2, .int .i64 m3, .int .i64 m4]) (t := 66) (by simp) 3
      have ye64 := St.cell h137 (b := e6) (cs := #[.int .i64 m0, .int .i64 m1, .int .i64 m2, .int .i64 m3, .int .i64 m4]) (t := 66) (by simp) 4
      simp only [z4, z5, z6] at ye60 ye61 ye62 ye63 ye64
      go_wp2_with fail
      exact ⟨⟨(.inr (.inr (.inr (.inl rfl)))), h137.sub (by intro x hx; simp at hx ⊢; rcases hx with rfl | rfl | rfl <;> simp)⟩, by decide⟩
    · as_aux_lemma =>
      obtain ⟨X, Y, E, hsr⟩ : ∃ X Y E, srcT ⟨s0, s1, s2, s3, s4, s5, s6⟩ u v = ⟨X, Y, E⟩ := ⟨_, _, _, rfl⟩
      obtain ⟨n0, n1, n2, n3, n4, hnd⟩ : ∃ n0 n1 n2 n3 n4, needT ⟨s0, s1, s2, s3, s4, s5, s6⟩ k0 k1 k2 k3 = ⟨n0, n1, n2, n3, n4⟩ := ⟨_, _, _, _, _, rfl⟩
      obtain ⟨m0, m1, m2, m3, m4, hbn⟩ : ∃ m0 m1 m2 m3 m4, boundsT ⟨s0, s1, s2, s3, s4, s5, s6⟩ k0 k1 k2 k3 = ⟨m0, m1, m2, m3, m4⟩ := ⟨_, _, _, _, _, rfl⟩
      have HS : Hid (∀ W, Calls Try.prog 30 #[av s0 s1 s2 s3 s4 s5 s6, tv u v] W fun en w' => en = .returned (.tuple #[tv X Y, .int .i64 E]) ∧ Below W.heap.size W w') := fun W => by
        have := sourceT_any s0 s1 s2 s3 s4 s5 s6 u v W; rw [hsr] at this; exact this
      have HN : Hid (∀ W, Calls Try.prog 31 #[av s0 s1 s2 s3 s4 s5 s6, rv k0 k1 k2 k3] W fun en w' => en = .returned (.tuple #[rv n0 n1 n2 n3, .int .i64 n4]) ∧ Below W.heap.size W w') := fun W => by
        have := needT_any s0 s1 s2 s3 s4 s5 s6 k0 k1 k2 k3 W; rw [hnd] at this; exact this
      have HB : Hid (∀ W, Calls Try.prog 32 #[av s0 s1 s2 s3 s4 s5 s6, rv k0 k1 k2 k3] W fun en w' => en = .returned (.tuple #[rv m0 m1 m2 m3, .int .i64 m4]) ∧ Below W.heap.size W w') := fun W => by
        have := boundsT_any s0 s1 s2 s3 s4 s5 s6 k0 k1 k2 k3 W; rw [hbn] at this; exact this
      have HRS : Hid (∀ W, Calls Try.prog 33 #[av s0 s1 s2 s3 s4 s5 s6, .int .i64 u, .int .i64 v] W fun en w' => en = .returned (.agg #[.int .i64 X, .int .i64 Y, .int .i64 E]) ∧ Below W.heap.size W w') := fun W => by
        have := refSourceT_any s0 s1 s2 s3 s4 s5 s6 u v W; rw [hsr] at this; exact this
      have HRN : Hid (∀ W, Calls Try.prog 34 #[av s0 s1 s2 s3 s4 s5 s6, rv k0 k1 k2 k3] W fun en w' => en = .returned (.agg #[.int .i64 n0, .int .i64 n1, .int .i64 n2, .int .i64 n3, .int .i64 n4]) ∧ Below W.heap.size W w') := fun W => by
        have := refNeedT_any s0 s1 s2 s3 s4 s5 s6 k0 k1 k2 k3 W; rw [hnd] at this; exact this
      have HRB : Hid (∀ W, Calls Try.prog 35 #[av s0 s1 s2 s3 s4 s5 s6, rv k0 k1 k2 k3] W fun en w' => en = .returned (.agg #[.int .i64 m0, .int .i64 m1, .int .i64 m2, .int .i64 m3, .int .i64 m4]) ∧ Below W.heap.size W w') := fun W => by
        have := refBoundsT_any s0 s1 s2 s3 s4 s5 s6 k0 k1 k2 k3 W; rw [hbn] at this; exact this
      clear hsr hnd hbn
      obtain ⟨_, _, _, _, _, _, _⟩ := HCA1.out _ (St.row hS (b := c6) (o := OA) (by simp))
      go_upto_region 14 with fail
      have h31 := hS.alloc (ao s0 s1 s2 s3 s4 s5 s6)
      generalize wr.heap.size = c31 at h31 ⊢
      generalize wr.alloc (ao s0 s1 s2 s3 s4 s5 s6) = w31 at h31 ⊢
      have HP32 : Hid (∀ V9, St w [(c31, ao s0 s1 s2 s3 s4 s5 s6), (c8, OP), (c7, OR), (c6, OA)] V9 → St w [(c31, ao s0 s1 s2 s3 s4 s5 s6), (c8, OP), (c7, OR), (c6, OA)] V9 ∧ AB V9 c31 s0 s1 s2 s3 s4 s5 s6 ∧ (V9.cell? ⟨c8, 2, none⟩ = some (.int .i64 u) ∧ V9.cell? ⟨c8, 3, none⟩ = some (.int .i64 v))) := fun V hV => ⟨hV, St.aff hV (by simp), HCP1.out V (hV.row (b := c8) (o := OP) (by simp))⟩
      go_cut [16, 17] (fun v8 v9 wx => ∃ b9, v8 = .pointer (some ⟨b9, 0, none⟩) ∧ v9 = .int .i64 E ∧ Hid (St w ((b9, pob X Y) :: [(c31, ao s0 s1 s2 s3 s4 s5 s6), (c8, OP), (c7, OR), (c6, OA)]) wx))
      case first => as_aux_lemma =>
        refine wp_region_held_drew (S := fun V9 => St w [(c31, ao s0 s1 s2 s3 s4 s5 s6), (c8, OP), (c7, OR), (c6, OA)] V9 ∧ AB V9 c31 s0 s1 s2 s3 s4 s5 s6 ∧ (V9.cell? ⟨c8, 2, none⟩ = some (.int .i64 u) ∧ V9.cell? ⟨c8, 3, none⟩ = some (.int .i64 v))) (by kernel_rfl) ?_ (fun hHeld => ?_)
        · exact HP32.out _ (h31.drew)
        have h310 := h31.drew
        refine wpAnyH_take (i := 0) (oi := o55) (v := ?_) rfl (by kernel_rfl) (by kernel_rfl) (by kernel_rfl) (fun _ _ _ h => h) (Or.inl ⟨by kernel_rfl, ?_⟩) (by assumption) ?_
        rotate_left 1
        focus (intro w hSw; (try dsimp only at hSw); go_simp; (try with_reducible rfl))
        try simp only [Act.put, z1, z2, z3]
        refine wpAnyH_take (i := 1) (oi := o62) (v := ?_) rfl (by kernel_rfl) (by kernel_rfl) (by kernel_rfl) (fun _ _ _ h => h) (Or.inl ⟨by kernel_rfl, ?_⟩) (by assumption) ?_
        rotate_left 1
        focus (intro w hSw; (try dsimp only at hSw); go_simp; (try with_reducible rfl))
        try simp only [Act.put, z1, z2, z3]
        refine wpAnyH_take (i := 2) (oi := o30) (v := (.int .i64 1)) rfl (by kernel_rfl) (by kernel_rfl) (by kernel_rfl) (fun _ _ _ h => h) (Or.inl ⟨by kernel_rfl, ?_⟩) (by assumption) ?_
        focus (intro w hSw; (try dsimp only at hSw); go_simp; try (first | rfl | decide))
        try simp only [Act.put, z1, z2, z3]
        refine wpAnyH_take (i := 3) (oi := o40) (v := ?_) rfl (by kernel_rfl) (by kernel_rfl) (by kernel_rfl) (fun _ _ _ h => h) (Or.inl ⟨by kernel_rfl, ?_⟩) (by assumption) ?_
        rotate_left 1
        focus (intro w hSw; (try dsimp only at hSw); go_simp; (try with_reducible rfl))
        try simp only [Act.put, z1, z2, z3]
        refine wpAnyH_take (i := 4) (oi := o44) (v := ?_) rfl (by kernel_rfl) (by kernel_rfl) (by kernel_rfl) (fun _ _ _ h => h) (Or.inl ⟨by kernel_rfl, ?_⟩) (by assumption) ?_
        rotate_left 1
        focus (intro w hSw; (try dsimp only at hSw); go_simp; (try with_reducible rfl))
        try simp only [Act.put, z1, z2, z3]
        refine wpAnyH_ready (rs := [5, 9]) (by kernel_rfl) (by simp) (AllReadyH.cons (o := o11) rfl (fun K hK => ?_) (AllReadyH.cons (o := o34) rfl (fun K hK => ?_) AllReadyH.nil))
        · (go_simp; (go_at_call 30; (refine (St.call h310 (HS.out _)).mono ?_); rintro e V1r14 ⟨rfl, h311r14⟩))
          refine hK.out _ _ ?_ (fun hHeld => ?_)
          · exact HP32.out _ (h311r14)
          clear hK K
          try simp only [Act.put, z1, z2, z3]
          refine wpAnyH_take (i := 6) (oi := o18) (v := ?_) rfl (by kernel_rfl) (by kernel_rfl) (by kernel_rfl) (fun _ _ _ h => h) (Or.inl ⟨by kernel_rfl, ?_⟩) (by assumption) ?_
          rotate_left 1
          focus (intro w hSw; (try dsimp only at hSw); go_simp; (try with_reducible rfl))
          try simp only [Act.put, z1, z2, z3]
          refine wpAnyH_take (i := 7) (oi := o21) (v := ?_) rfl (by kernel_rfl) (by kernel_rfl) (by kernel_rfl) (fun _ _ _ h => h) (Or.inl ⟨by kernel_rfl, ?_⟩) (by assumption) ?_
          rotate_left 1
          focus (intro w hSw; (try dsimp only at hSw); go_simp; (try with_reducible rfl))
          try simp only [Act.put, z1, z2, z3]
          refine wpAnyH_take (i := 8) (oi := o15) (v := ?_) rfl (by kernel_rfl) (by kernel_rfl) (by kernel_rfl) (fun _ _ _ h => h) (Or.inl ⟨by kernel_rfl, ?_⟩) (by assumption) ?_
          rotate_left 1
          focus (intro w hSw; (try dsimp only at hSw); go_simp; (try with_reducible rfl))
          try simp only [Act.put, z1, z2, z3]
          refine wpAnyH_ready (rs := [9]) (by kernel_rfl) (by simp) (AllReadyH.cons (o := o34) rfl (fun K hK => ?_) AllReadyH.nil)
          have hne9r14 := h311r14.ne
          have hle9r14 := h311r14.below.size
          have hlt9r14 := fun (b : Nat) (o : Obj) (hm : (b, o) ∈ _) => h311r14.lt hm
          have h312r14 := h311r14.alloc (.cells #[.int .i64 0, .int .i64 0] 49)
          refine wp_alloc_of 49 rfl _ (zero_pt _) ?_
          refine hK.out _ _ ?_ (fun hHeld => ?_)
          · exact HP32.out _ (h312r14.tl)
          clear hK K
          try simp only [Act.put, z1, z2, z3]
          refine wpAnyH_ready (rs := [10]) (by kernel_rfl) (by simp) (AllReadyH.cons (o := o1) rfl (fun K hK => ?_) AllReadyH.nil)
          have h313r14 := h312r14.rowset (ds := #[.int .i64 X, .int .i64 Y]) hle9r14 hne9r14
          refine wp_store_of 49 _ _ rfl (store_row 49 (cs := #[.int .i64 0, .int .i64 0]) (ds := #[.int .i64 X, .int .i64 Y]) (by kernel_rfl) rfl (by simp [Value.oneCell']) h312r14.hd) ?_
          refine hK.out _ _ ?_ (fun hHeld => ?_)
          · exact HP32.out _ (h313r14.tl)
          clear hK K
          try simp only [Act.put]
          refine wpAnyH_take (i := 11) (oi := o4) (v := ?_) rfl (by kernel_rfl) (by kernel_rfl) (by kernel_rfl) (fun _ _ _ h => h) (Or.inl ⟨by kernel_rfl, ?_⟩) (by assumption) ?_
          rotate_left 1
          focus (intro w hSw; (try dsimp only at hSw); go_simp; (try with_reducible rfl))
          try simp only [Act.put, z1, z2, z3]
          refine wpAnyH_done (by kernel_rfl) ?_ _
          have h9 := h313r14
          go_wp2_with fail
          go_meet
          case rel => exact ⟨_, rfl, rfl, h9⟩
        · have hne9r14 := h310.ne
          have hle9r14 := h310.below.size
          have hlt9r14 := fun (b : Nat) (o : Obj) (hm : (b, o) ∈ _) => h310.lt hm
          have h314r14 := h310.alloc (.cells #[.int .i64 0, .int .i64 0] 49)
          refine wp_alloc_of 49 rfl _ (zero_pt _) ?_
          refine hK.out _ _ ?_ (fun hHeld => ?_)
          · exact HP32.out _ (h314r14.tl)
          clear hK K
          try simp only [Act.put, z1, z2, z3]
          refine wpAnyH_ready (rs := [5]) (by kernel_rfl) (by simp) (AllReadyH.cons (o := o11) rfl (fun K hK => ?_) AllReadyH.nil)
          (go_simp; (go_at_call 30; (refine (St.call h314r14 (HS.out _)).mono ?_); rintro e V5r14 ⟨rfl, h315r14⟩))
          refine hK.out _ _ ?_ (fun hHeld => ?_)
          · exact HP32.out _ (h315r14.tl)
          clear hK K
          try simp only [Act.put, z1, z2, z3]
          refine wpAnyH_take (i := 6) (oi := o18) (v := ?_) rfl (by kernel_rfl) (by kernel_rfl) (by kernel_rfl) (fun _ _ _ h => h) (Or.inl ⟨by kernel_rfl, ?_⟩) (by assumption) ?_
          rotate_left 1
          focus (intro w hSw; (try dsimp only at hSw); go_simp; (try with_reducible rfl))
          try simp only [Act.put, z1, z2, z3]
          refine wpAnyH_take (i := 7) (oi := o21) (v := ?_) rfl (by kernel_rfl) (by kernel_rfl) (by kernel_rfl) (fun _ _ _ h => h) (Or.inl ⟨by kernel_rfl, ?_⟩) (by assumption) ?_
          rotate_left 1
          focus (intro w hSw; (try dsimp only at hSw); go_simp; (try with_reducible rfl))
          try simp only [Act.put, z1, z2, z3]
          refine wpAnyH_take (i := 8) (oi := o15) (v := ?_) rfl (by kernel_rfl) (by kernel_rfl) (by kernel_rfl) (fun _ _ _ h => h) (Or.inl ⟨by kernel_rfl, ?_⟩) (by assumption) ?_
          rotate_left 1
          focus (intro w hSw; (try dsimp only at hSw); go_simp; (try with_reducible rfl))
          try simp only [Act.put, z1, z2, z3]
          refine wpAnyH_ready (rs := [10]) (by kernel_rfl) (by simp) (AllReadyH.cons (o := o1) rfl (fun K hK => ?_) AllReadyH.nil)
          have h316r14 := h315r14.rowset (ds := #[.int .i64 X, .int .i64 Y]) hle9r14 hne9r14
          refine wp_store_of 49 _ _ rfl (store_row 49 (cs := #[.int .i64 0, .int .i64 0]) (ds := #[.int .i64 X, .int .i64 Y]) (by kernel_rfl) rfl (by simp [Value.oneCell']) h315r14.hd) ?_
          refine hK.out _ _ ?_ (fun hHeld => ?_)
          · exact HP32.out _ (h316r14.tl)
          clear hK K
          try simp only [Act.put]
          refine wpAnyH_take (i := 11) (oi := o4) (v := ?_) rfl (by kernel_rfl) (by kernel_rfl) (by kernel_rfl) (fun _ _ _ h => h) (Or.inl ⟨by kernel_rfl, ?_⟩) (by assumption) ?_
          rotate_left 1
          focus (intro w hSw; (try dsimp only at hSw); go_simp; (try with_reducible rfl))
          try simp only [Act.put, z1, z2, z3]
          refine wpAnyH_done (by kernel_rfl) ?_ _
          have h9 := h316r14
          go_wp2_with fail
          go_meet
          case rel => exact ⟨_, rfl, rfl, h9⟩
      obtain ⟨e1, rfl, rfl, HQ⟩ := hcut
      have h132 := HQ.out
      clear HQ HP32 h31
      go_upto_region 15 with fail
      have HP33 : Hid (∀ V9, St w [(e1, pob X Y), (c31, ao s0 s1 s2 s3 s4 s5 s6), (c8, OP), (c7, OR), (c6, OA)] V9 → St w [(e1, pob X Y), (c31, ao s0 s1 s2 s3 s4 s5 s6), (c8, OP), (c7, OR), (c6, OA)] V9 ∧ AB V9 c31 s0 s1 s2 s3 s4 s5 s6 ∧ (V9.cell? ⟨c7, 4, none⟩ = some (.int .i64 k0) ∧ V9.cell? ⟨c7, 5, none⟩ = some (.int .i64 k1) ∧ V9.cell? ⟨c7, 6, none⟩ = some (.int .i64 k2) ∧ V9.cell? ⟨c7, 7, none⟩ = some (.int .i64 k3))) := fun V hV => ⟨hV, St.aff hV (by simp), HCR1.out V (hV.row (b := c7) (o := OR) (by simp))⟩
      go_cut [18, 19] (fun v8 v9 wx => ∃ b9, v8 = .pointer (some ⟨b9, 0, none⟩) ∧ v9 = .int .i64 n4 ∧ Hid (St w ((b9, ro n0 n1 n2 n3) :: [(e1, pob X Y), (c31, ao s0 s1 s2 s3 s4 s5 s6), (c8, OP), (c7, OR), (c6, OA)]) wx))
      case first => as_aux_lemma =>
        refine wp_region_held_drew (S := fun V9 => St w [(e1, pob X Y), (c31, ao s0 s1 s2 s3 s4 s5 s6), (c8, OP), (c7, OR), (c6, OA)] V9 ∧ AB V9 c31 s0 s1 s2 s3 s4 s5 s6 ∧ (V9.cell? ⟨c7, 4, none⟩ = some (.int .i64 k0) ∧ V9.cell? ⟨c7, 5, none⟩ = some (.int .i64 k1) ∧ V9.cell? ⟨c7, 6, none⟩ = some (.int .i64 k2) ∧ V9.cell? ⟨c7, 7, none⟩ = some (.int .i64 k3))) (by kernel_rfl) ?_ (fun hHeld => ?_)
        · exact HP33.out _ (h132.drew)
        have h1320 := h132.drew
        refine wpAnyH_take (i := 0) (oi := o56) (v := ?_) rfl (by kernel_rfl) (by kernel_rfl) (by kernel_rfl) (fun _ _ _ h => h) (Or.inl ⟨by kernel_rfl, ?_⟩) (by assumption) ?_
        rotate_left 1
        focus (intro w hSw; (try dsimp only at hSw); go_simp; (try with_reducible rfl))
        try simp only [Act.put, z1, z2, z3]
        refine wpAnyH_take (i := 1) (oi := o63) (v := ?_) rfl (by kernel_rfl) (by kernel_rfl) (by kernel_rfl) (fun _ _ _ h => h) (Or.inl ⟨by kernel_rfl, ?_⟩) (by assumption) ?_
        rotate_left 1
        focus (intro w hSw; (try dsimp only at hSw); go_simp; (try with_reducible rfl))
        try simp only [Act.put, z1, z2, z3]
        refine wpAnyH_take (i := 2) (oi := o31) (v := (.int .i64 1)) rfl (by kernel_rfl) (by kernel_rfl) (by kernel_rfl) (fun _ _ _ h => h) (Or.inl ⟨by kernel_rfl, ?_⟩) (by assumption) ?_
        focus (intro w hSw; (try dsimp only at hSw); go_simp; try (first | rfl | decide))
        try simp only [Act.put, z1, z2, z3]
        refine wpAnyH_take (i := 3) (oi := o42) (v := ?_) rfl (by kernel_rfl) (by kernel_rfl) (by kernel_rfl) (fun _ _ _ h => h) (Or.inl ⟨by kernel_rfl, ?_⟩) (by assumption) ?_
        rotate_left 1
        focus (intro w hSw; (try dsimp only at hSw); go_simp; (try with_reducible rfl))
        try simp only [Act.put, z1, z2, z3]
        refine wpAnyH_take (i := 4) (oi := o47) (v := ?_) rfl (by kernel_rfl) (by kernel_rfl) (by kernel_rfl) (fun _ _ _ h => h) (Or.inl ⟨by kernel_rfl, ?_⟩) (by assumption) ?_
        rotate_left 1
        focus (intro w hSw; (try dsimp only at hSw); go_simp; (try with_reducible rfl))
        try simp only [Act.put, z1, z2, z3]
        refine wpAnyH_ready (rs := [5, 9]) (by kernel_rfl) (by simp) (AllReadyH.cons (o := o14) rfl (fun K hK => ?_) (AllReadyH.cons (o := o35) rfl (fun K hK => ?_) AllReadyH.nil))
        · (go_simp; (go_at_call 31; (refine (St.call h1320 (HN.out _)).mono ?_); rintro e V1r15 ⟨rfl, h1321r15⟩))
          refine hK.out _ _ ?_ (fun hHeld => ?_)
          · exact HP33.out _ (h1321r15)
          clear hK K
          try simp only [Act.put, z1, z2, z3]
          refine wpAnyH_take (i := 6) (oi := o19) (v := ?_) rfl (by kernel_rfl) (by kernel_rfl) (by kernel_rfl) (fun _ _ _ h => h) (Or.inl ⟨by kernel_rfl, ?_⟩) (by assumption) ?_
          rotate_left 1
          focus (intro w hSw; (try dsimp only at hSw); go_simp; (try with_reducible rfl))
          try simp only [Act.put, z1, z2, z3]
          refine wpAnyH_take (i := 7) (oi := o22) (v := ?_) rfl (by kernel_rfl) (by kernel_rfl) (by kernel_rfl) (fun _ _ _ h => h) (Or.inl ⟨by kernel_rfl, ?_⟩) (by assumption) ?_
          rotate_left 1
          focus (intro w hSw; (try dsimp only at hSw); go_simp; (try with_reducible rfl))
          try simp only [Act.put, z1, z2, z3]
          refine wpAnyH_take (i := 8) (oi := o16) (v := ?_) rfl (by kernel_rfl) (by kernel_rfl) (by kernel_rfl) (fun _ _ _ h => h) (Or.inl ⟨by kernel_rfl, ?_⟩) (by assumption) ?_
          rotate_left 1
          focus (intro w hSw; (try dsimp only at hSw); go_simp; (try with_reducible rfl))
          try simp only [Act.put, z1, z2, z3]
          refine wpAnyH_ready (rs := [9]) (by kernel_rfl) (by simp) (AllReadyH.cons (o := o35) rfl (fun K hK => ?_) AllReadyH.nil)
          have hne9r15 := h1321r15.ne
          have hle9r15 := h1321r15.below.size
          have hlt9r15 := fun (b : Nat) (o : Obj) (hm : (b, o) ∈ _) => h1321r15.lt hm
          have h1322r15 := h1321r15.alloc (.cells #[.int .i64 0, .int .i64 0, .int .i64 0, .int .i64 0] 51)
          refine wp_alloc_of 51 rfl _ (zero_rect _) ?_
          refine hK.out _ _ ?_ (fun hHeld => ?_)
          · exact HP33.out _ (h1322r15.tl)
          clear hK K
          try simp only [Act.put, z1, z2, z3]
          refine wpAnyH_ready (rs := [10]) (by kernel_rfl) (by simp) (AllReadyH.cons (o := o2) rfl (fun K hK => ?_) AllReadyH.nil)
          have h1323r15 := h1322r15.rowset (ds := #[.int .i64 n0, .int .i64 n1, .int .i64 n2, .int .i64 n3]) hle9r15 hne9r15
          refine wp_store_of 51 _ _ rfl (store_row 51 (cs := #[.int .i64 0, .int .i64 0, .int .i64 0, .int .i64 0]) (ds := #[.int .i64 n0, .int .i64 n1, .int .i64 n2, .int .i64 n3]) (by kernel_rfl) rfl (by simp [Value.oneCell']) h1322r15.hd) ?_
          refine hK.out _ _ ?_ (fun hHeld => ?_)
          · exact HP33.out _ (h1323r15.tl)
          clear hK K
          try simp only [Act.put]
          refine wpAnyH_take (i := 11) (oi := o5) (v := ?_) rfl (by kernel_rfl) (by kernel_rfl) (by kernel_rfl) (fun _ _ _ h => h) (Or.inl ⟨by kernel_rfl, ?_⟩) (by assumption) ?_
          rotate_left 1
          focus (intro w hSw; (try dsimp only at hSw); go_simp; (try with_reducible rfl))
          try simp only [Act.put, z1, z2, z3]
          refine wpAnyH_done (by kernel_rfl) ?_ _
          have h9 := h1323r15
          go_wp2_with fail
          go_meet
          case rel => exact ⟨_, rfl, rfl, h9⟩
        · have hne9r15 := h1320.ne
          have hle9r15 := h1320.below.size
          have hlt9r15 := fun (b : Nat) (o : Obj) (hm : (b, o) ∈ _) => h1320.lt hm
          have h1324r15 := h1320.alloc (.cells #[.int .i64 0, .int .i64 0, .int .i64 0, .int .i64 0] 51)
          refine wp_alloc_of 51 rfl _ (zero_rect _) ?_
          refine hK.out _ _ ?_ (fun hHeld => ?_)
          · exact HP33.out _ (h1324r15.tl)
          clear hK K
          try simp only [Act.put, z1, z2, z3]
          refine wpAnyH_ready (rs := [5]) (by kernel_rfl) (by simp) (AllReadyH.cons (o := o14) rfl (fun K hK => ?_) AllReadyH.nil)
          (go_simp; (go_at_call 31; (refine (St.call h1324r15 (HN.out _)).mono ?_); rintro e V5r15 ⟨rfl, h1325r15⟩))
          refine hK.out _ _ ?_ (fun hHeld => ?_)
          · exact HP33.out _ (h1325r15.tl)
          clear hK K
          try simp only [Act.put, z1, z2, z3]
          refine wpAnyH_take (i := 6) (oi := o19) (v := ?_) rfl (by kernel_rfl) (by kernel_rfl) (by kernel_rfl) (fun _ _ _ h => h) (Or.inl ⟨by kernel_rfl, ?_⟩) (by assumption) ?_
          rotate_left 1
          focus (intro w hSw; (try dsimp only at hSw); go_simp; (try with_reducible rfl))
          try simp only [Act.put, z1, z2, z3]
          refine wpAnyH_take (i := 7) (oi := o22) (v := ?_) rfl (by kernel_rfl) (by kernel_rfl) (by kernel_rfl) (fun _ _ _ h => h) (Or.inl ⟨by kernel_rfl, ?_⟩) (by assumption) ?_
          rotate_left 1
          focus (intro w hSw; (try dsimp only at hSw); go_simp; (try with_reducible rfl))
          try simp only [Act.put, z1, z2, z3]
          refine wpAnyH_take (i := 8) (oi := o16) (v := ?_) rfl (by kernel_rfl) (by kernel_rfl) (by kernel_rfl) (fun _ _ _ h => h) (Or.inl ⟨by kernel_rfl, ?_⟩) (by assumption) ?_
          rotate_left 1
          focus (intro w hSw; (try dsimp only at hSw); go_simp; (try with_reducible rfl))
          try simp only [Act.put, z1, z2, z3]
          refine wpAnyH_ready (rs := [10]) (by kernel_rfl) (by simp) (AllReadyH.cons (o := o2) rfl (fun K hK => ?_) AllReadyH.nil)
          have h1326r15 := h1325r15.rowset (ds := #[.int .i64 n0, .int .i64 n1, .int .i64 n2, .int .i64 n3]) hle9r15 hne9r15
          refine wp_store_of 51 _ _ rfl (store_row 51 (cs := #[.int .i64 0, .int .i64 0, .int .i64 0, .int .i64 0]) (ds := #[.int .i64 n0, .int .i64 n1, .int .i64 n2, .int .i64 n3]) (by kernel_rfl) rfl (by simp [Value.oneCell']) h1325r15.hd) ?_
          refine hK.out _ _ ?_ (fun hHeld => ?_)
          · exact HP33.out _ (h1326r15.tl)
          clear hK K
          try simp only [Act.put]
          refine wpAnyH_take (i := 11) (oi := o5) (v := ?_) rfl (by kernel_rfl) (by kernel_rfl) (by kernel_rfl) (fun _ _ _ h => h) (Or.inl ⟨by kernel_rfl, ?_⟩) (by assumption) ?_
          rotate_left 1
          focus (intro w hSw; (try dsimp only at hSw); go_simp; (try with_reducible rfl))
          try simp only [Act.put, z1, z2, z3]
          refine wpAnyH_done (by kernel_rfl) ?_ _
          have h9 := h1326r15
          go_wp2_with fail
          go_meet
          case rel => exact ⟨_, rfl, rfl, h9⟩
      obtain ⟨e2, rfl, rfl, HQ⟩ := hcut
      have h133 := HQ.out
      clear HQ HP33 h132
      go_upto_region 16 with fail
      have HP34 : Hid (∀ V9, St w [(e2, ro n0 n1 n2 n3), (e1, pob X Y), (c31, ao s0 s1 s2 s3 s4 s5 s6), (c8, OP), (c7, OR), (c6, OA)] V9 → St w [(e2, ro n0 n1 n2 n3), (e1, pob X Y), (c31, ao s0 s1 s2 s3 s4 s5 s6), (c8, OP), (c7, OR), (c6, OA)] V9 ∧ AB V9 c31 s0 s1 s2 s3 s4 s5 s6 ∧ (V9.cell? ⟨c7, 4, none⟩ = some (.int .i64 k0) ∧ V9.cell? ⟨c7, 5, none⟩ = some (.int .i64 k1) ∧ V9.cell? ⟨c7, 6, none⟩ = some (.int .i64 k2) ∧ V9.cell? ⟨c7, 7, none⟩ = some (.int .i64 k3))) := fun V hV => ⟨hV, St.aff hV (by simp), HCR1.out V (hV.row (b := c7) (o := OR) (by simp))⟩
      go_cut [20, 21] (fun v8 v9 wx => ∃ b9, v8 = .pointer (some ⟨b9, 0, none⟩) ∧ v9 = .int .i64 m4 ∧ Hid (St w ((b9, ro m0 m1 m2 m3) :: [(e2, ro n0 n1 n2 n3), (e1, pob X Y), (c31, ao s0 s1 s2 s3 s4 s5 s6), (c8, OP), (c7, OR), (c6, OA)]) wx))
      case first => as_aux_lemma =>
        refine wp_region_held_drew (S := fun V9 => St w [(e2, ro n0 n1 n2 n3), (e1, pob X Y), (c31, ao s0 s1 s2 s3 s4 s5 s6), (c8, OP), (c7, OR), (c6, OA)] V9 ∧ AB V9 c31 s0 s1 s2 s3 s4 s5 s6 ∧ (V9.cell? ⟨c7, 4, none⟩ = some (.int .i64 k0) ∧ V9.cell? ⟨c7, 5, none⟩ = some (.int .i64 k1) ∧ V9.cell? ⟨c7, 6, none⟩ = some (.int .i64 k2) ∧ V9.cell? ⟨c7, 7, none⟩ = some (.int .i64 k3))) (by kernel_rfl) ?_ (fun hHeld => ?_)
        · exact HP34.out _ (h133.drew)
        have h1330 := h133.drew
        refine wpAnyH_take (i := 0) (oi := o57) (v := ?_) rfl (by kernel_rfl) (by kernel_rfl) (by kernel_rfl) (fun _ _ _ h => h) (Or.inl ⟨by kernel_rfl, ?_⟩) (by assumption) ?_
        rotate_left 1
        focus (intro w hSw; (try dsimp only at hSw); go_simp; (try with_reducible rfl))
        try simp only [Act.put, z1, z2, z3]
        refine wpAnyH_take (i := 1) (oi := o64) (v := ?_) rfl (by kernel_rfl) (by kernel_rfl) (by kernel_rfl) (fun _ _ _ h => h) (Or.inl ⟨by kernel_rfl, ?_⟩) (by assumption) ?_
        rotate_left 1
        focus (intro w hSw; (try dsimp only at hSw); go_simp; (try with_reducible rfl))
        try simp only [Act.put, z1, z2, z3]
        refine wpAnyH_take (i := 2) (oi := o32) (v := (.int .i64 1)) rfl (by kernel_rfl) (by kernel_rfl) (by kernel_rfl) (fun _ _ _ h => h) (Or.inl ⟨by kernel_rfl, ?_⟩) (by assumption) ?_
        focus (intro w hSw; (try dsimp only at hSw); go_simp; try (first | rfl | decide))
        try simp only [Act.put, z1, z2, z3]
        refine wpAnyH_take (i := 3) (oi := o43) (v := ?_) rfl (by kernel_rfl) (by kernel_rfl) (by kernel_rfl) (fun _ _ _ h => h) (Or.inl ⟨by kernel_rfl, ?_⟩) (by assumption) ?_
        rotate_left 1
        focus (intro w hSw; (try dsimp only at hSw); go_simp; (try with_reducible rfl))
        try simp only [Act.put, z1, z2, z3]
        refine wpAnyH_take (i := 4) (oi := o48) (v := ?_) rfl (by kernel_rfl) (by kernel_rfl) (by kernel_rfl) (fun _ _ _ h => h) (Or.inl ⟨by kernel_rfl, ?_⟩) (by assumption) ?_
        rotate_left 1
        focus (intro w hSw; (try dsimp only at hSw); go_simp; (try with_reducible rfl))
        try simp only [Act.put, z1, z2, z3]
        refine wpAnyH_ready (rs := [5, 9]) (by kernel_rfl) (by simp) (AllReadyH.cons (o := o13) rfl (fun K hK => ?_) (AllReadyH.cons (o := o36) rfl (fun K hK => ?_) AllReadyH.nil))
        · (go_simp; (go_at_call 32; (refine (St.call h1330 (HB.out _)).mono ?_); rintro e V1r16 ⟨rfl, h1331r16⟩))
          refine hK.out _ _ ?_ (fun hHeld => ?_)
          · exact HP34.out _ (h1331r16)
          clear hK K
          try simp only [Act.put, z1, z2, z3]
          refine wpAnyH_take (i := 6) (oi := o20) (v := ?_) rfl (by kernel_rfl) (by kernel_rfl) (by kernel_rfl) (fun _ _ _ h => h) (Or.inl ⟨by kernel_rfl, ?_⟩) (by assumption) ?_
          rotate_left 1
          focus (intro w hSw; (try dsimp only at hSw); go_simp; (try with_reducible rfl))
          try simp only [Act.put, z1, z2, z3]
          refine wpAnyH_take (i := 7) (oi := o23) (v := ?_) rfl (by kernel_rfl) (by kernel_rfl) (by kernel_rfl) (fun _ _ _ h => h) (Or.inl ⟨by kernel_rfl, ?_⟩) (by assumption) ?_
          rotate_left 1
          focus (intro w hSw; (try dsimp only at hSw); go_simp; (try with_reducible rfl))
          try simp only [Act.put, z1, z2, z3]
          refine wpAnyH_take (i := 8) (oi := o17) (v := ?_) rfl (by kernel_rfl) (by kernel_rfl) (by kernel_rfl) (fun _ _ _ h => h) (Or.inl ⟨by kernel_rfl, ?_⟩) (by assumption) ?_
          rotate_left 1
          focus (intro w hSw; (try dsimp only at hSw); go_simp; (try with_reducible rfl))
          try simp only [Act.put, z1, z2, z3]
          refine wpAnyH_ready (rs := [9]) (by kernel_rfl) (by simp) (AllReadyH.cons (o := o36) rfl (fun K hK => ?_) AllReadyH.nil)
          have hne9r16 := h1331r16.ne
          have hle9r16 := h1331r16.below.size
          have hlt9r16 := fun (b : Nat) (o : Obj) (hm : (b, o) ∈ _) => h1331r16.lt hm
          have h1332r16 := h1331r16.alloc (.cells #[.int .i64 0, .int .i64 0, .int .i64 0, .int .i64 0] 51)
          refine wp_alloc_of 51 rfl _ (zero_rect _) ?_
          refine hK.out _ _ ?_ (fun hHeld => ?_)
          · exact HP34.out _ (h1332r16.tl)
          clear hK K
          try simp only [Act.put, z1, z2, z3]
          refine wpAnyH_ready (rs := [10]) (by kernel_rfl) (by simp) (AllReadyH.cons (o := o3) rfl (fun K hK => ?_) AllReadyH.nil)
          have h1333r16 := h1332r16.rowset (ds := #[.int .i64 m0, .int .i64 m1, .int .i64 m2, .int .i64 m3]) hle9r16 hne9r16
          refine wp_store_of 51 _ _ rfl (store_row 51 (cs := #[.int .i64 0, .int .i64 0, .int .i64 0, .int .i64 0]) (ds := #[.int .i64 m0, .int .i64 m1, .int .i64 m2, .int .i64 m3]) (by kernel_rfl) rfl (by simp [Value.oneCell']) h1332r16.hd) ?_
          refine hK.out _ _ ?_ (fun hHeld => ?_)
          · exact HP34.out _ (h1333r16.tl)
          clear hK K
          try simp only [Act.put]
          refine wpAnyH_take (i := 11) (oi := o6) (v := ?_) rfl (by kernel_rfl) (by kernel_rfl) (by kernel_rfl) (fun _ _ _ h => h) (Or.inl ⟨by kernel_rfl, ?_⟩) (by assumption) ?_
          rotate_left 1
          focus (intro w hSw; (try dsimp only at hSw); go_simp; (try with_reducible rfl))
          try simp only [Act.put, z1, z2, z3]
          refine wpAnyH_done (by kernel_rfl) ?_ _
          have h9 := h1333r16
          go_wp2_with fail
          go_meet
          case rel => exact ⟨_, rfl, rfl, h9⟩
        · have hne9r16 := h1330.ne
          have hle9r16 := h1330.below.size
          have hlt9r16 := fun (b : Nat) (o : Obj) (hm : (b, o) ∈ _) => h1330.lt hm
          have h1334r16 := h1330.alloc (.cells #[.int .i64 0, .int .i64 0, .int .i64 0, .int .i64 0] 51)
          refine wp_alloc_of 51 rfl _ (zero_rect _) ?_
          refine hK.out _ _ ?_ (fun hHeld => ?_)
          · exact HP34.out _ (h1334r16.tl)
          clear hK K
          try simp only [Act.put, z1, z2, z3]
          refine wpAnyH_ready (rs := [5]) (by kernel_rfl) (by simp) (AllReadyH.cons (o := o13) rfl (fun K hK => ?_) AllReadyH.nil)
          (go_simp; (go_at_call 32; (refine (St.call h1334r16 (HB.out _)).mono ?_); rintro e V5r16 ⟨rfl, h1335r16⟩))
          refine hK.out _ _ ?_ (fun hHeld => ?_)
          · exact HP34.out _ (h1335r16.tl)
          clear hK K
          try simp only [Act.put, z1, z2, z3]
          refine wpAnyH_take (i := 6) (oi := o20) (v := ?_) rfl (by kernel_rfl) (by kernel_rfl) (by kernel_rfl) (fun _ _ _ h => h) (Or.inl ⟨by kernel_rfl, ?_⟩) (by assumption) ?_
          rotate_left 1
          focus (intro w hSw; (try dsimp only at hSw); go_simp; (try with_reducible rfl))
          try simp only [Act.put, z1, z2, z3]
          refine wpAnyH_take (i := 7) (oi := o23) (v := ?_) rfl (by kernel_rfl) (by kernel_rfl) (by kernel_rfl) (fun _ _ _ h => h) (Or.inl ⟨by kernel_rfl, ?_⟩) (by assumption) ?_
          rotate_left 1
          focus (intro w hSw; (try dsimp only at hSw); go_simp; (try with_reducible rfl))
          try simp only [Act.put, z1, z2, z3]
          refine wpAnyH_take (i := 8) (oi := o17) (v := ?_) rfl (by kernel_rfl) (by kernel_rfl) (by kernel_rfl) (fun _ _ _ h => h) (Or.inl ⟨by kernel_rfl, ?_⟩) (by assumption) ?_
          rotate_left 1
          focus (intro w hSw; (try dsimp only at hSw); go_simp; (try with_reducible rfl))
          try simp only [Act.put, z1, z2, z3]
          refine wpAnyH_ready (rs := [10]) (by kernel_rfl) (by simp) (AllReadyH.cons (o := o3) rfl (fun K hK => ?_) AllReadyH.nil)
          have h1336r16 := h1335r16.rowset (ds := #[.int .i64 m0, .int .i64 m1, .int .i64 m2, .int .i64 m3]) hle9r16 hne9r16
          refine wp_store_of 51 _ _ rfl (store_row 51 (cs := #[.int .i64 0, .int .i64 0, .int .i64 0, .int .i64 0]) (ds := #[.int .i64 m0, .int .i64 m1, .int .i64 m2, .int .i64 m3]) (by kernel_rfl) rfl (by simp [Value.oneCell']) h1335r16.hd) ?_
          refine hK.out _ _ ?_ (fun hHeld => ?_)
          · exact HP34.out _ (h1336r16.tl)
          clear hK K
          try simp only [Act.put]
          refine wpAnyH_take (i := 11) (oi := o6) (v := ?_) rfl (by kernel_rfl) (by kernel_rfl) (by kernel_rfl) (fun _ _ _ h => h) (Or.inl ⟨by kernel_rfl, ?_⟩) (by assumption) ?_
          rotate_left 1
          focus (intro w hSw; (try dsimp only at hSw); go_simp; (try with_reducible rfl))
          try simp only [Act.put, z1, z2, z3]
          refine wpAnyH_done (by kernel_rfl) ?_ _
          have h9 := h1336r16
          go_wp2_with fail
          go_meet
          case rel => exact ⟨_, rfl, rfl, h9⟩
      obtain ⟨e3, rfl, rfl, HQ⟩ := hcut
      have h134 := HQ.out
      clear HQ HP34 h133
      go_upto_region 17 with fail
      have HP35 : Hid (∀ V9, St w [(e3, ro m0 m1 m2 m3), (e2, ro n0 n1 n2 n3), (e1, pob X Y), (c31, ao s0 s1 s2 s3 s4 s5 s6), (c8, OP), (c7, OR), (c6, OA)] V9 → St w [(e3, ro m0 m1 m2 m3), (e2, ro n0 n1 n2 n3), (e1, pob X Y), (c31, ao s0 s1 s2 s3 s4 s5 s6), (c8, OP), (c7, OR), (c6, OA)] V9 ∧ AB V9 c31 s0 s1 s2 s3 s4 s5 s6 ∧ (V9.cell? ⟨c8, 2, none⟩ = some (.int .i64 u) ∧ V9.cell? ⟨c8, 3, none⟩ = some (.int .i64 v))) := fun V hV => ⟨hV, St.aff hV (by simp), HCP1.out V (hV.row (b := c8) (o := OP) (by simp))⟩
      go_cut [22] (fun v8 wx => ∃ b9, v8 = .pointer (some ⟨b9, 0, none⟩) ∧ Hid (St w ((b9, (.cells #[.int .i64 X, .int .i64 Y, .int .i64 E] 63 : Obj)) :: [(e3, ro m0 m1 m2 m3), (e2, ro n0 n1 n2 n3), (e1, pob X Y), (c31, ao s0 s1 s2 s3 s4 s5 s6), (c8, OP), (c7, OR), (c6, OA)]) wx))
      case first => as_aux_lemma =>
        refine wp_region_held_drew (S := fun V9 => St w [(e3, ro m0 m1 m2 m3), (e2, ro n0 n1 n2 n3), (e1, pob X Y), (c31, ao s0 s1 s2 s3 s4 s5 s6), (c8, OP), (c7, OR), (c6, OA)] V9 ∧ AB V9 c31 s0 s1 s2 s3 s4 s5 s6 ∧ (V9.cell? ⟨c8, 2, none⟩ = some (.int .i64 u) ∧ V9.cell? ⟨c8, 3, none⟩ = some (.int .i64 v))) (by kernel_rfl) ?_ (fun hHeld => ?_)
        · exact HP35.out _ (h134.drew)
        have h1340 := h134.drew
        refine wpAnyH_take (i := 0) (oi := o58) (v := ?_) rfl (by kernel_rfl) (by kernel_rfl) (by kernel_rfl) (fun _ _ _ h => h) (Or.inl ⟨by kernel_rfl, ?_⟩) (by assumption) ?_
        rotate_left 1
        focus (intro w hSw; (try dsimp only at hSw); go_simp; (try with_reducible rfl))
        try simp only [Act.put, z1, z2, z3]
        refine wpAnyH_take (i := 1) (oi := o65) (v := ?_) rfl (by kernel_rfl) (by kernel_rfl) (by kernel_rfl) (fun _ _ _ h => h) (Or.inl ⟨by kernel_rfl, ?_⟩) (by assumption) ?_
        rotate_left 1
        focus (intro w hSw; (try dsimp only at hSw); go_simp; (try with_reducible rfl))
        try simp only [Act.put, z1, z2, z3]
        refine wpAnyH_take (i := 2) (oi := o33) (v := (.int .i64 1)) rfl (by kernel_rfl) (by kernel_rfl) (by kernel_rfl) (fun _ _ _ h => h) (Or.inl ⟨by kernel_rfl, ?_⟩) (by assumption) ?_
        focus (intro w hSw; (try dsimp only at hSw); go_simp; try (first | rfl | decide))
        try simp only [Act.put, z1, z2, z3]
        refine wpAnyH_take (i := 3) (oi := o41) (v := ?_) rfl (by kernel_rfl) (by kernel_rfl) (by kernel_rfl) (fun _ _ _ h => h) (Or.inl ⟨by kernel_rfl, ?_⟩) (by assumption) ?_
        rotate_left 1
        focus (intro w hSw; (try dsimp only at hSw); go_simp; (try with_reducible rfl))
        try simp only [Act.put, z1, z2, z3]
        refine wpAnyH_take (i := 4) (oi := o50) (v := ?_) rfl (by kernel_rfl) (by kernel_rfl) (by kernel_rfl) (fun _ _ _ h => h) (Or.inl ⟨by kernel_rfl, ?_⟩) (by assumption) ?_
        rotate_left 1
        focus (intro w hSw; (try dsimp only at hSw); go_simp; (try with_reducible rfl))
        try simp only [Act.put, z1, z2, z3]
        refine wpAnyH_take (i := 5) (oi := o52) (v := ?_) rfl (by kernel_rfl) (by kernel_rfl) (by kernel_rfl) (fun _ _ _ h => h) (Or.inl ⟨by kernel_rfl, ?_⟩) (by assumption) ?_
        rotate_left 1
        focus (intro w hSw; (try dsimp only at hSw); go_simp; (try with_reducible rfl))
        try simp only [Act.put, z1, z2, z3]
        refine wpAnyH_take (i := 6) (oi := o59) (v := ?_) rfl (by kernel_rfl) (by kernel_rfl) (by kernel_rfl) (fun _ _ _ h => h) (Or.inl ⟨by kernel_rfl, ?_⟩) (by assumption) ?_
        rotate_left 1
        focus (intro w hSw; (try dsimp only at hSw); go_simp; (try with_reducible rfl))
        try simp only [Act.put, z1, z2, z3]
        refine wpAnyH_take (i := 7) (oi := o27) (v := (.int .i64 1)) rfl (by kernel_rfl) (by kernel_rfl) (by kernel_rfl) (fun _ _ _ h => h) (Or.inl ⟨by kernel_rfl, ?_⟩) (by assumption) ?_
        focus (intro w hSw; (try dsimp only at hSw); go_simp; try (first | rfl | decide))
        try simp only [Act.put, z1, z2, z3]
        refine wpAnyH_take (i := 8) (oi := o37) (v := ?_) rfl (by kernel_rfl) (by kernel_rfl) (by kernel_rfl) (fun _ _ _ h => h) (Or.inl ⟨by kernel_rfl, ?_⟩) (by assumption) ?_
        rotate_left 1
        focus (intro w hSw; (try dsimp only at hSw); go_simp; (try with_reducible rfl))
        try simp only [Act.put, z1, z2, z3]
        refine wpAnyH_take (i := 9) (oi := o49) (v := ?_) rfl (by kernel_rfl) (by kernel_rfl) (by kernel_rfl) (fun _ _ _ h => h) (Or.inl ⟨by kernel_rfl, ?_⟩) (by assumption) ?_
        rotate_left 1
        focus (intro w hSw; (try dsimp only at hSw); go_simp; (try with_reducible rfl))
        try simp only [Act.put, z1, z2, z3]
        refine wpAnyH_take (i := 10) (oi := o51) (v := ?_) rfl (by kernel_rfl) (by kernel_rfl) (by kernel_rfl) (fun _ _ _ h => h) (Or.inl ⟨by kernel_rfl, ?_⟩) (by assumption) ?_
        rotate_left 1
        focus (intro w hSw; (try dsimp only at hSw); go_simp; (try with_reducible rfl))
        try simp only [Act.put, z1, z2, z3]
        refine wpAnyH_ready (rs := [11, 12]) (by kernel_rfl) (by simp) (AllReadyH.cons (o := o9) rfl (fun K hK => ?_) (AllReadyH.cons (o := o24) rfl (fun K hK => ?_) AllReadyH.nil))
        · (go_simp; (go_at_call 33; (refine (St.call h1340 (HRS.out _)).mono ?_); rintro e V1r17 ⟨rfl, h1341r17⟩))
          refine hK.out _ _ ?_ (fun hHeld => ?_)
          · exact HP35.out _ (h1341r17)
          clear hK K
          try simp only [Act.put, z1, z2, z3]
          refine wpAnyH_ready (rs := [12]) (by kernel_rfl) (by simp) (AllReadyH.cons (o := o24) rfl (fun K hK => ?_) AllReadyH.nil)
          have hne12r17 := h1341r17.ne
          have hle12r17 := h1341r17.below.size
          have hlt12r17 := fun (b : Nat) (o : Obj) (hm : (b, o) ∈ _) => h1341r17.lt hm
          have h1342r17 := h1341r17.alloc (.cells #[.int .i64 0, .int .i64 0, .int .i64 0] 63)
          refine wp_alloc_of 63 rfl _ (zero_pos _) ?_
          refine hK.out _ _ ?_ (fun hHeld => ?_)
          · exact HP35.out _ (h1342r17.tl)
          clear hK K
          try simp only [Act.put, z1, z2, z3]
          refine wpAnyH_ready (rs := [13]) (by kernel_rfl) (by simp) (AllReadyH.cons (o := o0) rfl (fun K hK => ?_) AllReadyH.nil)
          have h1343r17 := h1342r17.rowset (ds := #[.int .i64 X, .int .i64 Y, .int .i64 E]) hle12r17 hne12r17
          refine wp_store_of 63 _ _ rfl (store_row 63 (cs := #[.int .i64 0, .int .i64 0, .int .i64 0]) (ds := #[.int .i64 X, .int .i64 Y, .int .i64 E]) (by kernel_rfl) rfl (by simp [Value.oneCell']) h1342r17.hd) ?_
          refine hK.out _ _ ?_ (fun hHeld => ?_)
          · exact HP35.out _ (h1343r17.tl)
          clear hK K
          try simp only [Act.put]
          refine wpAnyH_done (by kernel_rfl) ?_ _
          have h9 := h1343r17
          go_wp2_with fail
          go_meet
          case rel => exact ⟨_, rfl, h9⟩
        · have hne12r17 := h1340.ne
          have hle12r17 := h1340.below.size
          have hlt12r17 := fun (b : Nat) (o : Obj) (hm : (b, o) ∈ _) => h1340.lt hm
          have h1344r17 := h1340.alloc (.cells #[.int .i64 0, .int .i64 0, .int .i64 0] 63)
          refine wp_alloc_of 63 rfl _ (zero_pos _) ?_
          refine hK.out _ _ ?_ (fun hHeld => ?_)
          · exact HP35.out _ (h1344r17.tl)
          clear hK K
          try simp only [Act.put, z1, z2, z3]
          refine wpAnyH_ready (rs := [11]) (by kernel_rfl) (by simp) (AllReadyH.cons (o := o9) rfl (fun K hK => ?_) AllReadyH.nil)
          (go_simp; (go_at_call 33; (refine (St.call h1344r17 (HRS.out _)).mono ?_); rintro e V5r17 ⟨rfl, h1345r17⟩))
          refine hK.out _ _ ?_ (fun hHeld => ?_)
          · exact HP35.out _ (h1345r17.tl)
          clear hK K
          try simp only [Act.put, z1, z2, z3]
          refine wpAnyH_ready (rs := [13]) (by kernel_rfl) (by simp) (AllReadyH.cons (o := o0) rfl (fun K hK => ?_) AllReadyH.nil)
          have h1346r17 := h1345r17.rowset (ds := #[.int .i64 X, .int .i64 Y, .int .i64 E]) hle12r17 hne12r17
          refine wp_store_of 63 _ _ rfl (store_row 63 (cs := #[.int .i64 0, .int .i64 0, .int .i64 0]) (ds := #[.int .i64 X, .int .i64 Y, .int .i64 E]) (by kernel_rfl) rfl (by simp [Value.oneCell']) h1345r17.hd) ?_
          refine hK.out _ _ ?_ (fun hHeld => ?_)
          · exact HP35.out _ (h1346r17.tl)
          clear hK K
          try simp only [Act.put]
          refine wpAnyH_done (by kernel_rfl) ?_ _
          have h9 := h1346r17
          go_wp2_with fail
          go_meet
          case rel => exact ⟨_, rfl, h9⟩
      obtain ⟨e4, rfl, HQ⟩ := hcut
      have h135 := HQ.out
      clear HQ HP35 h134
      go_upto_region 18 with fail
      have HP36 : Hid (∀ V9, St w [(e4, (.cells #[.int .i64 X, .int .i64 Y, .int .i64 E] 63 : Obj)), (e3, ro m0 m1 m2 m3), (e2, ro n0 n1 n2 n3), (e1, pob X Y), (c31, ao s0 s1 s2 s3 s4 s5 s6), (c8, OP), (c7, OR), (c6, OA)] V9 → St w [(e4, (.cells #[.int .i64 X, .int .i64 Y, .int .i64 E] 63 : Obj)), (e3, ro m0 m1 m2 m3), (e2, ro n0 n1 n2 n3), (e1, pob X Y), (c31, ao s0 s1 s2 s3 s4 s5 s6), (c8, OP), (c7, OR), (c6, OA)] V9 ∧ AB V9 c31 s0 s1 s2 s3 s4 s5 s6 ∧ (V9.cell? ⟨c7, 4, none⟩ = some (.int .i64 k0) ∧ V9.cell? ⟨c7, 5, none⟩ = some (.int .i64 k1) ∧ V9.cell? ⟨c7, 6, none⟩ = some (.int .i64 k2) ∧ V9.cell? ⟨c7, 7, none⟩ = some (.int .i64 k3))) := fun V hV => ⟨hV, St.aff hV (by simp), HCR1.out V (hV.row (b := c7) (o := OR) (by simp))⟩
      go_cut [23] (fun v8 wx => ∃ b9, v8 = .pointer (some ⟨b9, 0, none⟩) ∧ Hid (St w ((b9, (.cells #[.int .i64 n0, .int .i64 n1, .int .i64 n2, .int .i64 n3, .int .i64 n4] 66 : Obj)) :: [(e4, (.cells #[.int .i64 X, .int .i64 Y, .int .i64 E] 63 : Obj)), (e3, ro m0 m1 m2 m3), (e2, ro n0 n1 n2 n3), (e1, pob X Y), (c31, ao s0 s1 s2 s3 s4 s5 s6), (c8, OP), (c7, OR), (c6, OA)]) wx))
      case first => as_aux_lemma =>
        refine wp_region_held_drew (S := fun V9 => St w [(e4, (.cells #[.int .i64 X, .int .i64 Y, .int .i64 E] 63 : Obj)), (e3, ro m0 m1 m2 m3), (e2, ro n0 n1 n2 n3), (e1, pob X Y), (c31, ao s0 s1 s2 s3 s4 s5 s6), (c8, OP), (c7, OR), (c6, OA)] V9 ∧ AB V9 c31 s0 s1 s2 s3 s4 s5 s6 ∧ (V9.cell? ⟨c7, 4, none⟩ = some (.int .i64 k0) ∧ V9.cell? ⟨c7, 5, none⟩ = some (.int .i64 k1) ∧ V9.cell? ⟨c7, 6, none⟩ = some (.int .i64 k2) ∧ V9.cell? ⟨c7, 7, none⟩ = some (.int .i64 k3))) (by kernel_rfl) ?_ (fun hHeld => ?_)
        · exact HP36.out _ (h135.drew)
        have h1350 := h135.drew
        refine wpAnyH_take (i := 0) (oi := o53) (v := ?_) rfl (by kernel_rfl) (by kernel_rfl) (by kernel_rfl) (fun _ _ _ h => h) (Or.inl ⟨by kernel_rfl, ?_⟩) (by assumption) ?_
        rotate_left 1
        focus (intro w hSw; (try dsimp only at hSw); go_simp; (try with_reducible rfl))
        try simp only [Act.put, z1, z2, z3]
        refine wpAnyH_take (i := 1) (oi := o60) (v := ?_) rfl (by kernel_rfl) (by kernel_rfl) (by kernel_rfl) (fun _ _ _ h => h) (Or.inl ⟨by kernel_rfl, ?_⟩) (by assumption) ?_
        rotate_left 1
        focus (intro w hSw; (try dsimp only at hSw); go_simp; (try with_reducible rfl))
        try simp only [Act.put, z1, z2, z3]
        refine wpAnyH_take (i := 2) (oi := o28) (v := (.int .i64 1)) rfl (by kernel_rfl) (by kernel_rfl) (by kernel_rfl) (fun _ _ _ h => h) (Or.inl ⟨by kernel_rfl, ?_⟩) (by assumption) ?_
        focus (intro w hSw; (try dsimp only at hSw); go_simp; try (first | rfl | decide))
        try simp only [Act.put, z1, z2, z3]
        refine wpAnyH_take (i := 3) (oi := o38) (v := ?_) rfl (by kernel_rfl) (by kernel_rfl) (by kernel_rfl) (fun _ _ _ h => h) (Or.inl ⟨by kernel_rfl, ?_⟩) (by assumption) ?_
        rotate_left 1
        focus (intro w hSw; (try dsimp only at hSw); go_simp; (try with_reducible rfl))
        try simp only [Act.put, z1, z2, z3]
        refine wpAnyH_take (i := 4) (oi := o45) (v := ?_) rfl (by kernel_rfl) (by kernel_rfl) (by kernel_rfl) (fun _ _ _ h => h) (Or.inl ⟨by kernel_rfl, ?_⟩) (by assumption) ?_
        rotate_left 1
        focus (intro w hSw; (try dsimp only at hSw); go_simp; (try with_reducible rfl))
        try simp only [Act.put, z1, z2, z3]
        refine wpAnyH_ready (rs := [5, 6]) (by kernel_rfl) (by simp) (AllReadyH.cons (o := o12) rfl (fun K hK => ?_) (AllReadyH.cons (o := o25) rfl (fun K hK => ?_) AllReadyH.nil))
        · (go_simp; (go_at_call 34; (refine (St.call h1350 (HRN.out _)).mono ?_); rintro e V1r18 ⟨rfl, h1351r18⟩))
          refine hK.out _ _ ?_ (fun hHeld => ?_)
          · exact HP36.out _ (h1351r18)
          clear hK K
          try simp only [Act.put, z1, z2, z3]
          refine wpAnyH_ready (rs := [6]) (by kernel_rfl) (by simp) (AllReadyH.cons (o := o25) rfl (fun K hK => ?_) AllReadyH.nil)
          have hne6r18 := h1351r18.ne
          have hle6r18 := h1351r18.below.size
          have hlt6r18 := fun (b : Nat) (o : Obj) (hm : (b, o) ∈ _) => h1351r18.lt hm
          have h1352r18 := h1351r18.alloc (.cells #[.int .i64 0, .int .i64 0, .int .i64 0, .int .i64 0, .int .i64 0] 66)
          refine wp_alloc_of 66 rfl _ (zero_box _) ?_
          refine hK.out _ _ ?_ (fun hHeld => ?_)
          · exact HP36.out _ (h1352r18.tl)
          clear hK K
          try simp only [Act.put, z1, z2, z3]
          refine wpAnyH_ready (rs := [7]) (by kernel_rfl) (by simp) (AllReadyH.cons (o := o7) rfl (fun K hK => ?_) AllReadyH.nil)
          have h1353r18 := h1352r18.rowset (ds := #[.int .i64 n0, .int .i64 n1, .int .i64 n2, .int .i64 n3, .int .i64 n4]) hle6r18 hne6r18
          refine wp_store_of 66 _ _ rfl (store_row 66 (cs := #[.int .i64 0, .int .i64 0, .int .i64 0, .int .i64 0, .int .i64 0]) (ds := #[.int .i64 n0, .int .i64 n1, .int .i64 n2, .int .i64 n3, .int .i64 n4]) (by kernel_rfl) rfl (by simp [Value.oneCell']) h1352r18.hd) ?_
          refine hK.out _ _ ?_ (fun hHeld => ?_)
          · exact HP36.out _ (h1353r18.tl)
          clear hK K
          try simp only [Act.put]
          refine wpAnyH_done (by kernel_rfl) ?_ _
          have h9 := h1353r18
          go_wp2_with fail
          go_meet
          case rel => exact ⟨_, rfl, h9⟩
        · have hne6r18 := h1350.ne
          have hle6r18 := h1350.below.size
          have hlt6r18 := fun (b : Nat) (o : Obj) (hm : (b, o) ∈ _) => h1350.lt hm
          have h1354r18 := h1350.alloc (.cells #[.int .i64 0, .int .i64 0, .int .i64 0, .int .i64 0, .int .i64 0] 66)
          refine wp_alloc_of 66 rfl _ (zero_box _) ?_
          refine hK.out _ _ ?_ (fun hHeld => ?_)
          · exact HP36.out _ (h1354r18.tl)
          clear hK K
          try simp only [Act.put, z1, z2, z3]
          refine wpAnyH_ready (rs := [5]) (by kernel_rfl) (by simp) (AllReadyH.cons (o := o12) rfl (fun K hK => ?_) AllReadyH.nil)
          (go_simp; (go_at_call 34; (refine (St.call h1354r18 (HRN.out _)).mono ?_); rintro e V5r18 ⟨rfl, h1355r18⟩))
          refine hK.out _ _ ?_ (fun hHeld => ?_)
          · exact HP36.out _ (h1355r18.tl)
          clear hK K
          try simp only [Act.put, z1, z2, z3]
          refine wpAnyH_ready (rs := [7]) (by kernel_rfl) (by simp) (AllReadyH.cons (o := o7) rfl (fun K hK => ?_) AllReadyH.nil)
          have h1356r18 := h1355r18.rowset (ds := #[.int .i64 n0, .int .i64 n1, .int .i64 n2, .int .i64 n3, .int .i64 n4]) hle6r18 hne6r18
          refine wp_store_of 66 _ _ rfl (store_row 66 (cs := #[.int .i64 0, .int .i64 0, .int .i64 0, .int .i64 0, .int .i64 0]) (ds := #[.int .i64 n0, .int .i64 n1, .int .i64 n2, .int .i64 n3, .int .i64 n4]) (by kernel_rfl) rfl (by simp [Value.oneCell']) h1355r18.hd) ?_
          refine hK.out _ _ ?_ (fun hHeld => ?_)
          · exact HP36.out _ (h1356r18.tl)
          clear hK K
          try simp only [Act.put]
          refine wpAnyH_done (by kernel_rfl) ?_ _
          have h9 := h1356r18
          go_wp2_with fail
          go_meet
          case rel => exact ⟨_, rfl, h9⟩
      obtain ⟨e5, rfl, HQ⟩ := hcut
      have h136 := HQ.out
      clear HQ HP36 h135
      go_upto_region 19 with fail
      have HP37 : Hid (∀ V9, St w [(e5, (.cells #[.int .i64 n0, .int .i64 n1, .int .i64 n2, .int .i64 n3, .int .i64 n4] 66 : Obj)), (e4, (.cells #[.int .i64 X, .int .i64 Y, .int .i64 E] 63 : Obj)), (e3, ro m0 m1 m2 m3), (e2, ro n0 n1 n2 n3), (e1, pob X Y), (c31, ao s0 s1 s2 s3 s4 s5 s6), (c8, OP), (c7, OR), (c6, OA)] V9 → St w [(e5, (.cells #[.int .i64 n0, .int .i64 n1, .int .i64 n2, .int .i64 n3, .int .i64 n4] 66 : Obj)), (e4, (.cells #[.int .i64 X, .int .i64 Y, .int .i64 E] 63 : Obj)), (e3, ro m0 m1 m2 m3), (e2, ro n0 n1 n2 n3), (e1, pob X Y), (c31, ao s0 s1 s2 s3 s4 s5 s6), (c8, OP), (c7, OR), (c6, OA)] V9 ∧ AB V9 c31 s0 s1 s2 s3 s4 s5 s6 ∧ (V9.cell? ⟨c7, 4, none⟩ = some (.int .i64 k0) ∧ V9.cell? ⟨c7, 5, none⟩ = some (.int .i64 k1) ∧ V9.cell? ⟨c7, 6, none⟩ = some (.int .i64 k2) ∧ V9.cell? ⟨c7, 7, none⟩ = some (.int .i64 k3))) := fun V hV => ⟨hV, St.aff hV (by simp), HCR1.out V (hV.row (b := c7) (o := OR) (by simp))⟩
      go_cut [24] (fun v8 wx => ∃ b9, v8 = .pointer (some ⟨b9, 0, none⟩) ∧ Hid (St w ((b9, (.cells #[.int .i64 m0, .int .i64 m1, .int .i64 m2, .int .i64 m3, .int .i64 m4] 66 : Obj)) :: [(e5, (.cells #[.int .i64 n0, .int .i64 n1, .int .i64 n2, .int .i64 n3, .int .i64 n4] 66 : Obj)), (e4, (.cells #[.int .i64 X, .int .i64 Y, .int .i64 E] 63 : Obj)), (e3, ro m0 m1 m2 m3), (e2, ro n0 n1 n2 n3), (e1, pob X Y), (c31, ao s0 s1 s2 s3 s4 s5 s6), (c8, OP), (c7, OR), (c6, OA)]) wx))
      case first => as_aux_lemma =>
        refine wp_region_held_drew (S := fun V9 => St w [(e5, (.cells #[.int .i64 n0, .int .i64 n1, .int .i64 n2, .int .i64 n3, .int .i64 n4] 66 : Obj)), (e4, (.cells #[.int .i64 X, .int .i64 Y, .int .i64 E] 63 : Obj)), (e3, ro m0 m1 m2 m3), (e2, ro n0 n1 n2 n3), (e1, pob X Y), (c31, ao s0 s1 s2 s3 s4 s5 s6), (c8, OP), (c7, OR), (c6, OA)] V9 ∧ AB V9 c31 s0 s1 s2 s3 s4 s5 s6 ∧ (V9.cell? ⟨c7, 4, none⟩ = some (.int .i64 k0) ∧ V9.cell? ⟨c7, 5, none⟩ = some (.int .i64 k1) ∧ V9.cell? ⟨c7, 6, none⟩ = some (.int .i64 k2) ∧ V9.cell? ⟨c7, 7, none⟩ = some (.int .i64 k3))) (by kernel_rfl) ?_ (fun hHeld => ?_)
        · exact HP37.out _ (h136.drew)
        have h1360 := h136.drew
        refine wpAnyH_take (i := 0) (oi := o54) (v := ?_) rfl (by kernel_rfl) (by kernel_rfl) (by kernel_rfl) (fun _ _ _ h => h) (Or.inl ⟨by kernel_rfl, ?_⟩) (by assumption) ?_
        rotate_left 1
        focus (intro w hSw; (try dsimp only at hSw); go_simp; (try with_reducible rfl))
        try simp only [Act.put, z1, z2, z3]
        refine wpAnyH_take (i := 1) (oi := o61) (v := ?_) rfl (by kernel_rfl) (by kernel_rfl) (by kernel_rfl) (fun _ _ _ h => h) (Or.inl ⟨by kernel_rfl, ?_⟩) (by assumption) ?_
        rotate_left 1
        focus (intro w hSw; (try dsimp only at hSw); go_simp; (try with_reducible rfl))
        try simp only [Act.put, z1, z2, z3]
        refine wpAnyH_take (i := 2) (oi := o29) (v := (.int .i64 1)) rfl (by kernel_rfl) (by kernel_rfl) (by kernel_rfl) (fun _ _ _ h => h) (Or.inl ⟨by kernel_rfl, ?_⟩) (by assumption) ?_
        focus (intro w hSw; (try dsimp only at hSw); go_simp; try (first | rfl | decide))
        try simp only [Act.put, z1, z2, z3]
        refine wpAnyH_take (i := 3) (oi := o39) (v := ?_) rfl (by kernel_rfl) (by kernel_rfl) (by kernel_rfl) (fun _ _ _ h => h) (Or.inl ⟨by kernel_rfl, ?_⟩) (by assumption) ?_
        rotate_left 1
        focus (intro w hSw; (try dsimp only at hSw); go_simp; (try with_reducible rfl))
        try simp only [Act.put, z1, z2, z3]
        refine wpAnyH_take (i := 4) (oi := o46) (v := ?_) rfl (by kernel_rfl) (by kernel_rfl) (by kernel_rfl) (fun _ _ _ h => h) (Or.inl ⟨by kernel_rfl, ?_⟩) (by assumption) ?_
        rotate_left 1
        focus (intro w hSw; (try dsimp only at hSw); go_simp; (try with_reducible rfl))
        try simp only [Act.put, z1, z2, z3]
        refine wpAnyH_ready (rs := [5, 6]) (by kernel_rfl) (by simp) (AllReadyH.cons (o := o10) rfl (fun K hK => ?_) (AllReadyH.cons (o := o26) rfl (fun K hK => ?_) AllReadyH.nil))
        · (go_simp; (go_at_call 35; (refine (St.call h1360 (HRB.out _)).mono ?_); rintro e V1r19 ⟨rfl, h1361r19⟩))
          refine hK.out _ _ ?_ (fun hHeld => ?_)
          · exact HP37.out _ (h1361r19)
          clear hK K
          try simp only [Act.put, z1, z2, z3]
          refine wpAnyH_ready (rs := [6]) (by kernel_rfl) (by simp) (AllReadyH.cons (o := o26) rfl (fun K hK => ?_) AllReadyH.nil)
          have hne6r19 := h1361r19.ne
          have hle6r19 := h1361r19.below.size
          have hlt6r19 := fun (b : Nat) (o : Obj) (hm : (b, o) ∈ _) => h1361r19.lt hm
          have h1362r19 := h1361r19.alloc (.cells #[.int .i64 0, .int .i64 0, .int .i64 0, .int .i64 0, .int .i64 0] 66)
          refine wp_alloc_of 66 rfl _ (zero_box _) ?_
          refine hK.out _ _ ?_ (fun hHeld => ?_)
          · exact HP37.out _ (h1362r19.tl)
          clear hK K
          try simp only [Act.put, z1, z2, z3]
          refine wpAnyH_ready (rs := [7]) (by kernel_rfl) (by simp) (AllReadyH.cons (o := o8) rfl (fun K hK => ?_) AllReadyH.nil)
          have h1363r19 := h1362r19.rowset (ds := #[.int .i64 m0, .int .i64 m1, .int .i64 m2, .int .i64 m3, .int .i64 m4]) hle6r19 hne6r19
          refine wp_store_of 66 _ _ rfl (store_row 66 (cs := #[.int .i64 0, .int .i64 0, .int .i64 0, .int .i64 0, .int .i64 0]) (ds := #[.int .i64 m0, .int .i64 m1, .int .i64 m2, .int .i64 m3, .int .i64 m4]) (by kernel_rfl) rfl (by simp [Value.oneCell']) h1362r19.hd) ?_
          refine hK.out _ _ ?_ (fun hHeld => ?_)
          · exact HP37.out _ (h1363r19.tl)
          clear hK K
          try simp only [Act.put]
          refine wpAnyH_done (by kernel_rfl) ?_ _
          have h9 := h1363r19
          go_wp2_with fail
          go_meet
          case rel => exact ⟨_, rfl, h9⟩
        · have hne6r19 := h1360.ne
          have hle6r19 := h1360.below.size
          have hlt6r19 := fun (b : Nat) (o : Obj) (hm : (b, o) ∈ _) => h1360.lt hm
          have h1364r19 := h1360.alloc (.cells #[.int .i64 0, .int .i64 0, .int .i64 0, .int .i64 0, .int .i64 0] 66)
          refine wp_alloc_of 66 rfl _ (zero_box _) ?_
          refine hK.out _ _ ?_ (fun hHeld => ?_)
          · exact HP37.out _ (h1364r19.tl)
          clear hK K
          try simp only [Act.put, z1, z2, z3]
          refine wpAnyH_ready (rs := [5]) (by kernel_rfl) (by simp) (AllReadyH.cons (o := o10) rfl (fun K hK => ?_) AllReadyH.nil)
          (go_simp; (go_at_call 35; (refine (St.call h1364r19 (HRB.out _)).mono ?_); rintro e V5r19 ⟨rfl, h1365r19⟩))
          refine hK.out _ _ ?_ (fun hHeld => ?_)
          · exact HP37.out _ (h1365r19.tl)
          clear hK K
          try simp only [Act.put, z1, z2, z3]
          refine wpAnyH_ready (rs := [7]) (by kernel_rfl) (by simp) (AllReadyH.cons (o := o8) rfl (fun K hK => ?_) AllReadyH.nil)
          have h1366r19 := h1365r19.rowset (ds := #[.int .i64 m0, .int .i64 m1, .int .i64 m2, .int .i64 m3, .int .i64 m4]) hle6r19 hne6r19
          refine wp_store_of 66 _ _ rfl (store_row 66 (cs := #[.int .i64 0, .int .i64 0, .int .i64 0, .int .i64 0, .int .i64 0]) (ds := #[.int .i64 m0, .int .i64 m1, .int .i64 m2, .int .i64 m3, .int .i64 m4]) (by kernel_rfl) rfl (by simp [Value.oneCell']) h1365r19.hd) ?_
          refine hK.out _ _ ?_ (fun hHeld => ?_)
          · exact HP37.out _ (h1366r19.tl)
          clear hK K
          try simp only [Act.put]
          refine wpAnyH_done (by kernel_rfl) ?_ _
          have h9 := h1366r19
          go_wp2_with fail
          go_meet
          case rel => exact ⟨_, rfl, h9⟩
      obtain ⟨e6, rfl, HQ⟩ := hcut
      have h137 := HQ.out
      clear HQ HP37 h136
      go_upto_region 20 with fail
      obtain ⟨_, _⟩ := St.pt h137 (b := e1) (x := X) (y := Y) (by simp)
      obtain ⟨_, _, _, _⟩ := St.rect h137 (b := e2) (x0 := n0) (x1 := n1) (x2 := n2) (x3 := n3) (by simp)
      obtain ⟨_, _, _, _⟩ := St.rect h137 (b := e3) (x0 := m0) (x1 := m1) (x2 := m2) (x3 := m3) (by simp)
      have ye40 := St.cell h137 (b := e4) (cs := #[.int .i64 X, .int .i64 Y, .int .i64 E]) (t := 63) (by simp) 0
      have ye41 := St.cell h137 (b := e4) (cs := #[.int .i64 X, .int .i64 Y, .int .i64 E]) (t := 63) (by simp) 1
      have ye42 := St.cell h137 (b := e4) (cs := #[.int .i64 X, .int .i64 Y, .int .i64 E]) (t := 63) (by simp) 2
      simp only [z4, z5, z6] at ye40 ye41 ye42
      have ye50 := St.cell h137 (b := e5) (cs := #[.int .i64 n0, .int .i64 n1, .int .i64 n2, .int .i64 n3, .int .i64 n4]) (t := 66) (by simp) 0
      have ye51 := St.cell h137 (b := e5) (cs := #[.int .i64 n0, .int .i64 n1, .int .i64 n2, .int .i64 n3, .int .i64 n4]) (t := 66) (by simp) 1
      have ye52 := St.cell h137 (b := e5) (cs := #[.int .i64 n0, .int .i64 n1, .int .i64 n2, .int .i64 n3, .int .i64 n4]) (t := 66) (by simp) 2
      have ye53 := St.cell h137 (b := e5) (cs := #[.int .i64 n0, .int .i64 n1, .int .i64 n2, .int .i64 n3, .int .i64 n4]) (t := 66) (by simp) 3
      have ye54 := St.cell h137 (b := e5) (cs := #[.int .i64 n0, .int .i64 n1, .int .i64 n2, .int .i64 n3, .int .i64 n4]) (t := 66) (by simp) 4
      simp only [z4, z5, z6] at ye50 ye51 ye52 ye53 ye54
      have ye60 := St.cell h137 (b := e6) (cs := #[.int .i64 m0, .int .i64 m1, .int .i64 m2, .int .i64 m3, .int .i64 m4]) (t := 66) (by simp) 0
      have ye61 := St.cell h137 (b := e6) (cs := #[.int .i64 m0, .int .i64 m1, .int .i64 m2, .int .i64 m3, .int .i64 m4]) (t := 66) (by simp) 1
      have ye62 := St.cell h137 (b := e6) (cs := #[.int .i64 m0, .int .i64 m1, .int .i64 m2, .int .i64 m3, .int .i64 m4]) (t := 66) (by simp) 2
      have ye63 := St.cell h137 (b := e6) (cs := #[.int .i64 m0, .int .i64 m1, .int .i64 m2, .int .i64 m3, .int .i64 m4]) (t := 66) (by simp) 3
      have ye64 := St.cell h137 (b := e6) (cs := #[.int .i64 m0, .int .i64 m1, .int .i64 m2, .int .i64 m3, .int .i64 m4]) (t := 66) (by simp) 4
      simp only [z4, z5, z6] at ye60 ye61 ye62 ye63 ye64
      go_wp2_with fail
      exact ⟨⟨(.inr (.inr (.inr (.inr rfl)))), h137.sub (by intro x hx; simp at hx ⊢; rcases hx with rfl | rfl | rfl <;> simp)⟩, by decide⟩
    · go_wp2
      go_ret
      subst hb0
      exact ⟨rfl, hS.below⟩

set_option maxRecDepth 100000 in
theorem lifted (os : Os) (started : os.Started) (H : Type) (enc : TypeId × Value → H) :
    ReturnsInHanded {} Try.checked os 5 .any (Rows.affineSamplesSpec.pre6 enc Try.prog Try.f5 Rows.affineSamplesRow.domain false) (Rows.affineSamplesSpec.post enc Try.prog Try.f5 false true false false) := by
  refine returnsInHanded_of_change_sized (C := Try.checked) own started (by kernel_rfl) Try.func5
    (ChangeSpec.witness6 (enc := enc) (C := Try.checked) false ⟨#[], #[.agg #[.int .i64 0, .int .i64 0, .int .i64 0, .int .i64 0, .int .i64 0, .int .i64 0, .int .i64 0, .int .i64 0, .int .i64 0, .int .i64 0, .int .i64 0, .int .i64 0, .int .i64 0], .agg #[.int .i64 0, .int .i64 0, .int .i64 0, .int .i64 0, .int .i64 0, .int .i64 0, .int .i64 0]], []⟩ 8 (by kernel_rfl) (by kernel_rfl) (by kernel_rfl) (by kernel_rfl)) ?_
  intro W base args ds gs before hval0 hW _ _ _
  have hval : ∀ (j : Nat) t v, Try.f5.params[j]? = some t → args[j]? = some v → Value.okWide Try.prog W .any base t v := hval0
  have hW' := hW
  obtain ⟨p, q, hA0, hV, rfl, hfz, hnd⟩ := hW
  have hA : DataW.TrodAll enc Try.prog W 0 (fun _ => true) true Try.f5.params.toList args.toList ds p := hA0
  rw [Try.params5] at hA hval
  obtain ⟨v0, v1, d0, d1, p0, p1, rfl, rfl, rfl, h0, h1⟩ := trodAll_two hA
  obtain ⟨rfl, rfl⟩ := trodVars_none hV
  obtain ⟨p0, p1, p2, p3, p4, p5, p6, p7, p8, p9, p10, p11, p12, rfl⟩ := op_gouachelaw09_Case (hval 0 53 v0 rfl rfl)
  obtain ⟨q0, q1, q2, q3, q4, q5, q6, rfl⟩ := op__7_int (hval 1 26 v1 rfl rfl)
  refine (walk p0 p1 p2 p3 p4 p5 p6 p7 p8 p9 p10 p11 p12 q0 q1 q2 q3 q4 q5 q6 W).mono fun en W' ⟨he, hb⟩ => ?_
  subst he
  exact ⟨_, rfl, law_post hW' rfl (by kernel_rfl) rfl (by intro t ht; rw [Try.params5] at ht; simp at ht; rcases ht with rfl | rfl <;> exact ⟨by kernel_rfl, of_decide_eq_true (by kernel_rfl)⟩) hb⟩

theorem holds : Rows.AffineSamplesSaid :=
  OpenClaim.holds_of_wide 5 Try.f5 rfl rfl rfl rfl rfl rfl rfl ⟨rfl, rfl, rfl, rfl, rfl⟩ rfl rfl rfl rfl rfl (by kernel_rfl) Try.func5 (by kernel_rfl)
    (of_decide_eq_true (by kernel_rfl)) (by unfold Func.isWrapper; first | (rw [if_pos (by decide +kernel)]; kernel_rfl) | (rw [if_neg (by decide +kernel)]; exact ⟨rfl, rfl⟩))
    (fun os started H enc _ => lifted os started H enc)
end Go.Proofs.Ytgipfcpkphmbpaa.F.ALSamples
