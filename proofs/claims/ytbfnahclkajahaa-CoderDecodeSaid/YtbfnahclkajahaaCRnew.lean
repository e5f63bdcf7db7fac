/-
  NewReader, readByte, isWhole (contracts).
-/
import Derived.Test.YtbfnahclkajahaaCBitR
namespace Go.Proofs.Ytbfnahclkajahaa.C
open Go.RowKit Go.Shelf
set_option maxRecDepth 100000
variable {W w w' : World} {L : List (Nat × Obj)}

theorem sBuildR {ops : Array Oper} {rest : List Oper} {d : Option Tmp} {ty : TypeId} {pp : String} {af : Array Edge} {a : Act} {Q : Exit → Act → World → Prop} {w : World} (s : ByteArray) (z : Array Value) (hx : a.eval (.tmp 5) = .string s)
    (hl : (Instr.build 70 #[(2, .string s)]).run Try.prog w = .ok (.agg z) w) (h : wpList Try.prog ops Q rest (a.put d (.agg z)) w) :
    wpList Try.prog ops Q ({ dst := d, op := .build 70 #[(2, .tmp 5)], type := ty, pos := pp, after := af, guard := none } :: rest) a w :=
  wpList_plain rfl fun K hK => by
    unfold Oper.wp execOp
    simp only [List.map_toArray, List.map_cons, List.map_nil, hx, Sem.run_bind, hl, Result.andThen_ok, Sem.run_pure]
    exact hK _ _ h
theorem built1R (s : ByteArray) (w : World) : (Instr.build 70 #[(2, .string s)]).run Try.prog w = .ok (.agg (mc (dc c0.p) (iv c0.lo c0.hi (rr s 0 0)))) w := by kernel_rfl
theorem built0R (w : World) : (Instr.build 70 #[]).run Try.prog w = .ok (.agg (mc (dc c0.p) (iv c0.lo c0.hi (rr ByteArray.empty 0 0)))) w := by kernel_rfl
/-- the code behind the first bytes -/
def pre (f : Nat → Nat) : Nat → Nat
  | 0 => 0
  | j + 1 => (pre f j * 256 + f j) % 4294967296
theorem pre_zero (f : Nat → Nat) : pre f 0 = 0 := rfl
theorem pre_succ (f : Nat → Nat) (j : Nat) : pre f (j + 1) = (pre f j * 256 + f j) % 4294967296 := rfl
theorem pre4 {f : Nat → Nat} (h : Byt f) : pre f 4 = val f 0 := by
  have h0 := h 0; have h1 := h 1; have h2 := h 2; have h3 := h 3
  simp only [pre, val, Nat.zero_add]
  omega
set_option maxHeartbeats 2000000 in
theorem newR_any (s : ByteArray) (w : World) (h : HS W L w) : Calls Try.prog 25 #[.string s] w fun e w' => ∃ b, e = .returned (.pointer (some ⟨b, 0, none⟩)) ∧ HS W ((b, rob c0 s 0) :: L) w' := by
  obtain ⟨z, hz⟩ : ∃ z, z = mc (dc c0.p) (iv c0.lo c0.hi (rr s 0 0)) := ⟨_, rfl⟩
  have HB : Hid (∀ V, (Instr.build 70 #[(2, .string s)]).run Try.prog V = .ok (.agg z) V) := fun V => by rw [hz]; exact built1R s V
  have H1 : Hid (HS W ((w.heap.size, .cells z 70) :: L) (w.alloc (.cells z 70))) := h.alloc _
  have HZ := Lib.hid hz
  clear hz h
  go_enter Try.func25, Try.ntmps25
  go_wp2_with ((with_reducible refine sBuildR s z ?_ (HB.out _) ?_); focus rfl)
  generalize w.alloc (Obj.cells z 70) = w1 at H1 ⊢
  generalize w.heap.size = b at H1 ⊢
  have H2 : Hid (HS W ((b, rmob (dc c0.p) c0.lo c0.hi s (pre (sx s.data.toList) 0) 0) :: L) w1) := by
    have h := H1.out
    rw [HZ.out] at h
    rw [pre_zero]
    exact h
  clear HZ HB H1
  go_loopw [4, 8] (fun _ i V => ∃ j : Nat, j ≤ 4 ∧ i = .int .i64 (j : Int) ∧ Hid (HS W ((b, rmob (dc c0.p) c0.lo c0.hi s (pre (sx s.data.toList) j) 0) :: L) V)) (fun _ i _ => 4 - (intOf i).toNat)
  case atStart => exact ⟨0, by omega, rfl, H2⟩
  case round =>
    obtain ⟨j, hj, rfl, HT⟩ := hrel
    clear H2
    by_cases hlt : j < 4
    · go_wp2_with (go_at_call 42; refine (push_any b j 0 _ _ _ _ s _ HT.out).mono ?_; rintro e w2 ⟨rfl, h2⟩; have H2 := Lib.hid h2; clear h2)
      go_roundw
      case rel => exact ⟨j + 1, by omega, by go_num, Lib.hid (by have := H2.out; rwa [← pre_succ] at this)⟩
      case measure => simp [intOf]; omega
    · obtain rfl : j = 4 := by omega
      go_wp2_with fail
      go_ret
      refine ⟨b, rfl, ?_⟩
      have := HT.out
      rwa [pre4 (sx_byt _)] at this
set_option maxHeartbeats 2000000 in
theorem readByte_any (b n : Nat) (c : Cd) (s : ByteArray) (w : World) (ok : Ok c) (h : HS W ((b, rob c s n) :: L) w) (hn : n ≤ 700000) :
    Calls Try.prog 31 #[.pointer (some ⟨b, 0, none⟩)] w fun e w' => e = .returned (.int .u8 ((UInt8.ofNat (rbyt (sx s.data.toList) c n).x).toNat : Int)) ∧
      HS W ((b, rob (rbyt (sx s.data.toList) c n).c s (rbyt (sx s.data.toList) c n).n) :: L) w' := by
  have hbd : ∀ j, j ≤ 8 → (rit (sx s.data.toList) j ⟨c, n, 1⟩).n ≤ n + 4 * j := by
    intro j
    induction j with
    | zero => intro _; exact Nat.le_refl _
    | succ j ih =>
      intro hj
      have h1 := ih (by omega)
      have h2 := out_len (rit_ok (sx s.data.toList) j ⟨c, n, 1⟩ ok) (rit (sx s.data.toList) j ⟨c, n, 1⟩).x (rbit (rit (sx s.data.toList) j ⟨c, n, 1⟩).c (sx s.data.toList) (rit (sx s.data.toList) j ⟨c, n, 1⟩).n (rit (sx s.data.toList) j ⟨c, n, 1⟩).x)
      show (rit (sx s.data.toList) j ⟨c, n, 1⟩).n + (out _ _ _).length ≤ _
      omega
  have H : Hid (HS W ((b, rob (rit (sx s.data.toList) 0 ⟨c, n, 1⟩).c s (rit (sx s.data.toList) 0 ⟨c, n, 1⟩).n) :: L) w) := h
  have HBD := Lib.hid hbd
  clear h hbd
  go_enter Try.func31, Try.ntmps31
  go_wp2_with fail
  go_loopw [3, 4] (fun x i V => ∃ (j a : Nat), j ≤ 8 ∧ x = .int .i64 (a : Int) ∧ i = .int .i64 (j : Int) ∧ Hid (a = (rit (sx s.data.toList) j ⟨c, n, 1⟩).x ∧ HS W ((b, rob (rit (sx s.data.toList) j ⟨c, n, 1⟩).c s (rit (sx s.data.toList) j ⟨c, n, 1⟩).n) :: L) V)) (fun _ i _ => 8 - (intOf i).toNat)
  case atStart => exact ⟨0, 1, by omega, rfl, rfl, Lib.hid ⟨rfl, H.out⟩⟩
  case round =>
    obtain ⟨j, x, hj, rfl, rfl, HT⟩ := hrel
    clear H
    have hx := rit_x (sx s.data.toList) c n j
    rw [← HT.out.1] at hx
    by_cases hlt : j < 8
    · have hx1 : x < 256 := Nat.lt_of_lt_of_le hx.2 (Nat.pow_le_pow_right (n := 2) (by omega) (show j + 1 ≤ 8 by omega))
      have hbl := rbit_lt (rit (sx s.data.toList) j ⟨c, n, 1⟩).c (sx s.data.toList) (rit (sx s.data.toList) j ⟨c, n, 1⟩).n x
      have HC : Hid (∀ V, HS W ((b, rob (rit (sx s.data.toList) j ⟨c, n, 1⟩).c s (rit (sx s.data.toList) j ⟨c, n, 1⟩).n) :: L) V → Calls Try.prog 28 #[.pointer (some ⟨b, 0, none⟩), .int .i64 x] V fun e w' => e = .returned (.int .i64 (rbit (rit (sx s.data.toList) j ⟨c, n, 1⟩).c (sx s.data.toList) (rit (sx s.data.toList) j ⟨c, n, 1⟩).n x : Nat)) ∧
          HS W ((b, rob (rit (sx s.data.toList) (j + 1) ⟨c, n, 1⟩).c s (rit (sx s.data.toList) (j + 1) ⟨c, n, 1⟩).n) :: L) w') := fun V hV => by
        have h := bitR_any b _ (x : Int) _ s V (rit_ok (sx s.data.toList) j ⟨c, n, 1⟩ ok) hV (by have := HBD.out j (by omega); omega)
        rw [ctx_nat hx1] at h
        have e := HT.out.1
        refine h.mono ?_
        rintro e2 w' ⟨h1, h2⟩
        refine ⟨h1, ?_⟩
        rw [e] at h2
        exact h2
      have HE : Hid (2 * x + rbit (rit (sx s.data.toList) j ⟨c, n, 1⟩).c (sx s.data.toList) (rit (sx s.data.toList) j ⟨c, n, 1⟩).n x = (rit (sx s.data.toList) (j + 1) ⟨c, n, 1⟩).x) := by
        have e := HT.out.1
        rw [e]; exact Lib.hid rfl
      have HX := Lib.hid hx1
      clear hx hx1
      generalize rbit (rit (sx s.data.toList) j ⟨c, n, 1⟩).c (sx s.data.toList) (rit (sx s.data.toList) j ⟨c, n, 1⟩).n x = y at *
      go_wp2_with (first
        | (go_at_call 28; refine (HC.out _ HT.out.2).mono ?_; rintro e w2 ⟨rfl, h2⟩; have H2 := Lib.hid h2; clear h2)
        | (go_at_call 46; refine (below_any x y _ (by have := HX.out; omega) hbl).mono ?_; rintro e w3 ⟨rfl, rfl⟩))
      go_roundw
      case rel => exact ⟨j + 1, 2 * x + y, by omega, rfl, by go_num, Lib.hid ⟨HE.out, H2.out⟩⟩
      case measure => simp [intOf]; omega
    · obtain rfl : j = 8 := by omega
      have hu := u8_of x
      go_wp2_with fail
      go_ret
      have e := HT.out.1
      rw [show rbyt (sx s.data.toList) c n = rit (sx s.data.toList) 8 ⟨c, n, 1⟩ from rfl, ← e]
      exact ⟨ret_int (by omega), HT.out.2⟩
end Go.Proofs.Ytbfnahclkajahaa.C
