/-
  OctetOrder: for all integers a and b, the 8-byte encodings of their low 62 bits compare like the numbers. No conditions.
-/
import Derived.Test.YtgalkcfcpkkjgaaLaw
import Derived.Test.YtgalkcfcpkkjgaaSane
namespace Go.Proofs.Ytgalkcfcpkkjgaa.Order
open Go.ChangeShapes Go.WideShapes Go.ChangeAt Go.RowKit

theorem be_foldl (l : List UInt8) (n : Nat) : l.foldl (fun n b => n * 256 + b.toNat) n = n * 256 ^ l.length + Leb.be l := by
  induction l generalizing n with
  | nil => simp [Leb.be]
  | cons b l ih =>
    rw [List.foldl_cons, ih, List.length_cons]
    have h2 : Leb.be (b :: l) = (0 * 256 + b.toNat) * 256 ^ l.length + Leb.be l := by
      unfold Leb.be; rw [List.foldl_cons]; exact ih _
    rw [h2, Nat.pow_succ, Nat.add_mul, Nat.zero_mul, Nat.zero_add, show n * (256 ^ l.length * 256) = n * 256 * 256 ^ l.length from by ac_rfl, Nat.add_assoc]
theorem be_cons (b : UInt8) (l : List UInt8) : Leb.be (b :: l) = b.toNat * 256 ^ l.length + Leb.be l := by
  have := be_foldl l (0 * 256 + b.toNat)
  unfold Leb.be; rw [List.foldl_cons, this]; simp [Leb.be]
theorem less_be : ∀ (x y : List UInt8), x.length = y.length → Op.bytesLess x y = decide (Leb.be x < Leb.be y)
  | [], [], _ => by simp [Op.bytesLess, Leb.be]
  | a :: x, b :: y, h => by
    have hl : x.length = y.length := by simpa using h
    have ih := less_be x y hl
    have hx := Leb.be_lt x
    have hy := Leb.be_lt y
    rw [hl] at hx
    simp only [Op.bytesLess, ih, be_cons, hl]
    have e1 : (a < b) ↔ a.toNat < b.toNat := Iff.rfl
    have e2 : (a = b) ↔ a.toNat = b.toNat := UInt8.toNat_inj.symm
    rw [Bool.eq_iff_iff]
    simp only [Bool.or_eq_true, Bool.and_eq_true, decide_eq_true_eq, beq_iff_eq, e1, e2]
    generalize 256 ^ y.length = q at hx hy
    constructor
    · rintro (h | ⟨h1, h2⟩)
      · have := Nat.mul_le_mul_right q (show a.toNat + 1 ≤ b.toNat from h)
        rw [Nat.add_mul] at this; omega
      · rw [h1]; omega
    · intro h
      rcases Nat.lt_trichotomy a.toNat b.toNat with h1 | h1 | h1
      · exact .inl h1
      · rw [h1] at h; exact .inr ⟨h1, by omega⟩
      · have := Nat.mul_le_mul_right q (show b.toNat + 1 ≤ a.toNat from h1)
        rw [Nat.add_mul] at this; omega

theorem less_put {x y : Nat} (hx : x < 256 ^ 8) (hy : y < 256 ^ 8) : Op.bytesLess (str (Leb.putN x 8)).toList (str (Leb.putN y 8)).toList = decide ((x : Int) < (y : Int)) := by
  rw [ByteArray.toList_eq, ByteArray.toList_eq, str_toList, str_toList, less_be _ _ (by rw [Leb.putN_len, Leb.putN_len]), Leb.be_put, Leb.be_put, Nat.mod_eq_of_lt hx, Nat.mod_eq_of_lt hy]
  simp
theorem same_put {x y : Nat} (hx : x < 256 ^ 8) (hy : y < 256 ^ 8) : ((str (Leb.putN x 8)).toList == (str (Leb.putN y 8)).toList) = ((x : Int) == (y : Int)) := by
  rw [ByteArray.toList_eq, ByteArray.toList_eq, str_toList, str_toList, Bool.eq_iff_iff]
  simp only [beq_iff_eq]
  constructor
  · intro h
    have := congrArg Leb.be h
    rw [Leb.be_put, Leb.be_put, Nat.mod_eq_of_lt hx, Nat.mod_eq_of_lt hy] at this
    rw [this]
  · intro h; rw [show x = y from by omega]

theorem i64_mask (k : Nat) (hk : k ≤ 62) (n : Int) : bits .and .i64 n ((2 ^ k - 1 : Nat) : Int) = n % ((2 ^ k : Nat) : Int) := by
  have hp : 2 ^ k ≤ 2 ^ 62 := Nat.pow_le_pow_right (by omega) hk
  have hp0 := Nat.two_pow_pos k
  have hm : (BitVec.ofInt 64 ((2 ^ k - 1 : Nat) : Int)).toNat = 2 ^ k - 1 := by
    rw [BitVec.ofInt_natCast, BitVec.toNat_ofNat]; exact Nat.mod_eq_of_lt (by omega)
  have key : (BitVec.ofInt 64 n &&& BitVec.ofInt 64 ((2 ^ k - 1 : Nat) : Int)).toNat = (n % ((2 ^ 64 : Nat) : Int)).toNat % 2 ^ k := by
    rw [BitVec.toNat_and, BitVec.toNat_ofInt, hm, Nat.and_two_pow_sub_one_eq_mod]
  have hn : (((n % ((2 ^ 64 : Nat) : Int)).toNat % 2 ^ k : Nat) : Int) = n % ((2 ^ k : Nat) : Int) := by
    rw [Int.natCast_emod, Int.toNat_of_nonneg (by omega)]
    exact Int.emod_emod_of_dvd n (Int.natCast_dvd_natCast.2 (Nat.pow_dvd_pow 2 (by omega)))
  show IntKind.i64.wrap ((BitVec.ofInt 64 n &&& BitVec.ofInt 64 ((2 ^ k - 1 : Nat) : Int)).toNat : Nat) = _
  rw [key, hn]
  have h1 : 0 ≤ n % ((2 ^ k : Nat) : Int) := Int.emod_nonneg _ (by omega)
  have h2 : n % ((2 ^ k : Nat) : Int) < ((2 ^ k : Nat) : Int) := Int.emod_lt_of_pos _ (by omega)
  exact IntWalk.i64_in _ ⟨by omega, by omega⟩

theorem put8 (x : Nat) (hx : x < 4611686018427387904) (w : World) : Calls Try.prog 14 #[.int .i64 x, .int .i64 8] w fun e w' => e = .returned (.string (str (Leb.putN x 8))) ∧ Below w.heap.size w w' := by
  have h := put_any x 8 w
  rw [u64of_nat (by omega), show (clampI 8).toNat = 8 from rfl] at h
  exact h

set_option maxHeartbeats 1000000 in
set_option maxRecDepth 100000 in
theorem walk (a b : Int) (w : World) : Calls Try.prog 6 #[.int .i64 a, .int .i64 b] w fun e w' => e = .returned (.bool true) ∧ Below w.heap.size w w' := by
  have hxa := i64_mask 62 (by omega) a
  have hxb := i64_mask 62 (by omega) b
  obtain ⟨x, hx, hx2⟩ : ∃ x : Nat, bits .and .i64 a 4611686018427387903 = (x : Int) ∧ x < 4611686018427387904 := ⟨(a % 4611686018427387904).toNat, by rw [show (4611686018427387903 : Int) = ((2 ^ 62 - 1 : Nat) : Int) from rfl, hxa]; omega, by omega⟩
  obtain ⟨y, hy, hy2⟩ : ∃ y : Nat, bits .and .i64 b 4611686018427387903 = (y : Int) ∧ y < 4611686018427387904 := ⟨(b % 4611686018427387904).toNat, by rw [show (4611686018427387903 : Int) = ((2 ^ 62 - 1 : Nat) : Int) from rfl, hxb]; omega, by omega⟩
  have e256 : (256 : Nat) ^ 8 = 18446744073709551616 := rfl
  have hl := less_put (x := x) (y := y) (by omega) (by omega)
  have he := same_put (x := x) (y := y) (by omega) (by omega)
  clear hxa hxb e256
  go_enter Try.func6, Try.ntmps6
  go_wp2_with (first
    | (go_at_call 13; (with_reducible refine (sane_any _).mono ?_); rintro e w' ⟨rfl, hb⟩)
    | (go_at_call 14; (with_reducible refine (Below.call (w0 := w) ?_ (put8 _ (by assumption) _)).mono ?_); (focus assumption); rintro e w' ⟨rfl, hb⟩))
  go_ret
  exact ⟨rfl, by assumption⟩

set_option maxRecDepth 100000 in
theorem lifted (os : Os) (started : os.Started) (H : Type) (enc : TypeId × Value → H) :
    ReturnsInHanded {} Try.checked os 6 .any (Rows.octetOrderSpec.pre6 enc Try.prog Try.f6 Rows.octetOrderRow.domain false) (Rows.octetOrderSpec.post enc Try.prog Try.f6 false true false false) := by
  refine returnsInHanded_of_change_sized (C := Try.checked) own started (by kernel_rfl) Try.func6
    (ChangeSpec.witness6 (enc := enc) (C := Try.checked) false ⟨#[], #[.int .i64 0, .int .i64 0], []⟩ 8 (by kernel_rfl) (by kernel_rfl) (by kernel_rfl) (by kernel_rfl)) ?_
  intro W base args ds gs before hval0 hW _ _ _
  have hval : ∀ (j : Nat) t v, Try.f6.params[j]? = some t → args[j]? = some v → Value.okWide Try.prog W .any base t v := hval0
  have hW' := hW
  obtain ⟨p, q, hA0, hV, rfl, hfz, hnd⟩ := hW
  have hA : DataW.TrodAll enc Try.prog W 0 (fun _ => true) true Try.f6.params.toList args.toList ds p := hA0
  rw [Try.params6] at hA hval
  obtain ⟨v0, v1, d0, d1, p0, p1, rfl, rfl, rfl, h0, h1⟩ := trodAll_two hA
  obtain ⟨rfl, rfl⟩ := trodVars_none hV
  obtain ⟨a, rfl, rfl, rfl, wa⟩ := open_int Try.underlying3 (hval 0 3 v0 rfl rfl) h0
  obtain ⟨b, rfl, rfl, rfl, wb⟩ := open_int Try.underlying3 (hval 1 3 v1 rfl rfl) h1
  refine (walk a b W).mono fun e W' ⟨he, hb⟩ => ?_
  subst he
  exact ⟨_, rfl, law_post hW' rfl (by kernel_rfl) rfl (by intro t ht; rw [Try.params6] at ht; simp at ht; subst ht; exact ⟨by kernel_rfl, of_decide_eq_true (by kernel_rfl)⟩) hb⟩

theorem holds : Rows.OctetOrderSaid :=
  OpenClaim.holds_of_wide 6 Try.f6 rfl rfl rfl rfl rfl rfl rfl ⟨rfl, rfl, rfl, rfl, rfl⟩ rfl rfl rfl rfl rfl (by kernel_rfl) Try.func6 (by kernel_rfl)
    (of_decide_eq_true (by kernel_rfl)) (by unfold Func.isWrapper; first | (rw [if_pos (by decide +kernel)]; kernel_rfl) | (rw [if_neg (by decide +kernel)]; exact ⟨rfl, rfl⟩))
    (fun os started H enc _ => lifted os started H enc)
end Go.Proofs.Ytgalkcfcpkkjgaa.Order
