/-
  Equality of pixels and of tiles.
-/
import Derived.Test.YtjaipjgnchpjcaaTSt
namespace Go.Proofs.Ytjaipjgnchpjcaa.T
open Go.RowKit
variable {W w w' : World} {L : List (Nat × Obj)}

theorem eq_u8 (d : Nat) (a b : Int) (w : World) : (Op.equalIn (d + 1) 5 (.int .u8 a) (.int .u8 b)).run Try.prog w = .ok (a == b) w := run_equalIn_int w d _ _ _ a b Try.underlying5
def peq (p q : Px) : Bool := p.r == q.r && (p.g == q.g && (p.b == q.b && p.a == q.a))
theorem peq_iff (p q : Px) : peq p q = true ↔ p = q := by
  cases p; cases q; simp [peq]
instance : DecidableEq Px := fun p q => decidable_of_iff _ (peq_iff p q)
theorem peq_eq (p q : Px) : peq p q = decide (p = q) := by
  rw [Bool.eq_iff_iff, peq_iff]; simp
set_option maxRecDepth 100000 in
theorem eq_px (d : Nat) (p q : Px) (w : World) : (Op.equalIn (d + 1 + 1) 23 p.v q.v).run Try.prog w = .ok (peq p q) w := by
  have hf : Try.prog.fieldsOf 23 = Try.prog.fieldsOf 23 := rfl
  rw [run_equalIn_struct w (d + 1) 23 _ _ (by kernel_rfl) (by kernel_rfl)]
  have hfl : (Try.prog.fieldsOf 23).toList.map (fun f => (f.name, f.type, f.offset)) = [("R", 5, 0), ("G", 5, 1), ("B", 5, 2), ("A", 5, 3)] := by kernel_rfl
  generalize (Try.prog.fieldsOf 23).toList = fs at hfl
  obtain ⟨f0, r0, rfl, h0, e0⟩ := List.map_eq_cons_iff.1 hfl
  obtain ⟨f1, r1, rfl, h1, e1⟩ := List.map_eq_cons_iff.1 e0
  obtain ⟨f2, r2, rfl, h2, e2⟩ := List.map_eq_cons_iff.1 e1
  obtain ⟨f3, r3, rfl, h3, e3⟩ := List.map_eq_cons_iff.1 e2
  obtain rfl := List.map_eq_nil_iff.1 e3
  simp only [Prod.mk.injEq] at h0 h1 h2 h3
  have p0 : ∀ x y z u : Int, ∀ V, (part 5 #[Value.int .u8 x, .int .u8 y, .int .u8 z, .int .u8 u] 0).run Try.prog V = .ok (.int .u8 x) V := fun _ _ _ _ _ => rfl
  have p1 : ∀ x y z u : Int, ∀ V, (part 5 #[Value.int .u8 x, .int .u8 y, .int .u8 z, .int .u8 u] 1).run Try.prog V = .ok (.int .u8 y) V := fun _ _ _ _ _ => rfl
  have p2 : ∀ x y z u : Int, ∀ V, (part 5 #[Value.int .u8 x, .int .u8 y, .int .u8 z, .int .u8 u] 2).run Try.prog V = .ok (.int .u8 z) V := fun _ _ _ _ _ => rfl
  have p3 : ∀ x y z u : Int, ∀ V, (part 5 #[Value.int .u8 x, .int .u8 y, .int .u8 z, .int .u8 u] 3).run Try.prog V = .ok (.int .u8 u) V := fun _ _ _ _ _ => rfl
  obtain ⟨x, y, z, u⟩ := p
  obtain ⟨x', y', z', u'⟩ := q
  simp only [Op.eqFields, h0.1, h0.2.1, h0.2.2, h1.1, h1.2.1, h1.2.2, h2.1, h2.2.1, h2.2.2, h3.1, h3.2.1, h3.2.2]
  unfold peq
  cases a0 : x == x' <;> cases a1 : y == y' <;> cases a2 : z == z' <;> cases a3 : u == u' <;>
    simp only [ne_eq, String.reduceEq, not_false_eq_true, if_true, Sem.run_bind, p0, p1, p2, p3, eq_u8, a0, a1, a2, a3, Result.andThen_ok, Sem.run_ite, Sem.run_pure, Bool.not_true, Bool.not_false, Bool.false_eq_true, if_false, Bool.and_true, Bool.and_false]
def teq (f g : Nat → Px) : Bool := (List.range 64).all fun i => peq (f i) (g i)
theorem teq_iff (f g : Nat → Px) : teq f g = true ↔ ∀ i, i < 64 → f i = g i := by
  unfold teq
  rw [List.all_eq_true]
  simp only [List.mem_range, peq_iff]
theorem teq_true {f g : Nat → Px} (h : ∀ i, i < 64 → f i = g i) : teq f g = true := (teq_iff f g).2 h
theorem part_px (f : Nat → Px) (i : Nat) (hi : i < 64) (V : World) : (part 23 (tc f) (i * 4)).run Try.prog V = .ok (f i).v V := by
  have ha : (isAgg 23).run Try.prog V = .ok true V := by kernel_rfl
  have hs : (sizeOf 23).run Try.prog V = .ok 4 V := by kernel_rfl
  have he : (tc f).extract (i * 4) (i * 4 + 4) = (pl (f i)).toArray := by
    apply Array.ext_getElem?
    intro k
    rw [show (pl (f i)).toArray[k]? = (pl (f i))[k]? from List.getElem?_toArray, Array.getElem?_extract]
    have hz := tc_size f
    by_cases hk : k < 4
    · rw [if_pos (by omega), Nat.mul_comm i 4, show (tc f)[4 * i + k]? = _ from tc_get f i k hi hk]
    · rw [if_neg (by omega), List.getElem?_eq_none (by rw [pl_len]; omega)]
  simp only [part, Sem.run_bind, ha, hs, Result.andThen_ok, if_true, Sem.run_pure, he, pl_v]
theorem eq_tile (d : Nat) (f g : Nat → Px) (w : World) : (Op.equalIn (d + 1 + 1 + 1) 25 (tv f) (tv g)).run Try.prog w = .ok (teq f g) w := by
  rw [Op.equalIn, Sem.run_bind, run_underlying Try.underlying25]
  simp only [Result.andThen_ok]
  have hsz : (sizeOf 23).run Try.prog w = .ok 4 w := by kernel_rfl
  rw [Sem.run_bind, hsz]
  simp only [Result.andThen_ok]
  rw [Std.Legacy.Range.forIn_eq_forIn_range', show List.range' [:64].start [:64].size [:64].step = List.range 64 from by decide]
  unfold teq
  have hl : ∀ i ∈ List.range 64, i < 64 := fun i hi => by simpa using hi
  generalize List.range 64 = l at hl ⊢
  induction l with
  | nil => simp only [List.forIn_nil, Sem.run_bind, Sem.run_pure, Result.andThen_ok, List.all_nil]
  | cons i l ih =>
    have ih := ih fun k hk => hl k (List.mem_cons_of_mem _ hk)
    have hi := hl i (List.mem_cons_self ..)
    simp only [List.forIn_cons, Sem.run_bind, part_px f i hi, part_px g i hi, eq_px, Result.andThen_ok, List.all_cons]
    cases he : peq (f i) (g i)
    · simp only [Bool.not_false, if_true, Sem.run_pure, Result.andThen_ok, Bool.false_and]
    · simp only [Bool.not_true, Bool.false_eq_true, if_false, Sem.run_pure, Result.andThen_ok, Bool.true_and]
      simp only [Sem.run_bind] at ih
      exact ih
theorem eql_tile (f g : Nat → Px) (w : World) : (Go.binOp .eql 25 (tv f) (tv g)).run Try.prog w = .ok (.bool (teq f g)) w := by
  rw [run_eql_struct, show (10000 : Nat) = 9997 + 1 + 1 + 1 from rfl, eq_tile]; rfl
theorem neq_tile (f g : Nat → Px) (w : World) : (Go.binOp .neq 25 (tv f) (tv g)).run Try.prog w = .ok (.bool (!(teq f g))) w := by
  rw [run_neq_struct, show (10000 : Nat) = 9997 + 1 + 1 + 1 from rfl, eq_tile]; rfl
theorem eql_px (p q : Px) (w : World) : (Go.binOp .eql 23 p.v q.v).run Try.prog w = .ok (.bool (peq p q)) w := by
  rw [run_eql_struct, show (10000 : Nat) = 9998 + 1 + 1 from rfl, eq_px]; rfl
theorem neq_px (p q : Px) (w : World) : (Go.binOp .neq 23 p.v q.v).run Try.prog w = .ok (.bool (!(peq p q))) w := by
  rw [run_neq_struct, show (10000 : Nat) = 9998 + 1 + 1 from rfl, eq_px]; rfl
end Go.Proofs.Ytjaipjgnchpjcaa.T
