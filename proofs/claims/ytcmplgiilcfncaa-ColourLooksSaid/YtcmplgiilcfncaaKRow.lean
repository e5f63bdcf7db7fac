/-
  A load of an array or a struct at any place of a block.
-/
import Derived.Test.YtcmplgiilcfncaaKNum
namespace Go.Proofs.Ytcmplgiilcfncaa.K
open Go.RowKit
variable {P : Program} {W w w' : World} {L : List (Nat × Obj)}

theorem run_load_at (w : World) (g off : Nat) (ty : TypeId) (cs : List Value) (d : TypeDesc) (h : ∀ j v, cs[j]? = some v → w.cell? ⟨g, off + j, none⟩ = some v)
    (hu : P.underlying ty = some d) (hd : (match d with | .struct _ | .array _ _ => true | _ => false) = true) (hi : (P.info? ty).map (·.size) = some cs.length) :
    (loadVar ty ⟨g, off, none⟩).run P w = .ok (.agg cs.toArray) w := by
  have hl : (loadCells ⟨g, off, none⟩ cs.length).run P w = .ok cs.toArray w :=
    run_loadCells_list (P := P) w ⟨g, off, none⟩ cs (fun j v hv => by
      have hadd : (⟨g, off, none⟩ : Addr).add j = ⟨g, off + j, none⟩ := by unfold Addr.add; split <;> simp_all
      rw [hadd]
      exact h j v hv)
  cases hq : P.info? ty with
  | none => simp [hq] at hi
  | some i =>
    have hs : i.size = cs.length := by simpa [hq] using hi
    have hagg : (isAgg ty).run P w = .ok true w := by
      unfold isAgg
      rw [Sem.run_bind, run_underlying hu w]
      cases d <;> simp_all
    simp [loadVar, Sem.run_bind, hagg, sizeOf, typeInfo, hq, hs, hl]
theorem wp_load_at {o : Oper} {a : Act} {w : World} {K : Act → World → Prop} {Q : Exit → Act → World → Prop} (ty : TypeId) (x : Operand) (ho : o.op = .load ty x)
    (g off : Nat) (hx : a.eval x = .pointer (some ⟨g, off, none⟩)) (v : Value) (hl : (loadVar ty ⟨g, off, none⟩).run P w = .ok v w)
    (h : K (a.put o.dst v) w) : o.wp P a w K Q := by
  unfold Oper.wp execOp
  simp only [ho, hx, Instr.loadAt, Instr.sureAddr, Sem.run_bind, Sem.run_pure, Result.andThen_ok, hl]
  exact h
theorem wpList_load_at {ops : Array Oper} {rest : List Oper} {o : Oper} {a : Act} {w : World} {Q : Exit → Act → World → Prop} (hgd : o.guard = none) (ty : TypeId) (x : Operand) (ho : o.op = .load ty x)
    (g off : Nat) (hx : a.eval x = .pointer (some ⟨g, off, none⟩)) (v : Value) (hl : (loadVar ty ⟨g, off, none⟩).run P w = .ok v w)
    (h : wpList P ops Q rest (a.put o.dst v) w) : wpList P ops Q (o :: rest) a w :=
  wpList_plain hgd fun _ hK => wp_load_at ty x ho g off hx v hl (hK _ _ h)
/-- the cells of a space -/
abbrev M9.l (m : M9) : List Value := [.int .i64 m.m0, .int .i64 m.m1, .int .i64 m.m2, .int .i64 m.m3, .int .i64 m.m4, .int .i64 m.m5, .int .i64 m.m6, .int .i64 m.m7, .int .i64 m.m8]
def Sp.l (s : Sp) : List Value := [s.v0, s.v1, s.v2] ++ s.mt.l ++ s.mf.l
theorem Sp.l_v (s : Sp) : Value.agg s.l.toArray = s.v := rfl
/-- cells from off on hold the values -/
def Has (w : World) (b off : Nat) (l : List Value) : Prop := ∀ j v, l[j]? = some v → w.cell? ⟨b, off + j, none⟩ = some v
theorem Has.later {b off : Nat} {l : List Value} (h : Has w b off l) (hl : b < w.heap.size) (hb : Below w.heap.size w w') : Has w' b off l :=
  fun j v hj => by rw [hb.cell (p := ⟨b, off + j, none⟩) hl]; exact h j v hj
theorem run_sp {b off : Nat} {s : Sp} (h : Has w b off s.l) : (loadVar 46 ⟨b, off, none⟩).run Try.prog w = .ok s.v w :=
  (run_load_at w b off 46 s.l _ h Try.underlying46 (by kernel_rfl) (by kernel_rfl))
theorem Has.cells {b off : Nat} {s : Sp} (h : Has w b off s.l) : (w.cell? ⟨b, off, none⟩ = some s.v0 ∧ w.cell? ⟨b, off + 1, none⟩ = some s.v1 ∧ w.cell? ⟨b, off + 2, none⟩ = some s.v2) ∧ Has w b (off + 3) s.mt.l ∧ Has w b (off + 12) s.mf.l := by
  refine ⟨⟨h 0 _ rfl, h 1 _ rfl, h 2 _ rfl⟩, fun j v hj => ?_, fun j v hj => ?_⟩
  · have hlt : j < 9 := (List.getElem?_eq_some_iff.1 hj).1
    rw [Nat.add_assoc]
    refine h (3 + j) v ?_
    rw [← hj]
    unfold Sp.l
    rw [List.append_assoc, List.getElem?_append_right (by simp), List.getElem?_append_left (by simp; omega)]
    simp
  · have hlt : j < 9 := (List.getElem?_eq_some_iff.1 hj).1
    rw [Nat.add_assoc]
    refine h (12 + j) v ?_
    rw [← hj]
    unfold Sp.l
    rw [List.getElem?_append_right (by simp)]
    simp
theorem St.has (h : St W L w) {b : Nat} {l : List Value} {t : TypeId} (hm : (b, .cells l.toArray t) ∈ L) : Has w b 0 l := fun j v hj => by
  rw [Nat.zero_add, h.cell hm j]; simpa using hj
end Go.Proofs.Ytcmplgiilcfncaa.K
