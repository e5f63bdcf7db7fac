/-
  strings.Builder at this seat: copyCheck, WriteString and String with exact frames, so that two builders may live side by side.
-/
import Derived.Test.YtbodmeiecdomfaaGreatONum
import Derived.Test.YtbodmeiecdomfaaGreatShelf
import Derived.Lib.Builder
import Derived.Lib.FrozenHead
import Derived.Lib.AppendStr
import Derived.Shelf.Strings.BuilderF
import Derived.OwnWalk
namespace Go.Proofs.YtbodmeiecdomfaaGreat.Z
open Go.RowKit Go.Shelf
set_option maxRecDepth 100000
variable {V W w w' : World}

abbrev TB : TypeId := 76
abbrev T8 : TypeId := 5
theorem infoBld : (Tryz.prog.info? 76).map (·.size) = some 2 := by kernel_rfl
theorem liesBld : liesAt Tryz.prog Tryz.prog.depth 76 (2 / Tryz.prog.cellsOf 76) 0 76 1 = true := by kernel_rfl
theorem info8 : (Tryz.prog.info? 5).map (fun i => (i.zero, i.size, i.bytes)) = some (some (.int .u8 0), 1, 1) := by kernel_rfl
theorem cells8 : Tryz.prog.cellsOf 5 = 1 := by kernel_rfl

theorem check_used (b : Nat) (w : World) (h0 : w.cell? ⟨b, 0, none⟩ = some (.pointer (some ⟨b, 0, none⟩))) :
    Calls Tryz.prog 58 #[.pointer (some ⟨b, 0, none⟩)] w fun e w' => e = .returned (.tuple #[]) ∧ w' = w := by
  obtain ⟨j, hj, _⟩ := Option.map_eq_some_iff.1 infoBld
  go_enter Tryz.func58, Tryz.ntmps58
  go_wp2
  rw [Lib.run_neq_ptr_same w _ Tryz.underlying73 hj]
  go_wp2
  go_end0
  exact ⟨rfl, rfl⟩

theorem check_fresh (b : Nat) (w : World) (h0 : w.cell? ⟨b, 0, none⟩ = some (.pointer none)) (hsh : w.shape? b = some (76, 2)) (hfz : w.frozen? ⟨b, 0, none⟩ = false) :
    Calls Tryz.prog 58 #[.pointer (some ⟨b, 0, none⟩)] w fun e w' => e = .returned (.tuple #[]) ∧ w' = w.setCell ⟨b, 0, none⟩ (.pointer (some ⟨b, 0, none⟩)) := by
  obtain ⟨j, hj, hjs⟩ := Option.map_eq_some_iff.1 infoBld
  go_enter Tryz.func58, Tryz.ntmps58
  go_wp2
  rw [Lib.run_to_unsafe w ⟨b, 0, none⟩ Tryz.underlying73 Tryz.underlying108 hj (by rw [hjs]; decide) hsh (Nat.zero_lt_succ 1)]
  simp only [Result.andThen]
  rw [Oper.upon_value]
  go_wp2
  rw [run_callFunc_extern Tryz.func77 (by kernel_rfl) (by kernel_rfl) (by kernel_rfl) (e := Extern.AbiNoEscape.same) (by kernel_rfl)]
  rw [Lib.run_noEscape]
  simp only [Result.andThen]
  rw [Oper.upon_value]
  go_wp2
  rw [Lib.run_from_unsafe w ⟨b, 0, none⟩ Tryz.underlying108 Tryz.underlying73 hj hsh liesBld]
  simp only [Result.andThen]
  rw [Oper.upon_value]
  go_wp2
  go_end0
  exact ⟨rfl, rfl⟩

/-- a builder in block b, its buffer v, holds these bytes -/
structure BA (B b : Nat) (v : Value) (l : List UInt8) (w : World) : Prop where
  lo : B ≤ b
  row : ∃ p, (p = .pointer none ∨ p = .pointer (some ⟨b, 0, none⟩)) ∧ w.heap[b]? = some (.cells #[p, v] 76 (0, 0))
  own : w.ownsRowF B 5 1 v l.length (Lib.byteCells l)
  nil : l = [] → v = .slice none 0 0
theorem BA.lt {B b : Nat} {v : Value} {l : List UInt8} (h : BA B b v l w) : b < w.heap.size := by
  obtain ⟨p, _, hb⟩ := h.row
  rcases Nat.lt_or_ge b w.heap.size with h' | h'
  · exact h'
  · simp [Array.getElem?_eq_none h'] at hb
theorem BA.blk {B b g : Nat} {v : Value} {l : List UInt8} (h : BA B b v l w) (hv : v.ownBlock = some g) : B ≤ g ∧ g < w.heap.size := by
  rcases h.own.2 with ⟨rfl, _⟩ | ⟨g', cap, cur, fz, rfl, hbg, hg, _⟩
  · simp [Value.ownBlock] at hv
  · simp only [Value.ownBlock, Option.some.injEq] at hv
    subst hv
    exact ⟨hbg, (Array.getElem?_eq_some_iff.1 hg).1⟩
theorem BA.ne {B b : Nat} {v : Value} {l : List UInt8} (h : BA B b v l w) : v.ownBlock ≠ some b := by
  obtain ⟨p, _, hb⟩ := h.row
  exact Lib.ownBlock_neF h.own hb (by decide)
theorem BA.fresh (w : World) : BA w.heap.size w.heap.size (.slice none 0 0) [] (w.alloc (.cells #[.pointer none, .slice none 0 0] 76)) :=
  ⟨Nat.le_refl _, ⟨_, .inl rfl, heap_alloc_new w _⟩, ⟨rfl, .inl ⟨rfl, rfl⟩⟩, fun _ => rfl⟩
theorem own_same {B B' : Nat} {v : Value} {n : Nat} {xs : List Value} (h : w.ownsRowF B 5 1 v n xs) (hB : ∀ g, v.ownBlock = some g → B' ≤ g ∧ w'.heap[g]? = w.heap[g]?) : w'.ownsRowF B' 5 1 v n xs := by
  refine ⟨h.1, h.2.imp id ?_⟩
  rintro ⟨g, cap, cur, fz, rfl, hbg, hg, r⟩
  have := hB g rfl
  exact ⟨g, cap, cur, fz, rfl, this.1, this.2.trans hg, r⟩
/-- the builder stands where its two blocks stand -/
theorem BA.same {B B' b : Nat} {v : Value} {l : List UInt8} (h : BA B b v l w) (hB : B' ≤ b) (hb : w'.heap[b]? = w.heap[b]?) (hg : ∀ g, v.ownBlock = some g → B' ≤ g ∧ w'.heap[g]? = w.heap[g]?) : BA B' b v l w' := by
  obtain ⟨p, hp, hr⟩ := h.row
  exact ⟨hB, ⟨p, hp, hb.trans hr⟩, own_same h.own hg, h.nil⟩
/-- what a writing leaves as it was -/
structure Fr (b : Nat) (v v' : Value) (w w' : World) : Prop where
  size : w.heap.size ≤ w'.heap.size
  new : ∀ g, v'.ownBlock = some g → v.ownBlock = some g ∨ w.heap.size ≤ g
  old : ∀ k, k < w.heap.size → k ≠ b → v.ownBlock ≠ some k → w'.heap[k]? = w.heap[k]?

/-- appending a string's bytes, with the block that the result lies in -/
theorem run_app (B ty : Nat) (v : Value) (l m : List UInt8) (w : World) (hown : w.ownsRowF B 5 1 v l.length (Lib.byteCells l)) (hlen : l.length + m.length ≤ 140737488355328) (hB : B ≤ w.heap.size) :
    ∃ v' w', (Builtin.append_ #[74, 9] ty #[v, .string (O.str m)]).run Tryz.prog w = .ok v' w' ∧ w'.ownsRowF B 5 1 v' (l ++ m).length (Lib.byteCells (l ++ m)) ∧ w.grownBy w' v.ownBlock ∧
      (v' = .slice none 0 0 ↔ v = .slice none 0 0 ∧ m.length = 0) ∧ ∀ g, v'.ownBlock = some g → v.ownBlock = some g ∨ w.heap.size ≤ g := by
  obtain ⟨i, hi, hz, hs, hy⟩ := info_parts info8
  have hsz : (O.str m).size = m.length := O.str_size m
  have hxs : Lib.byteCells (l ++ m) = Lib.byteCells l ++ Lib.strCells (O.str m) := by
    rw [Lib.byteCells_append]
    rfl
  have hmax : l.length + m.length ≤ maxLen := by unfold maxLen; omega
  obtain ⟨v', w', h1, h2, h3, h4⟩ := Lib.run_append_own_stringF (P := Tryz.prog) w B 74 9 ty 5 i Tryz.underlying74 Tryz.underlying9 hi hz hs hy v l.length (Lib.byteCells l) hown (O.str m) (by rw [hsz]; exact hmax) (by rw [hsz]; exact hlen) hB
  rw [hsz] at h2 h4
  refine ⟨v', w', h1, by rw [hxs, List.length_append]; exact h2, h3, h4, ?_⟩
  intro g hg
  rcases hown.2 with ⟨rfl, h0⟩ | ⟨g0, cap, cur, fz, rfl, hbg, hr, hfz, hnc, hcm, hcs, htake⟩
  · obtain ⟨v2, w2, k1, k2, _, _⟩ := Lib.run_append_own_stringF (P := Tryz.prog) w w.heap.size 74 9 ty 5 i Tryz.underlying74 Tryz.underlying9 hi hz hs hy (.slice none 0 0) l.length (Lib.byteCells l) ⟨hown.1, .inl ⟨rfl, h0⟩⟩ (O.str m) (by rw [hsz]; exact hmax) (by rw [hsz]; exact hlen) (Nat.le_refl _)
    rw [h1] at k1
    obtain ⟨rfl, rfl⟩ : v' = v2 ∧ w' = w2 := by injection k1 with a b; exact ⟨a, b⟩
    right
    rcases k2.2 with ⟨rfl, _⟩ | ⟨g1, cap, cur, fz, rfl, hb, _⟩
    · simp [Value.ownBlock] at hg
    · simp only [Value.ownBlock, Option.some.injEq] at hg
      omega
  · by_cases hroom : l.length + (O.str m).size ≤ cap
    · left
      have k1 := Lib.run_append_room_stringF (P := Tryz.prog) w 74 9 ty 5 i Tryz.underlying74 Tryz.underlying9 hi hs g0 l.length cap cur fz hr (by simpa using hfz) (O.str m) hroom (by omega)
      rw [h1] at k1
      injection k1 with a b
      subst a
      simpa [Value.ownBlock] using hg
    · right
      have hcells := hown.cells (g := g0) rfl
      have hx : (Lib.byteCells l).length = l.length * i.size := by rw [hs, Nat.mul_one]; simpa using hown.1
      have k1 := Lib.run_append_grow_string (P := Tryz.prog) w 74 9 ty 5 i (.int .u8 0) Tryz.underlying74 Tryz.underlying9 hi hz ⟨g0, 0, none⟩ l.length cap (Lib.byteCells l) hx hcells (O.str m) (by omega) (by omega) (by rw [hy]; exact growslice_fits (by omega) (by omega))
      rw [h1] at k1
      injection k1 with a b
      subst a
      simp only [Value.ownBlock, Option.some.injEq] at hg
      omega

set_option maxHeartbeats 2000000 in
theorem write_in (B b : Nat) (v : Value) (l m : List UInt8) (w : World) (h : BA B b v l w) (hr : w.heap[b]? = some (.cells #[.pointer (some ⟨b, 0, none⟩), v] 76 (0, 0))) (hlen : l.length + m.length ≤ 140737488355328) (hB : B ≤ w.heap.size) :
    ∃ v' w2, (Builtin.append_ #[74, 9] 74 #[v, .string (O.str m)]).run Tryz.prog w = .ok v' w2 ∧ w2.heap[b]? = some (.cells #[.pointer (some ⟨b, 0, none⟩), v] 76 (0, 0)) ∧
      BA B b v' (l ++ m) (w2.setCell ⟨b, 1, none⟩ v') ∧ Below B w (w2.setCell ⟨b, 1, none⟩ v') ∧ Fr b v v' w (w2.setCell ⟨b, 1, none⟩ v') := by
  obtain ⟨v', w2, h1, h2, h3, h4, h5⟩ := run_app B 74 v l m w h.own hlen hB
  have hlt := h.lt
  have hb2 : w2.heap[b]? = some (.cells #[.pointer (some ⟨b, 0, none⟩), v] 76 (0, 0)) := by
    rw [h3.block b hlt (fun e => h.ne e.symm)]
    exact hr
  have hg2 : w2.grownBy (w2.setCell ⟨b, 1, none⟩ v') (some b) := ⟨rfl, rfl, rfl, by simp [World.setCell], fun k _ hk => Below.heap_setCell _ _ _ _ (fun e => hk (by simp [e]))⟩
  refine ⟨v', w2, h1, hb2, ⟨h.lo, ⟨_, .inr rfl, by simp [World.setCell, Array.getElem?_modify, hb2]⟩, ?_, ?_⟩, ?_, ?_, h5, ?_⟩
  · refine own_same h2 fun g hg => ?_
    have hgB : B ≤ g ∧ g < w2.heap.size := by
      rcases h2.2 with ⟨rfl, _⟩ | ⟨g', cap, cur, fz, rfl, hbg, hgr, _⟩
      · simp [Value.ownBlock] at hg
      · simp only [Value.ownBlock, Option.some.injEq] at hg
        subst hg
        exact ⟨hbg, (Array.getElem?_eq_some_iff.1 hgr).1⟩
    refine ⟨hgB.1, hg2.block g hgB.2 fun e => ?_⟩
    cases e
    exact Lib.ownBlock_neF h2 hb2 (by decide) hg
  · intro e
    obtain ⟨e1, e2⟩ := List.append_eq_nil_iff.1 e
    exact h4.2 ⟨h.nil e1, by rw [e2]; rfl⟩
  · exact ((Below.refl B w).grown h3 hB (fun k hk => (h.blk hk).1)).setCell (p := ⟨b, 1, none⟩) h.lo _
  · have := h3.size
    simp only [World.setCell, Array.size_modify]
    exact this
  · intro k hk hkb hkv
    rw [Below.heap_setCell _ _ _ _ (show k ≠ b from hkb)]
    exact h3.block k hk (fun e => hkv e.symm)
theorem wpList_app {P : Program} {ops : Array Oper} {rest : List Oper} {o : Oper} {a : Act} {Q : Exit → Act → World → Prop} (hgd : o.guard = none) (sl x : Operand) (t u ty : TypeId)
    (ho : o.op = .call { callee := .builtin .append, args := #[sl, x], argTypes := #[t, u] }) (hty : o.type = ty) (vs vx v' : Value) (hs : a.eval sl = vs) (hx : a.eval x = vx)
    (hr : (Builtin.append_ #[t, u] ty #[vs, vx]).run P w = .ok v' w') (h : wpList P ops Q rest (a.put o.dst v') w') : wpList P ops Q (o :: rest) a w := by
  refine wpList_plain hgd fun K hK => ?_
  unfold Oper.wp execOp
  simp only [ho, resolve, invoke, builtin, Sem.run_bind, Sem.run_pure, Result.andThen_ok, List.map_toArray, List.map_cons, List.map_nil, hs, hx, hty, hr]
  exact hK _ _ h
theorem BA.cell0 {B b : Nat} {v : Value} {l : List UInt8} (_h : BA B b v l w) {p : Value} (hr : w.heap[b]? = some (.cells #[p, v] 76 (0, 0))) : w.cell? ⟨b, 0, none⟩ = some p ∧ w.cell? ⟨b, 1, none⟩ = some v ∧ w.frozen? ⟨b, 0, none⟩ = false ∧ w.frozen? ⟨b, 1, none⟩ = false ∧ w.shape? b = some (76, 2) := by
  refine ⟨by rw [Lib.cell_of_heap hr]; rfl, by rw [Lib.cell_of_heap hr]; rfl, Lib.frozen_of_heap hr 0, Lib.frozen_of_heap hr 1, by simp [World.shape?, hr]⟩

set_option maxHeartbeats 2000000 in
theorem BA.write {B b : Nat} {v : Value} {l : List UInt8} (m : List UInt8) {w : World} (h : BA B b v l w) (hlen : l.length + m.length ≤ 140737488355328) (hB : B ≤ w.heap.size) :
    Calls Tryz.prog 38 #[.pointer (some ⟨b, 0, none⟩), .string (O.str m)] w fun e w' => e = .returned (.tuple #[.int .i64 (O.str m).size, .nilIface]) ∧ ∃ v', BA B b v' (l ++ m) w' ∧ Below B w w' ∧ Fr b v v' w w' := by
  obtain ⟨p, hp, hr⟩ := h.row
  obtain ⟨c0, c1, f0, f1, sh⟩ := h.cell0 hr
  -- behind copyCheck
  obtain ⟨w1, hck, hr1, h1, hfr1⟩ : ∃ w1, (Calls Tryz.prog 58 #[.pointer (some ⟨b, 0, none⟩)] w fun e w' => e = .returned (.tuple #[]) ∧ w' = w1) ∧ w1.heap[b]? = some (.cells #[.pointer (some ⟨b, 0, none⟩), v] 76 (0, 0)) ∧ BA B b v l w1 ∧ w.grownBy w1 (some b) := by
    rcases hp with rfl | rfl
    · have hg : w.grownBy (w.setCell ⟨b, 0, none⟩ (.pointer (some ⟨b, 0, none⟩))) (some b) := ⟨rfl, rfl, rfl, by simp [World.setCell], fun k _ hk => Below.heap_setCell _ _ _ _ (fun e => hk (by simp [e]))⟩
      have hr' : (w.setCell ⟨b, 0, none⟩ (.pointer (some ⟨b, 0, none⟩))).heap[b]? = some (.cells #[.pointer (some ⟨b, 0, none⟩), v] 76 (0, 0)) := by simp [World.setCell, Array.getElem?_modify, hr]
      exact ⟨_, check_fresh b w c0 sh f0, hr', ⟨h.lo, ⟨_, .inr rfl, hr'⟩, own_same h.own fun g hv => ⟨(h.blk hv).1, hg.block g (h.blk hv).2 (fun e => by cases e; exact h.ne hv)⟩, h.nil⟩, hg⟩
    · exact ⟨w, check_used b w c0, hr, h, ⟨rfl, rfl, rfl, Nat.le_refl _, fun _ _ _ => rfl⟩⟩
  have hB1 : B ≤ w1.heap.size := Nat.le_trans hB hfr1.size
  obtain ⟨v', w2, ha, hr2, h2, hb2, hfr2⟩ := write_in B b v l m w1 h1 hr1 hlen hB1
  obtain ⟨_, d1, _, _, _⟩ := h1.cell0 hr1
  have e1 : w2.cell? ⟨b, 1, none⟩ = some v := by rw [Lib.cell_of_heap hr2]; rfl
  have e2 : w2.frozen? ⟨b, 1, none⟩ = false := Lib.frozen_of_heap hr2 1
  have HF : Hid (∃ u, BA B b u (l ++ m) (w2.setCell ⟨b, 1, none⟩ v') ∧ Below B w (w2.setCell ⟨b, 1, none⟩ v') ∧ Fr b v u w (w2.setCell ⟨b, 1, none⟩ v')) := by
    refine ⟨v', h2, ?_, Nat.le_trans hfr1.size hfr2.size, fun g hg => ?_, fun k hk hkb hkv => ?_⟩
    · exact ((Below.refl B w).grown hfr1 hB (fun k hk => by cases hk; exact h.lo)).trans hb2
    · exact (hfr2.new g hg).imp id (fun q => Nat.le_trans hfr1.size q)
    · rw [hfr2.old k (Nat.lt_of_lt_of_le hk hfr1.size) hkb hkv]
      exact hfr1.block k hk (fun e => hkb (by cases e; rfl))
  obtain ⟨ao, n', cap, rfl⟩ : ∃ ao n' cap, v' = .slice ao n' cap := by
    rcases h2.own.2 with ⟨hv, _⟩ | ⟨g, cap, cur, fz, hv, _⟩
    · exact ⟨_, _, _, hv⟩
    · exact ⟨_, _, _, hv⟩
  have HC := Lib.hid hck
  have HA := Lib.hid ha
  clear hck ha h2 hb2 hfr2 hfr1 h1 h hr hr1 hr2
  go_enter Tryz.func38, Tryz.ntmps38
  go_wp2_with (first
    | (go_at_call 58; refine HC.out.mono ?_; rintro e wq ⟨rfl, rfl⟩)
    | (at_builtin; refine wpList_app rfl (.tmp 12) (.tmp 13) 74 9 74 rfl rfl _ _ _ rfl rfl HA.out ?_))
  go_ret2
  exact ⟨rfl, HF.out⟩

theorem unsafe_none (w : World) (q : Option Addr) : (Builtin.unsafeString_ #[94, 3] 9 #[.pointer q, .int .i64 0]).run Tryz.prog w = .ok (.string .empty) w :=
  Any.unsafeString_none Tryz.lays169 Tryz.Builder_Extra_169 w q
set_option maxHeartbeats 2000000 in
/-- String: the builder's bytes, which only stand frozen behind it -/
theorem BA.string {B b : Nat} {v : Value} {l : List UInt8} {w : World} (h : BA B b v l w) :
    Calls Tryz.prog 40 #[.pointer (some ⟨b, 0, none⟩)] w fun e w' => e = .returned (.string (O.str l)) ∧ BA B b v l w' ∧ Below B w w' ∧ Fr b v v w w' := by
  obtain ⟨p, hp, hr⟩ := h.row
  have hr' : w.drew.heap[b]? = some (.cells #[p, v] 76 (0, 0)) := hr
  rcases l with _ | ⟨x, l'⟩
  · obtain rfl := h.nil rfl
    have hUS := unsafe_none
    have c1 : w.drew.cell? ⟨b, 1, none⟩ = some (.slice none 0 0) := by rw [Lib.cell_of_heap hr']; rfl
    have hSD : (Builtin.unsafeSliceData_ #[74] 94 #[.slice none 0 0]).run Tryz.prog w.drew = .ok (.pointer none) w.drew := rfl
    have HF : Hid (BA B b (.slice none 0 0) [] w.drew ∧ Below B w w.drew ∧ Fr b (.slice none 0 0) (.slice none 0 0) w w.drew) :=
      ⟨⟨h.lo, ⟨p, hp, hr⟩, h.own, h.nil⟩, Below.drew (Below.refl B w), Nat.le_refl _, fun g hg => .inl hg, fun _ _ _ _ => rfl⟩
    clear h hp hr hr'
    have mixed := Tryz.lays169.mixed
    go_enter Tryz.func40, Tryz.ntmps40
    go_wp2
    go_region_o
    all_goals (go_wp2; go_ret; exact ⟨rfl, HF.out⟩)
  · generalize hl : x :: l' = l at *
    have h0 : l ≠ [] := by rw [← hl]; simp
    have hl0 : l.length ≠ 0 := by simpa using h0
    obtain ⟨g, cap, cur, fz, rfl, hbg, hg, hfz, hnc, hcm, hcs, htake⟩ : ∃ g cap cur fz, v = .slice (some ⟨g, 0, none⟩) l.length cap ∧ B ≤ g ∧ w.heap[g]? = some (.cells cur 5 fz) ∧ fz.2 ≤ l.length * 1 ∧ l.length ≤ cap ∧ cap ≤ maxLen ∧ cur.size = cap * 1 ∧ cur.toList.take (l.length * 1) = Lib.byteCells l := by
      rcases h.own.2 with ⟨_, hz⟩ | ⟨g, cap, cur, fz, hv, r⟩
      · exact absurd hz hl0
      · exact ⟨g, cap, cur, fz, hv, r⟩
    have c1 : w.drew.cell? ⟨b, 1, none⟩ = some (.slice (some ⟨g, 0, none⟩) l.length cap) := by rw [Lib.cell_of_heap hr']; rfl
    have hSD : (Builtin.unsafeSliceData_ #[74] 94 #[.slice (some ⟨g, 0, none⟩) l.length cap]).run Tryz.prog w.drew = .ok (.pointer (some ⟨g, 0, none⟩)) w.drew :=
      Lib.run_unsafeSliceData_row _ _ _ _ _ _ (by omega)
    have hUS : (Builtin.unsafeString_ #[94, 3] 9 #[.pointer (some ⟨g, 0, none⟩), .int .i64 l.length]).run Tryz.prog w.drew = .ok (.string ⟨l.toArray⟩) (w.drew.freeze ⟨g, 0, none⟩ l.length) := by
      refine Lib.run_unsafeString_row w.drew 94 3 9 5 Tryz.underlying94 cells8 g cur.size (by have hg' : w.drew.heap[g]? = some (.cells cur 5 fz) := hg; simp [World.shape?, hg']) l h0 (by omega) (by unfold maxLen at hcm; omega) ?_
      intro j x hx
      exact h.own.cells (g := g) rfl j (.int .u8 x.toNat) (by simp [Lib.byteCells, hx])
    have hkeep : BA B b (.slice (some ⟨g, 0, none⟩) l.length cap) l (w.drew.freeze ⟨g, 0, none⟩ l.length) := by
      have hA : Lib.BuilderAtF 76 5 B b p (Lib.byteCells l) w.drew := ⟨h.lo, _, hr, by rw [Lib.byteCells_length]; exact h.own, h.ne⟩
      have hF := hA.froze (g := g) (cap := cap) (by rw [Lib.byteCells_length]; exact c1)
      rw [Lib.byteCells_length] at hF
      obtain ⟨h1, v2, h2, h3, _⟩ := hF
      have hv : v2 = .slice (some ⟨g, 0, none⟩) l.length cap := by
        have e : (w.drew.freeze ⟨g, 0, none⟩ l.length).heap[b]? = w.heap[b]? := by
          unfold World.freeze
          split
          · rfl
          · show (Array.modify w.heap g _)[b]? = _
            rw [Array.getElem?_modify, if_neg (by intro e; exact h.ne (by simp [Value.ownBlock, e]))]
        rw [e, hr] at h2
        simp at h2
        exact h2.symm
      subst hv
      rw [Lib.byteCells_length] at h3
      exact ⟨h1, ⟨p, hp, h2⟩, h3, fun e => absurd e h0⟩
    have HF : Hid (BA B b (.slice (some ⟨g, 0, none⟩) l.length cap) l (w.drew.freeze ⟨g, 0, none⟩ l.length) ∧ Below B w (w.drew.freeze ⟨g, 0, none⟩ l.length) ∧ Fr b (.slice (some ⟨g, 0, none⟩) l.length cap) (.slice (some ⟨g, 0, none⟩) l.length cap) w (w.drew.freeze ⟨g, 0, none⟩ l.length)) := by
      refine ⟨hkeep, Lib.below_freeze (Below.drew (Below.refl B w)) (p := ⟨g, 0, none⟩) hbg _, ?_, fun g hg => .inl hg, fun k hk hkb hkv => ?_⟩
      · exact (Lib.below_freeze (Below.drew (Below.refl B w)) (p := ⟨g, 0, none⟩) hbg _).size
      · unfold World.freeze
        split
        · rfl
        · show (Array.modify w.heap g _)[k]? = _
          rw [Array.getElem?_modify, if_neg (by intro e; exact hkv (by simp [Value.ownBlock, e]))]
    clear h hp hr hr' hkeep
    have mixed := Tryz.lays169.mixed
    go_enter Tryz.func40, Tryz.ntmps40
    go_wp2
    go_region_o
    all_goals (go_wp2; go_ret; exact ⟨rfl, HF.out⟩)

/-- two builders, side by side -/
structure TBld (W : World) (x y : Nat) (vx vy : Value) (l m : List UInt8) (w : World) : Prop where
  below : Below W.heap.size W w
  fst : BA W.heap.size x vx l w
  snd : BA W.heap.size y vy m w
  ne : x ≠ y
  xy : vx.ownBlock ≠ some y
  yx : vy.ownBlock ≠ some x
  vv : ∀ g, vx.ownBlock = some g → vy.ownBlock ≠ some g
theorem TBld.swap {x y : Nat} {vx vy : Value} {l m : List UInt8} (h : TBld W x y vx vy l m w) : TBld W y x vy vx m l w :=
  ⟨h.below, h.snd, h.fst, h.ne.symm, h.yx, h.xy, fun g hg e => h.vv g e hg⟩
theorem TBld.fr {x y : Nat} {vx vx' vy : Value} {l l' m : List UInt8} (h : TBld W x y vx vy l m w) (h1 : BA W.heap.size x vx' l' w') (hb : Below W.heap.size w w') (hf : Fr x vx vx' w w') : TBld W x y vx' vy l' m w' := by
  have hy := h.snd.lt
  have hnew : ∀ g, vx'.ownBlock = some g → g < w.heap.size → vx.ownBlock = some g := fun g hg hlt => (hf.new g hg).resolve_right (by omega)
  refine ⟨h.below.trans hb, h1, h.snd.same h.snd.lo (hf.old y hy h.ne.symm h.xy) fun g hg => ⟨(h.snd.blk hg).1, hf.old g (h.snd.blk hg).2 (fun e => h.yx (by rw [hg, e])) fun e => h.vv g e hg⟩, h.ne, fun e => h.xy (hnew y e hy), h.yx, fun g hg e => h.vv g (hnew g hg (h.snd.blk e).2) e⟩
theorem TBld.later {x y : Nat} {vx vy : Value} {l m : List UInt8} (h : TBld W x y vx vy l m w) (hb : Below w.heap.size w w') : TBld W x y vx vy l m w' := by
  have e : ∀ k, k < w.heap.size → w'.heap[k]? = w.heap[k]? := fun k hk => hb.block k hk
  exact ⟨h.below.trans (hb.mono h.below.size), h.fst.same h.fst.lo (e _ h.fst.lt) fun g hg => ⟨(h.fst.blk hg).1, e _ (h.fst.blk hg).2⟩, h.snd.same h.snd.lo (e _ h.snd.lt) fun g hg => ⟨(h.snd.blk hg).1, e _ (h.snd.blk hg).2⟩, h.ne, h.xy, h.yx, h.vv⟩
theorem TBld.write {x y : Nat} {vx vy : Value} {l m : List UInt8} (k : List UInt8) (h : TBld W x y vx vy l m w) (hlen : l.length + k.length ≤ 140737488355328) :
    Calls Tryz.prog 38 #[.pointer (some ⟨x, 0, none⟩), .string (O.str k)] w fun e w' => e = .returned (.tuple #[.int .i64 (O.str k).size, .nilIface]) ∧ ∃ vx', TBld W x y vx' vy (l ++ k) m w' :=
  (h.fst.write k hlen h.below.size).mono fun _ _ ⟨h1, vx', h2, h3, h4⟩ => ⟨h1, vx', h.fr h2 h3 h4⟩
theorem TBld.string {x y : Nat} {vx vy : Value} {l m : List UInt8} (h : TBld W x y vx vy l m w) :
    Calls Tryz.prog 40 #[.pointer (some ⟨x, 0, none⟩)] w fun e w' => e = .returned (.string (O.str l)) ∧ TBld W x y vx vy l m w' :=
  h.fst.string.mono fun _ _ ⟨h1, h2, h3, h4⟩ => ⟨h1, h.fr h2 h3 h4⟩
theorem TBld.fresh (W : World) : TBld W W.heap.size (W.heap.size + 1) (.slice none 0 0) (.slice none 0 0) [] [] ((W.alloc (.cells #[.pointer none, .slice none 0 0] 76)).alloc (.cells #[.pointer none, .slice none 0 0] 76)) := by
  have h1 := BA.fresh W
  have h2 := BA.fresh (W.alloc (.cells #[.pointer none, .slice none 0 0] 76))
  rw [World.size_alloc] at h2
  have e : ∀ g, (Value.slice none 0 0).ownBlock ≠ some g := fun g => by simp [Value.ownBlock]
  refine ⟨((Below.refl _ W).alloc (Nat.le_refl _) _).alloc (by simp) _, h1.same (Nat.le_refl _) (Below.heap_alloc _ _ _ (by simp)) fun g hg => absurd hg (e g), h2.same (by omega) rfl fun g hg => absurd hg (e g), by omega, e _, e _, fun g hg => absurd hg (e g)⟩
end Go.Proofs.YtbodmeiecdomfaaGreat.Z
