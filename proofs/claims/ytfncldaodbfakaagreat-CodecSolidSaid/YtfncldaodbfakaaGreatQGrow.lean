/-
  A new row for tiles, and appends to it. Operations on a tile at a position: variables, literals. Steps of a walk whose statement names the operation: tried at another operation they fail at once. Tiles replaced among tiles in order: what comes out.
-/
import Derived.Test.YtfncldaodbfakaaGreatQValid
import Derived.Lib.AppendZerosOnto
import Derived.Laws.AppendOwn
import Derived.Maps.AppendAt
import Derived.OwnWalk
import Derived.Great.BuildSlice
namespace Go.Proofs.YtfncldaodbfakaaGreat.Q
open Go.RowKit T Go.Shelf
set_option maxRecDepth 100000
variable {V W w w' : World} {L : List (Nat × Obj)}

theorem infoT : (Tryz.prog.info? 42).map (fun i => (i.size, i.bytes)) = some (258, 272) := by kernel_rfl
theorem infoZ : (Tryz.prog.info? 42).bind (fun i => i.zero.map (fun z => z.cells.size)) = some 258 := by kernel_rfl
theorem info_ta : ∃ i z, Tryz.prog.info? 42 = some i ∧ i.zero = some z ∧ i.size = 258 ∧ i.bytes = 272 ∧ z.cells.size = 258 := by
  have h1 := infoT
  have h2 := infoZ
  cases hi : Tryz.prog.info? 42 with
  | none => rw [hi] at h1; simp at h1
  | some i =>
    rw [hi] at h1 h2
    cases hz : i.zero with
    | none => simp [hz] at h2
    | some z =>
      simp [hz] at h1 h2
      exact ⟨i, z, rfl, hz, h1.1, h1.2, h2⟩
/-- a slice of the call's own that holds the tiles -/
abbrev OT (B : Nat) (V : World) (v : Value) (l : List TA) : Prop := V.ownsRow B 42 258 v l.length (tal l)
/-- 'append(v, m...)' behind what the call owns -/
theorem run_appT (B : Nat) (V : World) (v : Value) (acc m : List TA) (p : Option Addr) (n c ty : Nat) (hown : OT B V v acc) (hr : RS V p n c m) (ha : acc.length ≤ 10000) (hm : n ≤ 10000) (hB : B ≤ V.heap.size) :
    ∃ v' w', (Builtin.append_ #[24, 24] ty #[v, .slice p n c]).run Tryz.prog V = .ok v' w' ∧ OT B w' v' (acc ++ m) ∧ Below B V w' ∧ (∀ b, b < V.heap.size → v.ownBlock ≠ some b → w'.heap[b]? = V.heap[b]?) ∧ (v'.ownBlock = v.ownBlock ∨ v'.ownBlock = some V.heap.size) := by
  obtain ⟨i0, z, hi0, hz0, hsz, hby, hzc⟩ := info_ta
  have hl := hr.len
  rcases hr.mem with ⟨rfl, h0⟩ | ⟨b, o, rfl, hlt, hrg⟩
  · have := hr.cap
    obtain rfl : n = 0 := by omega
    obtain rfl : m = [] := List.eq_nil_of_length_eq_zero hl
    subst h0
    refine ⟨v, V, run_append_owned_none V B 24 ty 42 i0 258 Tryz.underlying24 hi0 v acc.length (tal acc) hown, ?_, Below.refl _ _, fun _ _ _ => rfl, .inl rfl⟩
    rw [List.append_nil]; exact hown
  · obtain ⟨v', w', h1, h2, h3, _, h5⟩ := run_append_own_at (P := Tryz.prog) V B 24 ty 42 i0 z 258 272 Tryz.underlying24 hi0 hz0 hsz hby hzc (by omega) v acc.length (tal acc) hown ⟨b, o, none⟩ n c (tal m)
      (by rw [tal_len, hl]; omega) (fun j u hj => by rw [Addr.add_mid]; exact hrg j u hj) (fun u hu => tal_one m u hu) (by unfold maxLen; omega) (by omega) hB
    refine ⟨v', w', h1, ?_, (Below.refl B V).grown h3 hB ?_, fun b hb hne => h3.block b hb (fun e => hne e.symm), h5⟩
    · show w'.ownsRow B _ 258 v' (acc ++ m).length (tal (acc ++ m))
      rw [tal_append, List.length_append, hl]; exact h2
    · intro k hk
      exact (hown.lt k hk).1
end Go.Proofs.YtfncldaodbfakaaGreat.Q

namespace Go.Proofs.YtfncldaodbfakaaGreat.Q
open Go.RowKit T Go.Shelf
set_option maxRecDepth 100000
variable {V W w w' : World} {L : List (Nat × Obj)}

abbrev tav (a : TA) : Value := .agg (tac a).toArray
abbrev taob (a : TA) : Obj := .cells (tac a).toArray 42
/-- the zero value -/
def ta0 : TA := ⟨0, 0, z0⟩
theorem tac_one (a : TA) : (tac a).toArray.all (·.oneCell') = true := by
  apply all_oneCell_toArray
  intro v hv
  have := tal_one [a] v (by unfold tal; simpa using hv)
  exact this
theorem zero_ta (w : World) : (zeroValue 42).run Tryz.prog w = .ok (tav ta0) w := by kernel_rfl
theorem store_ta (b : Nat) (a c : TA) (w : World) (h : w.heap[b]? = some (taob a)) : (Instr.storeAt 42 (.pointer (some ⟨b, 0, none⟩)) (tav c)).run Tryz.prog w = .ok () (w.setRow b (tac c).toArray) := by
  simp only [Instr.storeAt, Instr.sureAddr, Sem.run_bind, Sem.run_pure, Result.andThen_ok, run_storeVar_row w b _ 42 _ _ h (by rw [infoTA, List.size_toArray, tac_len]) (by rw [List.size_toArray, List.size_toArray, tac_len, tac_len]) (tac_one c)]
theorem range_tav {b : Nat} {a : TA} (h : V.heap[b]? = some (taob a)) (k : Nat) : V.rangeAt b k ((tac a).drop k) := fun j v hv => by
  rw [cell_of_row V b (k + j) _ _ (0, 0) h, List.getElem?_toArray]
  simpa using hv
theorem ldv_ta {b : Nat} {a : TA} (h : V.heap[b]? = some (taob a)) : (Instr.loadAt 42 (.pointer (some ⟨b, 0, none⟩))).run Tryz.prog V = .ok (tav a) V :=
  run_loadAt_mid V b 0 42 (tac a) _ (range_tav h 0) Tryz.underlying42 rfl (by rw [infoTA, tac_len])
theorem ldv_pos {b : Nat} {a : TA} (h : V.heap[b]? = some (taob a)) : (Instr.loadAt 40 (.pointer (some ⟨b, 0, none⟩))).run Tryz.prog V = .ok (pv2 a.x a.y) V := by
  have h2 : V.rangeAt b 0 [.int .i64 a.x, .int .i64 a.y] := fun j v hv => range_tav h 0 j v (by
    rw [List.drop_zero]; unfold tac
    rw [List.getElem?_append_left (by have := (List.getElem?_eq_some_iff.1 hv).1; exact this)]; exact hv)
  exact run_loadAt_mid V b 0 40 _ _ h2 Tryz.underlying40 rfl (by kernel_rfl)
theorem tilv {b : Nat} {a : TA} (h : V.heap[b]? = some (taob a)) : Til V b 2 a.t := range_tav h 2
theorem fill_one (sz : Nat) (z v : Array Value) (hv : v.size = sz) : Instr.fill (fun i => some (i * sz, sz)) ((Array.range (1 * sz)).map (z[· % z.size]!)) [(0, .agg v)] = some v := by
  have hc : (Value.agg v).cells = v := rfl
  simp only [Instr.fill, hc, hv]
  rw [if_neg (by simp)]
  refine congrArg some ?_
  apply Array.ext_getElem?
  intro k
  rw [fold_arr _ _ _ _ (by simp; omega)]
  by_cases h : k < sz
  · rw [if_pos (by omega)]; simp
  · rw [if_neg (by omega), Array.getElem?_eq_none (by simp; omega), Array.getElem?_eq_none (by omega)]
theorem run_slice1 (a : TA) (w : World) : (Instr.buildSlice 24 1 #[(0, tav a)]).run Tryz.prog w = .ok (.slice (some ⟨w.heap.size, 0, none⟩) 1 1) (w.alloc (taob a)) := by
  obtain ⟨i0, z, hi0, hz0, hsz, hby, hzc⟩ := info_ta
  refine run_buildSlice w 24 42 1 _ (tac a).toArray i0 z Tryz.underlying24 hi0 hz0 (by rw [hsz]; decide) (by rw [hsz]; decide) ?_
  rw [hsz]
  exact fill_one 258 z.cells _ (by rw [List.size_toArray, tac_len])
theorem wpList_slice1 {ops : Array Oper} {rest : List Oper} {o : Oper} {a : Act} {w : World} {Q : Exit → Act → World → Prop} (hg : o.guard = none) (x : Operand) (ho : o.op = .buildSlice 24 1 #[(0, x)]) (c : TA) (hx : a.eval x = tav c)
    (h : wpList Tryz.prog ops Q rest (a.put o.dst (.slice (some ⟨w.heap.size, 0, none⟩) 1 1)) (w.alloc (taob c))) : wpList Tryz.prog ops Q (o :: rest) a w :=
  wpList_plain hg fun _ hK => by
    have hr := run_slice1 c w
    unfold Oper.wp execOp
    have hl' : (Instr.buildSlice 24 1 ((#[(0, x)] : Array (Nat × Operand)).map fun (i, x) => (i, a.eval x))).run Tryz.prog w = .ok (.slice (some ⟨w.heap.size, 0, none⟩) 1 1) (w.alloc (taob c)) := by simpa [hx] using hr
    simp only [ho, Sem.run_bind, hl', Result.andThen_ok, Sem.run_pure]
    exact hK _ _ h
theorem RS.one (a : TA) (w : World) : RS (w.alloc (taob a)) (some ⟨w.heap.size, 0, none⟩) 1 1 [a] :=
  ⟨rfl, Nat.le_refl _, by unfold maxLen; omega, by omega, .inr ⟨w.heap.size, 0, rfl, by simp, fun j v hv => by
    rw [Nat.zero_add, cell_of_row _ _ j _ _ (0, 0) (World.alloc_heap_new w _), List.getElem?_toArray]
    simpa [tal] using hv⟩⟩
theorem built_ta (x y : Int) (f : Nat → Px) (w : World) : (Instr.build 42 #[(0, pv2 x y), (1, tv f)]).run Tryz.prog w = .ok (tav ⟨x, y, f⟩) w := by
  refine run_build w 42 _ _ ?_
  obtain ⟨i0, z, hi0, hz0, hsz, hby, hzc⟩ := info_ta
  have hp : (match Tryz.prog.underlying 42 with | some (.struct fs) => fs.toList.mapM (fun f => (Tryz.prog.info? f.type).map fun i => (f.offset, i.size)) | _ => none) = some [(0, 2), (2, 256)] := by kernel_rfl
  rw [Tryz.underlying42] at hp
  unfold Program.built
  rw [hi0, Tryz.underlying42]
  simp only [hz0]
  simp only at hp
  rw [hp]
  have c0 : (Value.agg #[.int .i64 x, .int .i64 y]).cells = #[.int .i64 x, .int .i64 y] := rfl
  have c1 : (Value.agg (tc f)).cells = tc f := rfl
  show Instr.fill (fun i => #[(0, 2), (2, 256)][i]?) z.cells [(0, pv2 x y), (1, tv f)] = some (tac ⟨x, y, f⟩).toArray
  have q0 : (#[(0, 2), (2, 256)] : Array (Nat × Nat))[0]? = some (0, 2) := rfl
  have q1 : (#[(0, 2), (2, 256)] : Array (Nat × Nat))[1]? = some (2, 256) := rfl
  simp only [Instr.fill, q0, q1, c0, c1, tc_size, fold_size, hzc]
  rw [if_neg (by simp), if_neg (by simp)]
  refine congrArg some ?_
  apply Array.ext_getElem?
  intro k
  rw [fold_arr 2 (tc f) _ k (by rw [tc_size, fold_size, hzc]; omega), tc_size]
  have hR : (tac ⟨x, y, f⟩).toArray[k]? = (tac ⟨x, y, f⟩)[k]? := List.getElem?_toArray
  have hT : tac ⟨x, y, f⟩ = [.int .i64 x, .int .i64 y] ++ (tc f).toList := rfl
  have hz2 := tc_size f
  rw [hR, hT]
  generalize tc f = cs at *
  by_cases hk : 2 ≤ k ∧ k < 258
  · rw [if_pos (by omega), List.getElem?_append_right (by simp; omega), Array.getElem?_toList]; rfl
  · rw [if_neg (by omega), fold_arr 0 _ z.cells k (by rw [hzc]; simp)]
    by_cases h2 : k < 2
    · rw [if_pos (by simp; omega), List.getElem?_append_left (by simp; omega)]
      have : k = 0 ∨ k = 1 := by omega
      rcases this with rfl | rfl <;> rfl
    · rw [if_neg (by simp; omega), Array.getElem?_eq_none (by omega), List.getElem?_eq_none (by simp [hz2]; omega)]
end Go.Proofs.YtfncldaodbfakaaGreat.Q

namespace Go.Proofs.YtfncldaodbfakaaGreat.Q
open Go.RowKit T Go.Shelf
set_option maxRecDepth 100000
variable {P : Program} {ops : Array Oper} {rest : List Oper} {a : Act} {Q : Exit → Act → World → Prop} {w w' : World} {dst : Option Tmp} {ty type t' : TypeId} {pos : String} {after : Array Edge} {x y : Operand} {v : Value}

theorem sLoad (hl : (Instr.loadAt ty (a.eval x)).run P w = .ok v w) (h : wpList P ops Q rest (a.put dst v) w) : wpList P ops Q ({ dst := dst, op := .load ty x, type := type, pos := pos, after := after, guard := none } :: rest) a w :=
  wpList_load_of rfl ty x rfl v hl h
theorem sStore (hl : (Instr.storeAt ty (a.eval x) (a.eval y)).run P w = .ok () w') (h : wpList P ops Q rest (a.put dst undef) w') : wpList P ops Q ({ dst := dst, op := .store ty x y, type := type, pos := pos, after := after, guard := none } :: rest) a w :=
  wpList_store_of rfl ty x y rfl hl h
theorem sAlloc (cs : Array Value) (hz : (zeroValue ty).run P w = .ok (.agg cs) w) (h : wpList P ops Q rest (a.put dst (.pointer (some ⟨w.heap.size, 0, none⟩))) (w.alloc (.cells cs ty))) : wpList P ops Q ({ dst := dst, op := .alloc ty, type := type, pos := pos, after := after, guard := none } :: rest) a w :=
  wpList_alloc_of rfl ty rfl cs hz h
theorem sBuild0 (hl : (Instr.build ty #[]).run P w = .ok v w) (h : wpList P ops Q rest (a.put dst v) w) : wpList P ops Q ({ dst := dst, op := .build ty #[], type := type, pos := pos, after := after, guard := none } :: rest) a w :=
  wpList_build0 rfl ty rfl v hl h
theorem sBuild1 (hl : (Instr.build ty #[(0, a.eval x)]).run P w = .ok v w) (h : wpList P ops Q rest (a.put dst v) w) : wpList P ops Q ({ dst := dst, op := .build ty #[(0, x)], type := type, pos := pos, after := after, guard := none } :: rest) a w :=
  wpList_build_of rfl ty _ rfl v (by simpa using hl) h
theorem sBuild2 (hl : (Instr.build ty #[(0, a.eval x), (1, a.eval y)]).run P w = .ok v w) (h : wpList P ops Q rest (a.put dst v) w) : wpList P ops Q ({ dst := dst, op := .build ty #[(0, x), (1, y)], type := type, pos := pos, after := after, guard := none } :: rest) a w :=
  wpList_build_of rfl ty _ rfl v (by simpa using hl) h
theorem sSlice1 (c : TA) (hx : a.eval x = tav c) (h : wpList Tryz.prog ops Q rest (a.put dst (.slice (some ⟨w.heap.size, 0, none⟩) 1 1)) (w.alloc (taob c))) : wpList Tryz.prog ops Q ({ dst := dst, op := .buildSlice 24 1 #[(0, x)], type := type, pos := pos, after := after, guard := none } :: rest) a w :=
  wpList_slice1 rfl x rfl c hx h
theorem sAppend (vs vx v' : Value) (hs : a.eval x = vs) (hx : a.eval y = vx) (hr : (Builtin.append_ #[ty, ty] type #[vs, vx]).run P w = .ok v' w') (h : wpList P ops Q rest (a.put dst v') w') :
    wpList P ops Q ({ dst := dst, op := .call { callee := .builtin .append, args := #[x, y], argTypes := #[ty, ty] }, type := type, pos := pos, after := after, guard := none } :: rest) a w :=
  Lib.wpList_append_run w rfl x y ty ty rfl vs vx hs hx v' w' hr h
end Go.Proofs.YtfncldaodbfakaaGreat.Q

namespace Go.Proofs.YtfncldaodbfakaaGreat.Q
open Go.RowKit T Go.Shelf
set_option maxRecDepth 100000
variable {V V' W w w' : World} {L : List (Nat × Obj)}

/-- how far the number at which a position stands or would stand moves on -/
def stp (l : List TA) (x y : Int) : Nat := lb l x y + if hit l x y then 1 else 0
/-- l with the tiles at the positions of the second list replaced, or removed where these are zero -/
def rep : List TA → List TA → List TA
  | l, [] => l
  | l, c :: cs => l.take (lb l c.x c.y) ++ ((if teq c.t z0 then [] else [c]) ++ rep (l.drop (stp l c.x c.y)) cs)
theorem stp_le (l : List TA) (x y : Int) : stp l x y ≤ l.length := by
  have := lb_le l x y
  unfold stp
  split
  · rename_i h
    unfold hit at h
    cases ha : l[lb l x y]? with
    | none => rw [ha] at h; cases h
    | some a => have := (List.getElem?_eq_some_iff.1 ha).1; omega
  · omega
theorem inc_drop {l : List TA} (h : Inc l) (k : Nat) : Inc (l.drop k) := h.sublist (List.drop_sublist _ _)
theorem ot_below {B : Nat} {v : Value} {l : List TA} (h : OT B V v l) (hb : Below V.heap.size V V') : OT B V' v l := by
  obtain ⟨hl, h | ⟨g, cap, cur, hv, hg, hh, h⟩⟩ := h
  · exact ⟨hl, .inl h⟩
  · exact ⟨hl, .inr ⟨g, cap, cur, hv, hg, (hb.block g (Array.getElem?_eq_some_iff.1 hh).1).trans hh, h⟩⟩
theorem ot_set {B b : Nat} {v : Value} {l : List TA} {cs : Array Value} (h : OT B V v l) (hb : b < B) : OT B (V.setRow b cs) v l := by
  obtain ⟨hl, h | ⟨g, cap, cur, hv, hg, hh, h⟩⟩ := h
  · exact ⟨hl, .inl h⟩
  · exact ⟨hl, .inr ⟨g, cap, cur, hv, hg, (setRow_other V b g cs (by omega)).trans hh, h⟩⟩
theorem ot_rs {B : Nat} {v : Value} {l : List TA} (h : OT B V v l) (hl : l.length ≤ 100000) : ∃ p n c, v = .slice p n c ∧ RS V p n c l ∧ ∀ a, p = some a → B ≤ a.block := by
  obtain ⟨hl2, ⟨rfl, h0⟩ | ⟨g, cap, cur, rfl, hg, hh, h1, h2, h3, h4⟩⟩ := h
  · have : l = [] := List.eq_nil_of_length_eq_zero h0
    subst this
    exact ⟨none, 0, 0, rfl, RS.nil V, fun a e => by cases e⟩
  · refine ⟨_, _, _, rfl, ⟨rfl, h1, h2, hl, .inr ⟨g, 0, rfl, (Array.getElem?_eq_some_iff.1 hh).1, fun j u hj => ?_⟩⟩, fun a e => by cases e; exact hg⟩
    rw [Nat.zero_add, cell_of_row V g j _ _ (0, 0) hh]
    rw [← h4] at hj
    rw [List.getElem?_take] at hj
    split at hj
    · rwa [Array.getElem?_toList] at hj
    · cases hj
theorem RS.set {p : Option Addr} {n c b : Nat} {l : List TA} {cs : Array Value} (h : RS V p n c l) (hb : ∀ a, p = some a → a.block ≠ b) : RS (V.setRow b cs) p n c l :=
  ⟨h.len, h.cap, h.big, h.sml, h.mem.imp id fun ⟨b', o, e, hlt, hr⟩ => ⟨b', o, e, by simpa [World.setRow] using hlt, fun j v hv => by
    rw [World.cell?_of_block (w := V) (a := ⟨b', o + j, none⟩) (setRow_other V b b' cs (hb _ e))]; exact hr j v hv⟩⟩
theorem wpList_build1 {P : Program} {ops : Array Oper} {rest : List Oper} {o : Oper} {a : Act} {Q : Exit → Act → World → Prop} {w : World} (hg : o.guard = none) (t : TypeId) (i : Nat) (x : Operand) (ho : o.op = .build t #[(i, x)]) (v x' : Value) (hx : a.eval x = x')
    (hl : (Instr.build t #[(i, x')]).run P w = .ok v w) (h : wpList P ops Q rest (a.put o.dst v) w) : wpList P ops Q (o :: rest) a w :=
  wpList_build_of hg t _ ho v (by subst hx; simpa using hl) h
theorem zero_ra (w : World) : (zeroValue 26).run Tryz.prog w = .ok (rv1 none 0 0) w := by kernel_rfl
theorem store_ra (b : Nat) (p q : Option Addr) (n c m d : Nat) (w : World) (h : w.heap[b]? = some (rob p n c)) : (Instr.storeAt 26 (.pointer (some ⟨b, 0, none⟩)) (rv1 q m d)).run Tryz.prog w = .ok () (w.setRow b #[.slice q m d]) := by
  simp only [Instr.storeAt, Instr.sureAddr, Sem.run_bind, Sem.run_pure, Result.andThen_ok, run_storeVar_row (P := Tryz.prog) w b _ 26 _ #[.slice q m d] h (by kernel_rfl) rfl (by simp; rfl)]
theorem built_ra (p : Option Addr) (n c : Nat) (w : World) : (Instr.build 26 #[(0, .slice p n c)]).run Tryz.prog w = .ok (rv1 p n c) w := run_build w 26 _ _ (by kernel_rfl)
theorem built_ra0 (w : World) : (Instr.build 26 #[]).run Tryz.prog w = .ok (rv1 none 0 0) w := run_build w 26 _ _ (by kernel_rfl)
theorem results_re {fn : Func} {p u : Tmp} (h : fn.results = #[.cell p 26, .tmp u]) (tmps : Array Value) (w : World) (g : Nat) (q : Option Addr) (n c : Nat) (v : Value) (hp : tmps.getD p undef = .pointer (some ⟨g, 0, none⟩)) (hu : tmps.getD u undef = v) (hrow : w.heap[g]? = some (rob q n c)) :
    (results fn tmps).run Tryz.prog w = .ok (.tuple #[rv1 q n c, v]) w := by
  rw [results_cell_tmp h, hp, hu]
  have ha : (asAddr (.pointer (some ⟨g, 0, none⟩))).run Tryz.prog w = .ok ⟨g, 0, none⟩ w := rfl
  rw [ha]
  simp only [Result.andThen_ok]
  rw [run_loadVar_row w g 26 26 #[.slice q n c] (0, 0) _ hrow Tryz.underlying26 rfl (by kernel_rfl)]
  rfl
/-- the error of too many tiles -/
def many (l : List TA) : Int := if l.length ≤ 1024 then 0 else 2
def cut (l : List TA) : List TA := if l.length ≤ 1024 then l else []
end Go.Proofs.YtfncldaodbfakaaGreat.Q
