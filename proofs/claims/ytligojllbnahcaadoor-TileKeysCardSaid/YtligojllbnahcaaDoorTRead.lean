/-
  Read of tile (contract). Read of tile (contract). A tile and an error, as the reference's Read gives them. Read of the reference (contract).
-/
import Derived.Test.YtligojllbnahcaaDoorTOps
import Derived.Test.YtligojllbnahcaaDoorTByt
import Derived.Laws.ResultCell
namespace Go.Proofs.YtligojllbnahcaaDoor.T
open Go.RowKit Go.Shelf

theorem idx_s (b : ByteArray) (o : Nat) (ho : o < b.size) (i : Int) (hi : i = o) (w : World) : (Instr.index 9 (.string b) (.int .i64 i)).run Tryd.prog w = .ok (.int .u8 (i8 (b.data.toList.getD o 0))) w := by
  subst hi
  rw [run_index_string w _ b .i64 _ Tryd.underlying9, dif_pos (by omega)]
  have e : b.data.toList.getD o 0 = b[o] := by
    rw [List.getD_eq_getElem?_getD, Array.getElem?_toList, Array.getElem?_eq_getElem ho]; rfl
  rw [e]
  rfl
theorem ext_at (s : ByteArray) (a j : Nat) (hs : a + j < s.size) : (s.extract a s.size).data.toList.getD j 0 = s.data.toList.getD (a + j) 0 := by
  rw [List.getD_eq_getElem?_getD, List.getD_eq_getElem?_getD]
  congr 1
  have e : (s.extract a s.size).data.toList = (s.data.toList.drop a).take (s.size - a) := by simp
  rw [e, List.getElem?_take, if_pos (by omega), List.getElem?_drop]
set_option maxRecDepth 100000 in
set_option maxHeartbeats 4000000 in
theorem read1 (s : ByteArray) (hs : s.size = 256) (bs i : Nat) (V : World) (hi : i < 64) (h : V.heap[bs]? = some (vo (.string s) 9)) :
    Calls Tryd.prog 20 (#[.int .i64 i, ptv i] ++ #[ptrB bs]) V fun e w' => e = .returned (rdp s.data.toList i).v ∧ Below V.heap.size V w' := by
  have key : Calls Tryd.prog 20 #[.int .i64 i, ptv i, ptrB bs] V fun e w' => e = .returned (rdp s.data.toList i).v ∧ Below V.heap.size V w' := by
    have hst := (((St.start V).more h).alloc (pto i)).alloc (pxo zp)
    rw [World.size_alloc] at hst
    have hlb : bs < V.heap.size := (Array.getElem?_eq_some_iff.1 h).1
    obtain ⟨V2, hV2⟩ : ∃ V2, V2 = (V.alloc (pto i)).alloc (pxo zp) := ⟨_, rfl⟩
    rw [← hV2] at hst
    have HV := Lib.hid hV2
    have hc := hst.var (b := bs) (x := .string s) (t := 9) (by simp)
    have h2 := hst.sub (L' := (V.heap.size + 1, pxo zp) :: [(bs, vo (.string s) 9)]) (by simp)
    have H2 := Lib.hid h2
    have hsl : ∀ W, (Instr.slice 9 (.string s) (some (.int .i64 (4 * (i : Int)))) none none).run Tryd.prog W = .ok (.string (s.extract (4 * i) s.size)) W := fun W => by
      rw [run_slice_string_l W 9 s Tryd.underlying9 .i64 (4 * (i : Int)) (by omega) (by omega), show (4 * (i : Int)).toNat = 4 * i by omega]
    have hz : (s.extract (4 * i) s.size).size = 256 - 4 * i := by simp; omega
    have hx : ∀ j : Nat, j < 4 → ∀ W, (Instr.index 9 (.string (s.extract (4 * i) s.size)) (.int .i64 (j : Int))).run Tryd.prog W = .ok (.int .u8 (i8 (s.data.toList.getD (4 * i + j) 0))) W := fun j hj W => by
      rw [idx_s _ j (by omega) _ rfl W, ext_at s (4 * i) j (by omega)]
    have hx0 : ∀ W, (Instr.index 9 (.string (s.extract (4 * i) s.size)) (.int .i64 0)).run Tryd.prog W = .ok (.int .u8 (rdp s.data.toList i).r) W := fun W => hx 0 (by omega) W
    have hx1 : ∀ W, (Instr.index 9 (.string (s.extract (4 * i) s.size)) (.int .i64 1)).run Tryd.prog W = .ok (.int .u8 (rdp s.data.toList i).g) W := fun W => hx 1 (by omega) W
    have hx2 : ∀ W, (Instr.index 9 (.string (s.extract (4 * i) s.size)) (.int .i64 2)).run Tryd.prog W = .ok (.int .u8 (rdp s.data.toList i).b) W := fun W => hx 2 (by omega) W
    have hx3 : ∀ W, (Instr.index 9 (.string (s.extract (4 * i) s.size)) (.int .i64 3)).run Tryd.prog W = .ok (.int .u8 (rdp s.data.toList i).a) W := fun W => hx 3 (by omega) W
    clear h hst hV2 hx hz
    generalize s.extract (4 * i) s.size = T at *
    generalize rdp s.data.toList i = q at *
    go_enter Tryd.func20, Tryd.ntmps20
    go_upto_region 1 with fail
    have e1 : (V.alloc (pto i)).alloc (po 0 0 0 0) = V2 := HV.out.symm
    rw [e1]
    clear e1
    go_upto_region 2 with fail
    clear hsl hc h2
    have h2 := H2.out
    refine wp_region_held_drew (S := fun V9 => St V [(bs, vo (.string s) 9)] V9) (by kernel_rfl) ?_ (fun hHeld => ?_)
    · first | exact h2.drew | exact h2.drew.tl
    have h20 := h2.drew
    refine wpAnyH_take (i := 0) (oi := { dst := some 11, op := Op.move (Operand.tmp 6), type := 9, pos := "bytes.go:29", after := #[], guard := none }) (v := ?_) rfl (by kernel_rfl) (by kernel_rfl) (by kernel_rfl) (fun _ _ _ h => h) (Or.inl ⟨by kernel_rfl, ?_⟩) (by assumption) ?_
    rotate_left 1
    focus (intro w hSw; (try dsimp only at hSw); go_simp; (try with_reducible rfl))
    try simp only [Act.put, List.setIfInBounds_toArray, List.set_cons_zero, List.set_cons_succ]
    refine wpAnyH_take (i := 1) (oi := { dst := some 12, op := Op.index 9 (Operand.tmp 11) (Operand.const (Value.int IntKind.i64 0)), type := 5, pos := "bytes.go:29", after := #[{ on := 0, ground := Ground.data }], guard := none }) (v := ?_) rfl (by kernel_rfl) (by kernel_rfl) (by kernel_rfl) (fun _ _ _ h => h) (Or.inl ⟨by kernel_rfl, ?_⟩) (by assumption) ?_
    rotate_left 1
    focus (intro w hSw; (try dsimp only at hSw); go_simp; (try with_reducible rfl))
    try simp only [Act.put, List.setIfInBounds_toArray, List.set_cons_zero, List.set_cons_succ]
    refine wpAnyH_take (i := 2) (oi := { dst := some 13, op := Op.move (Operand.tmp 6), type := 9, pos := "bytes.go:29", after := #[], guard := none }) (v := ?_) rfl (by kernel_rfl) (by kernel_rfl) (by kernel_rfl) (fun _ _ _ h => h) (Or.inl ⟨by kernel_rfl, ?_⟩) (by assumption) ?_
    rotate_left 1
    focus (intro w hSw; (try dsimp only at hSw); go_simp; (try with_reducible rfl))
    try simp only [Act.put, List.setIfInBounds_toArray, List.set_cons_zero, List.set_cons_succ]
    refine wpAnyH_take (i := 3) (oi := { dst := some 14, op := Op.index 9 (Operand.tmp 13) (Operand.const (Value.int IntKind.i64 1)), type := 5, pos := "bytes.go:29", after := #[{ on := 2, ground := Ground.data }], guard := none }) (v := ?_) rfl (by kernel_rfl) (by kernel_rfl) (by kernel_rfl) (fun _ _ _ h => h) (Or.inl ⟨by kernel_rfl, ?_⟩) (by assumption) ?_
    rotate_left 1
    focus (intro w hSw; (try dsimp only at hSw); go_simp; (try with_reducible rfl))
    try simp only [Act.put, List.setIfInBounds_toArray, List.set_cons_zero, List.set_cons_succ]
    refine wpAnyH_take (i := 4) (oi := { dst := some 15, op := Op.move (Operand.tmp 6), type := 9, pos := "bytes.go:29", after := #[], guard := none }) (v := ?_) rfl (by kernel_rfl) (by kernel_rfl) (by kernel_rfl) (fun _ _ _ h => h) (Or.inl ⟨by kernel_rfl, ?_⟩) (by assumption) ?_
    rotate_left 1
    focus (intro w hSw; (try dsimp only at hSw); go_simp; (try with_reducible rfl))
    try simp only [Act.put, List.setIfInBounds_toArray, List.set_cons_zero, List.set_cons_succ]
    refine wpAnyH_take (i := 5) (oi := { dst := some 16, op := Op.index 9 (Operand.tmp 15) (Operand.const (Value.int IntKind.i64 2)), type := 5, pos := "bytes.go:29", after := #[{ on := 4, ground := Ground.data }], guard := none }) (v := ?_) rfl (by kernel_rfl) (by kernel_rfl) (by kernel_rfl) (fun _ _ _ h => h) (Or.inl ⟨by kernel_rfl, ?_⟩) (by assumption) ?_
    rotate_left 1
    focus (intro w hSw; (try dsimp only at hSw); go_simp; (try with_reducible rfl))
    try simp only [Act.put, List.setIfInBounds_toArray, List.set_cons_zero, List.set_cons_succ]
    refine wpAnyH_take (i := 6) (oi := { dst := some 17, op := Op.move (Operand.tmp 6), type := 9, pos := "bytes.go:29", after := #[], guard := none }) (v := ?_) rfl (by kernel_rfl) (by kernel_rfl) (by kernel_rfl) (fun _ _ _ h => h) (Or.inl ⟨by kernel_rfl, ?_⟩) (by assumption) ?_
    rotate_left 1
    focus (intro w hSw; (try dsimp only at hSw); go_simp; (try with_reducible rfl))
    try simp only [Act.put, List.setIfInBounds_toArray, List.set_cons_zero, List.set_cons_succ]
    refine wpAnyH_take (i := 7) (oi := { dst := some 18, op := Op.index 9 (Operand.tmp 17) (Operand.const (Value.int IntKind.i64 3)), type := 5, pos := "bytes.go:29", after := #[{ on := 6, ground := Ground.data }], guard := none }) (v := ?_) rfl (by kernel_rfl) (by kernel_rfl) (by kernel_rfl) (fun _ _ _ h => h) (Or.inl ⟨by kernel_rfl, ?_⟩) (by assumption) ?_
    rotate_left 1
    focus (intro w hSw; (try dsimp only at hSw); go_simp; (try with_reducible rfl))
    try simp only [Act.put, List.setIfInBounds_toArray, List.set_cons_zero, List.set_cons_succ]
    refine wpAnyH_take (i := 8) (oi := { dst := some 19, op := Op.build 23 #[(0, Operand.tmp 12), (1, Operand.tmp 14), (2, Operand.tmp 16), (3, Operand.tmp 18)], type := 23, pos := "bytes.go:29", after := #[{ on := 1, ground := Ground.data }, { on := 3, ground := Ground.data }, { on := 5, ground := Ground.data }, { on := 7, ground := Ground.data }], guard := none }) (v := ?_) rfl (by kernel_rfl) (by kernel_rfl) (by kernel_rfl) (fun _ _ _ h => h) (Or.inl ⟨by kernel_rfl, ?_⟩) (by assumption) ?_
    rotate_left 1
    focus (intro w hSw; (try dsimp only at hSw); go_simp; (try with_reducible rfl))
    try simp only [Act.put, List.setIfInBounds_toArray, List.set_cons_zero, List.set_cons_succ]
    refine wpAnyH_ready (rs := [9]) (by kernel_rfl) (by simp) (AllReadyH.cons (o := { dst := none, op := Op.store 23 (Operand.tmp 5) (Operand.tmp 19), type := 0, pos := "bytes.go:29", after := #[{ on := 8, ground := Ground.data }, { on := 0, ground := Ground.phase }, { on := 1, ground := Ground.phase }, { on := 2, ground := Ground.phase }, { on := 3, ground := Ground.phase }, { on := 4, ground := Ground.phase }, { on := 5, ground := Ground.phase }, { on := 6, ground := Ground.phase }, { on := 7, ground := Ground.phase }, { on := 8, ground := Ground.phase }], guard := none }) rfl (fun K hK => ?_) AllReadyH.nil)
    have h21r2 := St.rowset (ds := (pl q).toArray) h20 (by omega) (by simp; omega)
    refine wp_store_of 23 _ _ rfl (store_px0 _ zp q _ (h20.row (List.mem_cons_self ..))) ?_
    refine hK.out _ _ ?_ (fun hHeld => ?_)
    · (first | exact h21r2 | exact h21r2.tl)
    clear hK K
    try simp only [Act.put]
    refine wpAnyH_done (by kernel_rfl) ?_ _
    have HB := Lib.hid h21r2.below
    have HR := Lib.hid (h21r2.row (b := V.heap.size + 1) (o := pxo q) (List.mem_cons_self ..))
    go_wp2_with fail
    exact bodyPost_ret (v := q.v) (results_cell_row rfl _ _ (V.heap.size + 1) _ _ _ _ rfl HR.out Tryd.underlying23 rfl info_px) rfl ⟨rfl, HB.out⟩
  exact key
end Go.Proofs.YtligojllbnahcaaDoor.T

namespace Go.Proofs.YtligojllbnahcaaDoor.T
open Go.RowKit Go.Shelf

theorem results_ct {fn : Func} {p u : Tmp} (h : fn.results = #[.cell p 25, .tmp u]) (tmps : Array Value) (w : World) (g : Nat) (f : Nat → Px) (v : Value) (hp : tmps.getD p undef = ptrB g) (hu : tmps.getD u undef = v) (hrow : w.heap[g]? = some (tob f)) :
    (results fn tmps).run Tryd.prog w = .ok (.tuple #[tv f, v]) w := by
  rw [results_cell_tmp h, hp, hu]
  have ha : (asAddr (ptrB g)).run Tryd.prog w = .ok ⟨g, 0, none⟩ w := rfl
  rw [ha]
  simp only [Result.andThen_ok]
  rw [run_loadVar_row w g 25 25 (tc f) (0, 0) _ hrow Tryd.underlying25 rfl (by rw [info_tile, tc_size])]
  rfl
/-- what Read gives: the tile and the error -/
def rdT (s : ByteArray) : Nat → Px := if s.size = 256 then rdp s.data.toList else z0
def rdE (s : ByteArray) : Int := if s.size = 256 then 0 else 11
theorem rdT_yes {s : ByteArray} (h : s.size = 256) : rdT s = rdp s.data.toList := if_pos h
theorem rdT_no {s : ByteArray} (h : ¬ s.size = 256) : rdT s = z0 := if_neg h
theorem rdE_yes {s : ByteArray} (h : s.size = 256) : rdE s = 0 := if_pos h
theorem rdE_no {s : ByteArray} (h : ¬ s.size = 256) : rdE s = 11 := if_neg h
set_option maxRecDepth 100000 in
set_option maxHeartbeats 4000000 in
theorem read_any (s : ByteArray) (w : World) : Calls Tryd.prog 7 #[.string s] w fun e w' => e = .returned (.tuple #[tv (rdT s), .int .i64 (rdE s)]) ∧ Below w.heap.size w w' := by
  obtain ⟨V2, hV2⟩ : ∃ V2, V2 = (w.alloc (vo (.string s) 9)).alloc (tob z0) := ⟨_, rfl⟩
  have hst := ((St.start w).alloc (vo (.string s) 9)).alloc (tob z0)
  simp only [World.size_alloc] at hst
  rw [← hV2] at hst
  have HV := Lib.hid hV2
  have hc := hst.var (b := w.heap.size) (x := .string s) (t := 9) (by simp)
  have HS := Lib.hid hst
  have hzt := zero_tile
  clear hst hV2
  go_enter Tryd.func7, Tryd.ntmps7
  go_upto_region 1 with fail
  have e1 : (w.alloc (vo (.string s) 9)).alloc (tob z0) = V2 := HV.out.symm
  have e0 : (w.alloc (.cells #[.string s] 9)).alloc (tob z0) = V2 := e1
  first | rw [e1] | rw [e0]
  clear e1 e0
  by_cases hs : s.size = 256
  · have hn : ((s.size : Int) = 256) = True := by simp; omega
    have hn2 : ((s.size : Int) != 256) = false := by simp; omega
    have HX := Lib.hid (St.call HS.out (generate_any 20 #[ptrB w.heap.size] (rdp s.data.toList) V2 (enters_of Tryd.func20 (by kernel_rfl) rfl) (fun V hV i hi => read1 s hs _ i V hi (old_row (HS.out.row (b := w.heap.size) (o := vo (.string s) 9) (by simp)) hV))))
    have HT := Lib.hid (rdT_yes hs)
    have HE := Lib.hid (rdE_yes hs)
    have hs' : (s.size : Int) = 256 := by omega
    clear hs
    generalize rdp s.data.toList = F at *
    go_upto_region 4 with (first
      | (go_at_call 19; (refine HX.out.mono ?_); rintro e V3 ⟨rfl, h⟩; have HN := Lib.hid (St.rowset (ds := tc F) (h.alloc (tob z0)) h.below.size (fun x hx => Nat.ne_of_lt (Array.getElem?_eq_some_iff.1 (h.rows x hx)).1)); have HA := Lib.hid (World.alloc_heap_new V3 (tob z0)); clear h)
      | (refine wpList_alloc_of rfl 25 rfl _ (zero_tile _) ?_)
      | (refine wpList_store_of rfl 25 _ _ rfl (store_tile _ z0 _ _ HA.out) ?_))
    generalize V3.heap.size = n at *
    generalize (V3.alloc (.cells (tc z0) 25)).setRow n (tc F) = V4 at HN ⊢
    clear HA HX
    try simp only [Act.put, List.setIfInBounds_toArray, List.set_cons_zero, List.set_cons_succ]
    have HL := Lib.hid (load_tile n F V4 (HN.out.row (List.mem_cons_self ..)))
    have h5 := HN.out.sub (L' := [(w.heap.size + 1, tob z0)]) (by simp)
    have HR := Lib.hid (h5.row (b := w.heap.size + 1) (o := tob z0) (by simp))
    have HB := Lib.hid h5.below
    clear h5
    go_wp2_with (first
      | (refine wpList_load_of rfl 25 _ rfl _ HL.out ?_)
      | (refine wpList_store_of rfl 25 _ _ rfl (store_tile _ z0 F _ HR.out) ?_))
    exact bodyPost_ret (results_ct rfl _ _ (w.heap.size + 1) F (.int .i64 0) rfl rfl (setRow_heap _ _ _ _ _ _ HR.out)) rfl ⟨by rw [HT.out, HE.out], Below.setRow HB.out (by omega) _⟩
  · have hn : ((s.size : Int) = 256) = False := by simp; omega
    have hn2 : ((s.size : Int) != 256) = true := by simp; omega
    have HT := Lib.hid (rdT_no hs)
    have HE := Lib.hid (rdE_no hs)
    have hs' : ¬ (s.size : Int) = 256 := by omega
    clear hs
    have HR := Lib.hid (HS.out.row (b := w.heap.size + 1) (o := tob z0) (by simp))
    go_wp2_with (first
      | (refine wpList_build0 rfl 25 rfl _ (built0 _) ?_)
      | (refine wpList_store_of rfl 25 _ _ rfl (store_tile _ z0 z0 _ HR.out) ?_))
    exact bodyPost_ret (results_ct rfl _ _ (w.heap.size + 1) z0 (.int .i64 11) rfl rfl (setRow_heap _ _ _ _ _ _ HR.out)) rfl ⟨by rw [HT.out, HE.out], Below.setRow HS.out.below (by omega) _⟩
end Go.Proofs.YtligojllbnahcaaDoor.T

namespace Go.Proofs.YtligojllbnahcaaDoor.T
open Go.RowKit Go.Shelf

/-- the cells of a tile and an error -/
def gotc (f : Nat → Px) (e : Int) : Array Value := tc f ++ #[Value.int .i64 e]
theorem gotc_size (f : Nat → Px) (e : Int) : (gotc f e).size = 257 := by unfold gotc; simp [tc_size]
abbrev gob (f : Nat → Px) (e : Int) : Obj := .cells (gotc f e) 32
set_option maxRecDepth 100000 in
theorem zero_got (w : World) : (zeroValue 32).run Tryd.prog w = .ok (.agg (gotc z0 0)) w := by kernel_rfl
theorem info_got : (Tryd.prog.info? 32).map (·.size) = some 257 := by kernel_rfl
theorem gotc_one (f : Nat → Px) (e : Int) : (gotc f e).all (·.oneCell') = true := by
  unfold gotc
  rw [Array.all_append, tc_one]
  simp
  rfl
theorem store_got (b : Nat) (f g : Nat → Px) (x y : Int) (w : World) (h : w.heap[b]? = some (gob f x)) : (Instr.storeAt 32 (ptrB b) (.agg (gotc g y))).run Tryd.prog w = .ok () (w.setRow b (gotc g y)) := by
  simp only [Instr.storeAt, Instr.sureAddr, Sem.run_bind, Sem.run_pure, Result.andThen_ok, run_storeVar_row w b _ 32 _ _ h (by rw [info_got, gotc_size]) (by rw [gotc_size, gotc_size]) (gotc_one g y)]
set_option maxRecDepth 100000 in
theorem built_got (w : World) : (Instr.build 32 #[(1, .int .i64 11)]).run Tryd.prog w = .ok (.agg (gotc z0 11)) w := run_build w 32 _ _ (by kernel_rfl)
set_option maxRecDepth 100000 in
theorem built_gott (f : Nat → Px) (w : World) : (Instr.build 32 #[(0, tv f)]).run Tryd.prog w = .ok (.agg (gotc f 0)) w := by
  refine run_build w 32 _ _ ?_
  have hz : (Tryd.prog.info? 32).bind (fun i => i.zero.map (·.cells)) = some (gotc z0 0) := by kernel_rfl
  have hb : ∃ it fs z, Tryd.prog.info? 32 = some it ∧ Tryd.prog.underlying 32 = some (.struct fs) ∧ it.zero = some z ∧ z.cells = gotc z0 0 := by
    cases h1 : Tryd.prog.info? 32 with
    | none => rw [h1] at hz; simp at hz
    | some it =>
      rw [h1] at hz
      cases h3 : it.zero with
      | none => simp [h3] at hz
      | some z => simp [h3] at hz; exact ⟨it, _, z, rfl, Tryd.underlying32, h3, hz⟩
  obtain ⟨it, fs, z, h1, h2, h3, h4⟩ := hb
  have hp : (match Tryd.prog.underlying 32 with | some (.struct fs) => fs.toList.mapM (fun f => (Tryd.prog.info? f.type).map fun i => (f.offset, i.size)) | _ => none) = some [(0, 256), (256, 1)] := by kernel_rfl
  rw [h2] at hp
  unfold Program.built
  rw [h1, h2]
  simp only [h3]
  simp only at hp
  rw [hp]
  have c0 : (Value.agg (tc f)).cells = tc f := rfl
  show Instr.fill (fun i => #[(0, 256), (256, 1)][i]?) z.cells [(0, tv f)] = some (gotc f 0)
  rw [h4]
  have q0 : (#[(0, 256), (256, 1)] : Array (Nat × Nat))[0]? = some (0, 256) := rfl
  simp only [Instr.fill, q0, c0, tc_size, gotc_size]
  rw [if_neg (by simp)]
  refine congrArg some ?_
  apply Array.ext_getElem?
  intro k
  rw [fold_arr 0 (tc f) (gotc z0 0) k (by rw [tc_size, gotc_size]; omega), tc_size]
  unfold gotc
  by_cases hk : k < 256
  · rw [if_pos (by omega), Nat.sub_zero, Array.getElem?_append_left (by rw [tc_size]; exact hk)]
  · rw [if_neg (by omega), Array.getElem?_append_right (by rw [tc_size]; omega), Array.getElem?_append_right (by rw [tc_size]; omega), tc_size, tc_size]
end Go.Proofs.YtligojllbnahcaaDoor.T

namespace Go.Proofs.YtligojllbnahcaaDoor.T
open Go.RowKit Go.Shelf

theorem load_allr {b : Nat} {f g : Nat → Px} {w : World} (h : w.heap[b]? = some (tob (pt f g 64))) : (Instr.loadAt 25 (.pointer (some ⟨b, 0, none⟩))).run Tryd.prog w = .ok (tv g) w := by
  have e : tob (pt f g 64) = tob g := congrArg (fun c => Obj.cells c 25) (pt_all f g)
  rw [e] at h
  exact load_tile b g w h
theorem wpList_build1 {P : Program} {ops : Array Oper} {rest : List Oper} {o : Oper} {a : Act} {Q : Exit → Act → World → Prop} {w : World} (hg : o.guard = none) (t : TypeId) (i : Nat) (x : Operand) (ho : o.op = .build t #[(i, x)]) (v x' : Value) (hx : a.eval x = x')
    (hl : (Instr.build t #[(i, x')]).run P w = .ok v w) (h : wpList P ops Q rest (a.put o.dst v) w) : wpList P ops Q (o :: rest) a w :=
  wpList_build_of hg t _ ho v (by subst hx; simpa using hl) h
set_option maxRecDepth 100000 in
set_option maxHeartbeats 4000000 in
theorem refRead_any (s : ByteArray) (w : World) : Calls Tryd.prog 8 #[.string s] w fun e w' => e = .returned (.agg (gotc (rdT s) (rdE s))) ∧ Below w.heap.size w w' := by
  obtain ⟨V2, hV2⟩ : ∃ V2, V2 = w.alloc (gob z0 0) := ⟨_, rfl⟩
  have hst := (St.start w).alloc (gob z0 0)
  rw [← hV2] at hst
  have hz2 : V2.heap.size = w.heap.size + 1 := by rw [hV2]; simp
  have HV := Lib.hid hV2
  have HZ2 := Lib.hid hz2
  have HS := Lib.hid hst
  have hzt := zero_tile
  have HR := Lib.hid (hst.row (b := w.heap.size) (o := gob z0 0) (by simp))
  clear hst hV2 hz2
  go_enter Tryd.func8, Tryd.ntmps8
  go_upto_region 1 with (refine wpList_alloc_of rfl 32 rfl _ (zero_got _) ?_)
  try simp only [Act.put, List.setIfInBounds_toArray, List.set_cons_zero, List.set_cons_succ]
  have e1 : w.alloc (gob z0 0) = V2 := HV.out.symm
  rw [e1]
  clear e1
  by_cases hs : s.size = 256
  · have HT := Lib.hid (rdT_yes hs)
    have HE := Lib.hid (rdE_yes hs)
    have hs' : (s.size : Int) = 256 := by omega
    have hA := World.alloc_heap_new V2 (tob z0)
    have h4 := St.rowset (ds := tc z0) (HS.out.alloc (tob z0)) (by have := HZ2.out; omega) (by have := HZ2.out; simp; omega)
    rw [HZ2.out] at hA h4
    have HA := Lib.hid hA
    have H4 := Lib.hid h4
    have hidx : ∀ (k j : Nat), k < 64 → j < 4 → ∀ W, (Instr.index 9 (.string s) (.int .i64 (4 * (k : Int) + (j : Int)))).run Tryd.prog W = .ok (.int .u8 (i8 (s.data.toList.getD (4 * k + j) 0))) W := fun k j hk hj W => idx_s s (4 * k + j) (by omega) _ (by omega) W
    have HI := Lib.hid hidx
    clear hA h4 hidx hs
    go_upto_region 3 with fail
    refine wp_region_lit ?_
    refine wpList_build0 rfl 25 rfl _ (built0 _) ?_
    simp only [Act.put, List.setIfInBounds_toArray, List.set_cons_zero, List.set_cons_succ]
    refine wpList_alloc_of rfl 25 rfl _ (zero_tile _) ?_
    simp only [Act.put, List.setIfInBounds_toArray, List.set_cons_zero, List.set_cons_succ]
    rw [HZ2.out]
    refine wpList_store_of rfl 25 _ _ rfl (store_tile (w.heap.size + 1) z0 z0 _ HA.out) ?_
    simp only [Act.put]
    generalize (V2.alloc (.cells (tc z0) 25)).setRow (w.heap.size + 1) (tc z0) = V3 at H4 ⊢
    clear hs'
    go_wp2
    go_loopw [4] (fun v wr => ∃ k : Nat, k ≤ 64 ∧ v = .int .i64 k ∧ Hid (St w [(w.heap.size + 1, tob (pt z0 (rdp s.data.toList) k)), (w.heap.size, gob z0 0)] wr)) (fun i _ => 64 - (intOf i).toNat)
    case atStart => exact ⟨0, by omega, rfl, by rw [pt_zero]; exact H4.out⟩
    case round =>
      obtain ⟨k, hk, rfl, HU⟩ := hrel
      by_cases hlt : k < 64
      · have hix := index_px (w.heap.size + 1) k hlt
        have h2 := HU.out
        have hx0 : ∀ W, (Instr.index 9 (.string s) (.int .i64 (4 * (k : Int)))).run Tryd.prog W = .ok (.int .u8 (rdp s.data.toList k).r) W := fun W => by
          have := HI.out k 0 hlt (by omega) W
          rwa [show 4 * (k : Int) + ((0 : Nat) : Int) = 4 * (k : Int) by omega] at this
        have hx1 : ∀ W, (Instr.index 9 (.string s) (.int .i64 (4 * (k : Int) + 1))).run Tryd.prog W = .ok (.int .u8 (rdp s.data.toList k).g) W := fun W => HI.out k 1 hlt (by omega) W
        have hx2 : ∀ W, (Instr.index 9 (.string s) (.int .i64 (4 * (k : Int) + 2))).run Tryd.prog W = .ok (.int .u8 (rdp s.data.toList k).b) W := fun W => HI.out k 2 hlt (by omega) W
        have hx3 : ∀ W, (Instr.index 9 (.string s) (.int .i64 (4 * (k : Int) + 3))).run Tryd.prog W = .ok (.int .u8 (rdp s.data.toList k).a) W := fun W => HI.out k 3 hlt (by omega) W
        have HST : Hid (∀ V, V.heap[w.heap.size + 1]? = some (tob (pt z0 (rdp s.data.toList) k)) → (Instr.storeAt 23 (.pointer (some ⟨w.heap.size + 1, 4 * k, none⟩)) (rdp s.data.toList k).v).run Tryd.prog V = .ok () (V.setRow (w.heap.size + 1) (tc (pt z0 (rdp s.data.toList) (k + 1))))) := fun V hV => by
          have := store_px (w.heap.size + 1) (pt z0 (rdp s.data.toList) k) k (rdp s.data.toList k) hlt V hV
          rwa [pt_succ] at this
        have w0 : IntKind.i64.wrap (4 * (k : Int)) = 4 * (k : Int) := IntWalk.i64_in _ ⟨by omega, by omega⟩
        have w1 : IntKind.i64.wrap (4 * (k : Int) + 1) = 4 * (k : Int) + 1 := IntWalk.i64_in _ ⟨by omega, by omega⟩
        have w2 : IntKind.i64.wrap (4 * (k : Int) + 2) = 4 * (k : Int) + 2 := IntWalk.i64_in _ ⟨by omega, by omega⟩
        have w3 : IntKind.i64.wrap (4 * (k : Int) + 3) = 4 * (k : Int) + 3 := IntWalk.i64_in _ ⟨by omega, by omega⟩
        go_upto_region 7 with fail
        refine wp_region_held_drew (S := fun V9 => St w [(w.heap.size, gob z0 0)] V9) (by kernel_rfl) ?_ (fun hHeld => ?_)
        · first | exact h2.drew | exact h2.drew.tl
        have h20 := h2.drew
        refine wpAnyH_take (i := 0) (oi := { dst := some 14, op := Op.move (Operand.tmp 4), type := 3, pos := "ref.go:135", after := #[], guard := none }) (v := ?_) rfl (by kernel_rfl) (by kernel_rfl) (by kernel_rfl) (fun _ _ _ h => h) (Or.inl ⟨by kernel_rfl, ?_⟩) (by assumption) ?_
        rotate_left 1
        focus (intro w hSw; (try dsimp only at hSw); go_simp; (try with_reducible rfl))
        try simp only [Act.put, List.setIfInBounds_toArray, List.set_cons_zero, List.set_cons_succ]
        refine wpAnyH_take (i := 1) (oi := { dst := some 15, op := Op.move (Operand.tmp 0), type := 9, pos := "ref.go:135", after := #[], guard := none }) (v := ?_) rfl (by kernel_rfl) (by kernel_rfl) (by kernel_rfl) (fun _ _ _ h => h) (Or.inl ⟨by kernel_rfl, ?_⟩) (by assumption) ?_
        rotate_left 1
        focus (intro w hSw; (try dsimp only at hSw); go_simp; (try with_reducible rfl))
        try simp only [Act.put, List.setIfInBounds_toArray, List.set_cons_zero, List.set_cons_succ]
        refine wpAnyH_take (i := 2) (oi := { dst := some 16, op := Op.move (Operand.tmp 4), type := 3, pos := "ref.go:135", after := #[], guard := none }) (v := ?_) rfl (by kernel_rfl) (by kernel_rfl) (by kernel_rfl) (fun _ _ _ h => h) (Or.inl ⟨by kernel_rfl, ?_⟩) (by assumption) ?_
        rotate_left 1
        focus (intro w hSw; (try dsimp only at hSw); go_simp; (try with_reducible rfl))
        try simp only [Act.put, List.setIfInBounds_toArray, List.set_cons_zero, List.set_cons_succ]
        refine wpAnyH_take (i := 3) (oi := { dst := some 17, op := Op.binOp BinOp.mul 3 (Operand.const (Value.int IntKind.i64 4)) (Operand.tmp 16) 3, type := 3, pos := "ref.go:135", after := #[{ on := 2, ground := Ground.data }], guard := none }) (v := ?_) rfl (by kernel_rfl) (by kernel_rfl) (by kernel_rfl) (fun _ _ _ h => h) (Or.inl ⟨by kernel_rfl, ?_⟩) (by assumption) ?_
        rotate_left 1
        focus (intro w hSw; (try dsimp only at hSw); go_simp; (try with_reducible rfl))
        try simp only [Act.put, List.setIfInBounds_toArray, List.set_cons_zero, List.set_cons_succ]
        refine wpAnyH_take (i := 4) (oi := { dst := some 18, op := Op.index 9 (Operand.tmp 15) (Operand.tmp 17), type := 5, pos := "ref.go:135", after := #[{ on := 1, ground := Ground.data }, { on := 3, ground := Ground.data }], guard := none }) (v := ?_) rfl (by kernel_rfl) (by kernel_rfl) (by kernel_rfl) (fun _ _ _ h => h) (Or.inl ⟨by kernel_rfl, ?_⟩) (by assumption) ?_
        rotate_left 1
        focus (intro w hSw; (try dsimp only at hSw); go_simp; (try with_reducible rfl))
        try simp only [Act.put, List.setIfInBounds_toArray, List.set_cons_zero, List.set_cons_succ]
        refine wpAnyH_take (i := 5) (oi := { dst := some 19, op := Op.move (Operand.tmp 0), type := 9, pos := "ref.go:135", after := #[], guard := none }) (v := ?_) rfl (by kernel_rfl) (by kernel_rfl) (by kernel_rfl) (fun _ _ _ h => h) (Or.inl ⟨by kernel_rfl, ?_⟩) (by assumption) ?_
        rotate_left 1
        focus (intro w hSw; (try dsimp only at hSw); go_simp; (try with_reducible rfl))
        try simp only [Act.put, List.setIfInBounds_toArray, List.set_cons_zero, List.set_cons_succ]
        refine wpAnyH_take (i := 6) (oi := { dst := some 20, op := Op.move (Operand.tmp 4), type := 3, pos := "ref.go:135", after := #[], guard := none }) (v := ?_) rfl (by kernel_rfl) (by kernel_rfl) (by kernel_rfl) (fun _ _ _ h => h) (Or.inl ⟨by kernel_rfl, ?_⟩) (by assumption) ?_
        rotate_left 1
        focus (intro w hSw; (try dsimp only at hSw); go_simp; (try with_reducible rfl))
        try simp only [Act.put, List.setIfInBounds_toArray, List.set_cons_zero, List.set_cons_succ]
        refine wpAnyH_take (i := 7) (oi := { dst := some 21, op := Op.binOp BinOp.mul 3 (Operand.const (Value.int IntKind.i64 4)) (Operand.tmp 20) 3, type := 3, pos := "ref.go:135", after := #[{ on := 6, ground := Ground.data }], guard := none }) (v := ?_) rfl (by kernel_rfl) (by kernel_rfl) (by kernel_rfl) (fun _ _ _ h => h) (Or.inl ⟨by kernel_rfl, ?_⟩) (by assumption) ?_
        rotate_left 1
        focus (intro w hSw; (try dsimp only at hSw); go_simp; (try with_reducible rfl))
        try simp only [Act.put, List.setIfInBounds_toArray, List.set_cons_zero, List.set_cons_succ]
        refine wpAnyH_take (i := 8) (oi := { dst := some 22, op := Op.binOp BinOp.add 3 (Operand.tmp 21) (Operand.const (Value.int IntKind.i64 1)) 3, type := 3, pos := "ref.go:135", after := #[{ on := 7, ground := Ground.data }], guard := none }) (v := ?_) rfl (by kernel_rfl) (by kernel_rfl) (by kernel_rfl) (fun _ _ _ h => h) (Or.inl ⟨by kernel_rfl, ?_⟩) (by assumption) ?_
        rotate_left 1
        focus (intro w hSw; (try dsimp only at hSw); go_simp; (try with_reducible rfl))
        try simp only [Act.put, List.setIfInBounds_toArray, List.set_cons_zero, List.set_cons_succ]
        refine wpAnyH_take (i := 9) (oi := { dst := some 23, op := Op.index 9 (Operand.tmp 19) (Operand.tmp 22), type := 5, pos := "ref.go:135", after := #[{ on := 5, ground := Ground.data }, { on := 8, ground := Ground.data }], guard := none }) (v := ?_) rfl (by kernel_rfl) (by kernel_rfl) (by kernel_rfl) (fun _ _ _ h => h) (Or.inl ⟨by kernel_rfl, ?_⟩) (by assumption) ?_
        rotate_left 1
        focus (intro w hSw; (try dsimp only at hSw); go_simp; (try with_reducible rfl))
        try simp only [Act.put, List.setIfInBounds_toArray, List.set_cons_zero, List.set_cons_succ]
        refine wpAnyH_take (i := 10) (oi := { dst := some 24, op := Op.move (Operand.tmp 0), type := 9, pos := "ref.go:135", after := #[], guard := none }) (v := ?_) rfl (by kernel_rfl) (by kernel_rfl) (by kernel_rfl) (fun _ _ _ h => h) (Or.inl ⟨by kernel_rfl, ?_⟩) (by assumption) ?_
        rotate_left 1
        focus (intro w hSw; (try dsimp only at hSw); go_simp; (try with_reducible rfl))
        try simp only [Act.put, List.setIfInBounds_toArray, List.set_cons_zero, List.set_cons_succ]
        refine wpAnyH_take (i := 11) (oi := { dst := some 25, op := Op.move (Operand.tmp 4), type := 3, pos := "ref.go:135", after := #[], guard := none }) (v := ?_) rfl (by kernel_rfl) (by kernel_rfl) (by kernel_rfl) (fun _ _ _ h => h) (Or.inl ⟨by kernel_rfl, ?_⟩) (by assumption) ?_
        rotate_left 1
        focus (intro w hSw; (try dsimp only at hSw); go_simp; (try with_reducible rfl))
        try simp only [Act.put, List.setIfInBounds_toArray, List.set_cons_zero, List.set_cons_succ]
        refine wpAnyH_take (i := 12) (oi := { dst := some 26, op := Op.binOp BinOp.mul 3 (Operand.const (Value.int IntKind.i64 4)) (Operand.tmp 25) 3, type := 3, pos := "ref.go:135", after := #[{ on := 11, ground := Ground.data }], guard := none }) (v := ?_) rfl (by kernel_rfl) (by kernel_rfl) (by kernel_rfl) (fun _ _ _ h => h) (Or.inl ⟨by kernel_rfl, ?_⟩) (by assumption) ?_
        rotate_left 1
        focus (intro w hSw; (try dsimp only at hSw); go_simp; (try with_reducible rfl))
        try simp only [Act.put, List.setIfInBounds_toArray, List.set_cons_zero, List.set_cons_succ]
        refine wpAnyH_take (i := 13) (oi := { dst := some 27, op := Op.binOp BinOp.add 3 (Operand.tmp 26) (Operand.const (Value.int IntKind.i64 2)) 3, type := 3, pos := "ref.go:135", after := #[{ on := 12, ground := Ground.data }], guard := none }) (v := ?_) rfl (by kernel_rfl) (by kernel_rfl) (by kernel_rfl) (fun _ _ _ h => h) (Or.inl ⟨by kernel_rfl, ?_⟩) (by assumption) ?_
        rotate_left 1
        focus (intro w hSw; (try dsimp only at hSw); go_simp; (try with_reducible rfl))
        try simp only [Act.put, List.setIfInBounds_toArray, List.set_cons_zero, List.set_cons_succ]
        refine wpAnyH_take (i := 14) (oi := { dst := some 28, op := Op.index 9 (Operand.tmp 24) (Operand.tmp 27), type := 5, pos := "ref.go:135", after := #[{ on := 10, ground := Ground.data }, { on := 13, ground := Ground.data }], guard := none }) (v := ?_) rfl (by kernel_rfl) (by kernel_rfl) (by kernel_rfl) (fun _ _ _ h => h) (Or.inl ⟨by kernel_rfl, ?_⟩) (by assumption) ?_
        rotate_left 1
        focus (intro w hSw; (try dsimp only at hSw); go_simp; (try with_reducible rfl))
        try simp only [Act.put, List.setIfInBounds_toArray, List.set_cons_zero, List.set_cons_succ]
        refine wpAnyH_take (i := 15) (oi := { dst := some 29, op := Op.move (Operand.tmp 0), type := 9, pos := "ref.go:135", after := #[], guard := none }) (v := ?_) rfl (by kernel_rfl) (by kernel_rfl) (by kernel_rfl) (fun _ _ _ h => h) (Or.inl ⟨by kernel_rfl, ?_⟩) (by assumption) ?_
        rotate_left 1
        focus (intro w hSw; (try dsimp only at hSw); go_simp; (try with_reducible rfl))
        try simp only [Act.put, List.setIfInBounds_toArray, List.set_cons_zero, List.set_cons_succ]
        refine wpAnyH_take (i := 16) (oi := { dst := some 30, op := Op.move (Operand.tmp 4), type := 3, pos := "ref.go:135", after := #[], guard := none }) (v := ?_) rfl (by kernel_rfl) (by kernel_rfl) (by kernel_rfl) (fun _ _ _ h => h) (Or.inl ⟨by kernel_rfl, ?_⟩) (by assumption) ?_
        rotate_left 1
        focus (intro w hSw; (try dsimp only at hSw); go_simp; (try with_reducible rfl))
        try simp only [Act.put, List.setIfInBounds_toArray, List.set_cons_zero, List.set_cons_succ]
        refine wpAnyH_take (i := 17) (oi := { dst := some 31, op := Op.binOp BinOp.mul 3 (Operand.const (Value.int IntKind.i64 4)) (Operand.tmp 30) 3, type := 3, pos := "ref.go:135", after := #[{ on := 16, ground := Ground.data }], guard := none }) (v := ?_) rfl (by kernel_rfl) (by kernel_rfl) (by kernel_rfl) (fun _ _ _ h => h) (Or.inl ⟨by kernel_rfl, ?_⟩) (by assumption) ?_
        rotate_left 1
        focus (intro w hSw; (try dsimp only at hSw); go_simp; (try with_reducible rfl))
        try simp only [Act.put, List.setIfInBounds_toArray, List.set_cons_zero, List.set_cons_succ]
        refine wpAnyH_take (i := 18) (oi := { dst := some 32, op := Op.binOp BinOp.add 3 (Operand.tmp 31) (Operand.const (Value.int IntKind.i64 3)) 3, type := 3, pos := "ref.go:135", after := #[{ on := 17, ground := Ground.data }], guard := none }) (v := ?_) rfl (by kernel_rfl) (by kernel_rfl) (by kernel_rfl) (fun _ _ _ h => h) (Or.inl ⟨by kernel_rfl, ?_⟩) (by assumption) ?_
        rotate_left 1
        focus (intro w hSw; (try dsimp only at hSw); go_simp; (try with_reducible rfl))
        try simp only [Act.put, List.setIfInBounds_toArray, List.set_cons_zero, List.set_cons_succ]
        refine wpAnyH_take (i := 19) (oi := { dst := some 33, op := Op.index 9 (Operand.tmp 29) (Operand.tmp 32), type := 5, pos := "ref.go:135", after := #[{ on := 15, ground := Ground.data }, { on := 18, ground := Ground.data }], guard := none }) (v := ?_) rfl (by kernel_rfl) (by kernel_rfl) (by kernel_rfl) (fun _ _ _ h => h) (Or.inl ⟨by kernel_rfl, ?_⟩) (by assumption) ?_
        rotate_left 1
        focus (intro w hSw; (try dsimp only at hSw); go_simp; (try with_reducible rfl))
        try simp only [Act.put, List.setIfInBounds_toArray, List.set_cons_zero, List.set_cons_succ]
        refine wpAnyH_take (i := 20) (oi := { dst := some 34, op := Op.build 23 #[(0, Operand.tmp 18), (1, Operand.tmp 23), (2, Operand.tmp 28), (3, Operand.tmp 33)], type := 23, pos := "ref.go:135", after := #[{ on := 4, ground := Ground.data }, { on := 9, ground := Ground.data }, { on := 14, ground := Ground.data }, { on := 19, ground := Ground.data }], guard := none }) (v := ?_) rfl (by kernel_rfl) (by kernel_rfl) (by kernel_rfl) (fun _ _ _ h => h) (Or.inl ⟨by kernel_rfl, ?_⟩) (by assumption) ?_
        rotate_left 1
        focus (intro w hSw; (try dsimp only at hSw); go_simp; (try with_reducible rfl))
        try simp only [Act.put, List.setIfInBounds_toArray, List.set_cons_zero, List.set_cons_succ]
        refine wpAnyH_take (i := 21) (oi := { dst := some 35, op := Op.indexAddr 25 (Operand.tmp 3) (Operand.tmp 14), type := 0, pos := "ref.go:135", after := #[{ on := 0, ground := Ground.data }, { on := 0, ground := Ground.phase }, { on := 1, ground := Ground.phase }, { on := 2, ground := Ground.phase }, { on := 3, ground := Ground.phase }, { on := 4, ground := Ground.phase }, { on := 5, ground := Ground.phase }, { on := 6, ground := Ground.phase }, { on := 7, ground := Ground.phase }, { on := 8, ground := Ground.phase }, { on := 9, ground := Ground.phase }, { on := 10, ground := Ground.phase }, { on := 11, ground := Ground.phase }, { on := 12, ground := Ground.phase }, { on := 13, ground := Ground.phase }, { on := 14, ground := Ground.phase }, { on := 15, ground := Ground.phase }, { on := 16, ground := Ground.phase }, { on := 17, ground := Ground.phase }, { on := 18, ground := Ground.phase }, { on := 19, ground := Ground.phase }, { on := 20, ground := Ground.phase }], guard := none }) (v := ?_) rfl (by kernel_rfl) (by kernel_rfl) (by kernel_rfl) (fun _ _ _ h => h) (Or.inl ⟨by kernel_rfl, ?_⟩) (by assumption) ?_
        rotate_left 1
        focus (intro w hSw; (try dsimp only at hSw); go_simp; (try with_reducible rfl))
        try simp only [Act.put, List.setIfInBounds_toArray, List.set_cons_zero, List.set_cons_succ]
        refine wpAnyH_ready (rs := [22]) (by kernel_rfl) (by simp) (AllReadyH.cons (o := { dst := none, op := Op.store 23 (Operand.tmp 35) (Operand.tmp 34), type := 0, pos := "ref.go:135", after := #[{ on := 21, ground := Ground.data }, { on := 20, ground := Ground.data }, { on := 0, ground := Ground.phase }, { on := 1, ground := Ground.phase }, { on := 2, ground := Ground.phase }, { on := 3, ground := Ground.phase }, { on := 4, ground := Ground.phase }, { on := 5, ground := Ground.phase }, { on := 6, ground := Ground.phase }, { on := 7, ground := Ground.phase }, { on := 8, ground := Ground.phase }, { on := 9, ground := Ground.phase }, { on := 10, ground := Ground.phase }, { on := 11, ground := Ground.phase }, { on := 12, ground := Ground.phase }, { on := 13, ground := Ground.phase }, { on := 14, ground := Ground.phase }, { on := 15, ground := Ground.phase }, { on := 16, ground := Ground.phase }, { on := 17, ground := Ground.phase }, { on := 18, ground := Ground.phase }, { on := 19, ground := Ground.phase }, { on := 20, ground := Ground.phase }], guard := none }) rfl (fun K hK => ?_) AllReadyH.nil)
        have h21r7 := St.rowset (ds := tc (pt z0 (rdp s.data.toList) (k + 1))) h20 (by omega) (by simp)
        refine wp_store_of 23 _ _ rfl (HST.out _ (h20.row (List.mem_cons_self ..))) ?_
        refine hK.out _ _ ?_ (fun hHeld => ?_)
        · (first | exact h21r7 | exact h21r7.tl)
        clear hK K
        try simp only [Act.put]
        refine wpAnyH_done (by kernel_rfl) ?_ _
        have h5 := h21r7
        have H5 := Lib.hid h5
        go_wp2
        go_roundw
        case rel => exact ⟨k + 1, by omega, by go_num, H5.out⟩
        case measure => simp [intOf]; omega
      · obtain rfl : k = 64 := by omega
        have HLA := Lib.hid (load_allr (HU.out.row (b := w.heap.size + 1) (o := tob (pt z0 (rdp s.data.toList) 64)) (by simp)))
        have HR2 := Lib.hid (HU.out.row (b := w.heap.size) (o := gob z0 0) (by simp))
        have HB := Lib.hid HU.out.below
        go_upto_region 8 with fail
        refine wp_region_lit ?_
        refine wpList_load_of rfl 25 _ rfl _ HLA.out ?_
        simp only [Act.put, List.setIfInBounds_toArray, List.set_cons_zero, List.set_cons_succ]
        refine wpList_build1 rfl 32 0 _ rfl _ _ rfl (built_gott (rdp s.data.toList) _) ?_
        simp only [Act.put, List.setIfInBounds_toArray, List.set_cons_zero, List.set_cons_succ]
        refine wpList_store_of rfl 32 _ _ rfl (store_got (w.heap.size) z0 (rdp s.data.toList) 0 0 _ HR2.out) ?_
        simp only [Act.put]
        go_wp2_with fail
        exact bodyPost_ret (v := .agg (gotc (rdp s.data.toList) 0)) (results_cell_row rfl _ _ (w.heap.size) _ _ _ _ rfl (setRow_heap _ _ _ _ _ _ HR2.out) Tryd.underlying32 rfl (by rw [info_got, gotc_size])) rfl ⟨by rw [HT.out, HE.out], Below.setRow HB.out (Nat.le_refl _) _⟩
  · have HT := Lib.hid (rdT_no hs)
    have HE := Lib.hid (rdE_no hs)
    have hs' : ¬ (s.size : Int) = 256 := by omega
    clear hs
    go_upto_region 2 with fail
    refine wp_region_lit ?_
    refine wpList_build1 rfl 32 1 _ rfl _ _ rfl (built_got _) ?_
    simp only [Act.put, List.setIfInBounds_toArray, List.set_cons_zero, List.set_cons_succ]
    refine wpList_store_of rfl 32 _ _ rfl (store_got (w.heap.size) z0 z0 0 11 _ HR.out) ?_
    simp only [Act.put]
    go_wp2_with fail
    exact bodyPost_ret (v := .agg (gotc z0 11)) (results_cell_row rfl _ _ (w.heap.size) _ _ _ _ rfl (setRow_heap _ _ _ _ _ _ HR.out) Tryd.underlying32 rfl (by rw [info_got, gotc_size])) rfl ⟨by rw [HT.out, HE.out], Below.setRow HS.out.below (Nat.le_refl _) _⟩
end Go.Proofs.YtligojllbnahcaaDoor.T
