/-
  Read of tile (contract). Bytes that a call owns, and four more behind them. Bytes of the reference (contract).
-/
import Derived.Test.YtfncldaodbfakaaGreatTZero
import Derived.Test.YtfncldaodbfakaaGreatTByt
import Derived.Laws.CopyOwn
import Derived.Lib.Strings
namespace Go.Proofs.YtfncldaodbfakaaGreat.T
open Go.RowKit Go.Shelf

theorem idx_s (b : ByteArray) (o : Nat) (ho : o < b.size) (i : Int) (hi : i = o) (w : World) : (Instr.index 9 (.string b) (.int .i64 i)).run Tryz.prog w = .ok (.int .u8 (i8 (b.data.toList.getD o 0))) w := by
  subst hi
  rw [run_index_string w _ b .i64 _ Tryz.underlying9, dif_pos (by omega)]
  have e : b.data.toList.getD o 0 = b[o] := by
    rw [List.getD_eq_getElem?_getD, Array.getElem?_toList, Array.getElem?_eq_getElem ho]; rfl
  rw [e]
  rfl
theorem ext_at (s : ByteArray) (a j : Nat) (hs : a + j < s.size) : (s.extract a s.size).data.toList.getD j 0 = s.data.toList.getD (a + j) 0 := by
  rw [List.getD_eq_getElem?_getD, List.getD_eq_getElem?_getD]
  congr 1
  have e : (s.extract a s.size).data.toList = (s.data.toList.drop a).take (s.size - a) := by simp
  rw [e, List.getElem?_take, if_pos (by omega), List.getElem?_drop]
set_option maxRecDepth 100000 in
set_option maxHeartbeats 4000000 in
theorem read1 (s : ByteArray) (hs : s.size = 256) (bs i : Nat) (V : World) (hi : i < 64) (h : V.heap[bs]? = some (vo (.string s) 9)) :
    Calls Tryz.prog 213 (#[.int .i64 i, ptv i] ++ #[ptrB bs]) V fun e w' => e = .returned (rdp s.data.toList i).v ∧ Below V.heap.size V w' := by
  have key : Calls Tryz.prog 213 #[.int .i64 i, ptv i, ptrB bs] V fun e w' => e = .returned (rdp s.data.toList i).v ∧ Below V.heap.size V w' := by
    have hst := (((St.start V).more h).alloc (pto i)).alloc (pxo zp)
    rw [World.size_alloc] at hst
    have hlb : bs < V.heap.size := (Array.getElem?_eq_some_iff.1 h).1
    obtain ⟨V2, hV2⟩ : ∃ V2, V2 = (V.alloc (pto i)).alloc (pxo zp) := ⟨_, rfl⟩
    rw [← hV2] at hst
    have HV := Lib.hid hV2
    have hc := hst.var (b := bs) (x := .string s) (t := 9) (by simp)
    have h2 := hst.sub (L' := (V.heap.size + 1, pxo zp) :: [(bs, vo (.string s) 9)]) (by simp)
    have H2 := Lib.hid h2
    have hsl : ∀ W, (Instr.slice 9 (.string s) (some (.int .i64 (4 * (i : Int)))) none none).run Tryz.prog W = .ok (.string (s.extract (4 * i) s.size)) W := fun W => by
      rw [run_slice_string_l W 9 s Tryz.underlying9 .i64 (4 * (i : Int)) (by omega) (by omega), show (4 * (i : Int)).toNat = 4 * i by omega]
    have hz : (s.extract (4 * i) s.size).size = 256 - 4 * i := by simp; omega
    have hx : ∀ j : Nat, j < 4 → ∀ W, (Instr.index 9 (.string (s.extract (4 * i) s.size)) (.int .i64 (j : Int))).run Tryz.prog W = .ok (.int .u8 (i8 (s.data.toList.getD (4 * i + j) 0))) W := fun j hj W => by
      rw [idx_s _ j (by omega) _ rfl W, ext_at s (4 * i) j (by omega)]
    have hx0 : ∀ W, (Instr.index 9 (.string (s.extract (4 * i) s.size)) (.int .i64 0)).run Tryz.prog W = .ok (.int .u8 (rdp s.data.toList i).r) W := fun W => hx 0 (by omega) W
    have hx1 : ∀ W, (Instr.index 9 (.string (s.extract (4 * i) s.size)) (.int .i64 1)).run Tryz.prog W = .ok (.int .u8 (rdp s.data.toList i).g) W := fun W => hx 1 (by omega) W
    have hx2 : ∀ W, (Instr.index 9 (.string (s.extract (4 * i) s.size)) (.int .i64 2)).run Tryz.prog W = .ok (.int .u8 (rdp s.data.toList i).b) W := fun W => hx 2 (by omega) W
    have hx3 : ∀ W, (Instr.index 9 (.string (s.extract (4 * i) s.size)) (.int .i64 3)).run Tryz.prog W = .ok (.int .u8 (rdp s.data.toList i).a) W := fun W => hx 3 (by omega) W
    clear h hst hV2 hx hz
    generalize s.extract (4 * i) s.size = T at *
    generalize rdp s.data.toList i = q at *
    go_enter Tryz.func213, Tryz.ntmps213
    go_upto_region 1 with fail
    have e1 : (V.alloc (pto i)).alloc (po 0 0 0 0) = V2 := HV.out.symm
    rw [e1]
    clear e1
    go_upto_region 2 with fail
    clear hsl hc h2
    have h2 := H2.out
    refine wp_region_held_drew (S := fun V9 => St V [(bs, vo (.string s) 9)] V9) (by kernel_rfl) ?_ (fun hHeld => ?_)
    · first | exact h2.drew | exact h2.drew.tl
    have h20 := h2.drew
    refine wpAnyH_take (i := 0) (oi := { dst := some 11, op := Op.move (Operand.tmp 6), type := 9, pos := "bytes.go:29", after := #[], guard := none }) (v := ?_) rfl (by kernel_rfl) (by kernel_rfl) (by kernel_rfl) (fun _ _ _ h => h) (Or.inl ⟨by kernel_rfl, ?_⟩) (by assumption) ?_
    rotate_left 1
    focus (intro w hSw; (try dsimp only at hSw); go_simp; (try with_reducible rfl))
    try simp only [Act.put, List.setIfInBounds_toArray, List.set_cons_zero, List.set_cons_succ]
    refine wpAnyH_take (i := 1) (oi := { dst := some 12, op := Op.index 9 (Operand.tmp 11) (Operand.const (Value.int IntKind.i64 0)), type := 5, pos := "bytes.go:29", after := #[{ on := 0, ground := Ground.data }], guard := none }) (v := ?_) rfl (by kernel_rfl) (by kernel_rfl) (by kernel_rfl) (fun _ _ _ h => h) (Or.inl ⟨by kernel_rfl, ?_⟩) (by assumption) ?_
    rotate_left 1
    focus (intro w hSw; (try dsimp only at hSw); go_simp; (try with_reducible rfl))
    try simp only [Act.put, List.setIfInBounds_toArray, List.set_cons_zero, List.set_cons_succ]
    refine wpAnyH_take (i := 2) (oi := { dst := some 13, op := Op.move (Operand.tmp 6), type := 9, pos := "bytes.go:29", after := #[], guard := none }) (v := ?_) rfl (by kernel_rfl) (by kernel_rfl) (by kernel_rfl) (fun _ _ _ h => h) (Or.inl ⟨by kernel_rfl, ?_⟩) (by assumption) ?_
    rotate_left 1
    focus (intro w hSw; (try dsimp only at hSw); go_simp; (try with_reducible rfl))
    try simp only [Act.put, List.setIfInBounds_toArray, List.set_cons_zero, List.set_cons_succ]
    refine wpAnyH_take (i := 3) (oi := { dst := some 14, op := Op.index 9 (Operand.tmp 13) (Operand.const (Value.int IntKind.i64 1)), type := 5, pos := "bytes.go:29", after := #[{ on := 2, ground := Ground.data }], guard := none }) (v := ?_) rfl (by kernel_rfl) (by kernel_rfl) (by kernel_rfl) (fun _ _ _ h => h) (Or.inl ⟨by kernel_rfl, ?_⟩) (by assumption) ?_
    rotate_left 1
    focus (intro w hSw; (try dsimp only at hSw); go_simp; (try with_reducible rfl))
    try simp only [Act.put, List.setIfInBounds_toArray, List.set_cons_zero, List.set_cons_succ]
    refine wpAnyH_take (i := 4) (oi := { dst := some 15, op := Op.move (Operand.tmp 6), type := 9, pos := "bytes.go:29", after := #[], guard := none }) (v := ?_) rfl (by kernel_rfl) (by kernel_rfl) (by kernel_rfl) (fun _ _ _ h => h) (Or.inl ⟨by kernel_rfl, ?_⟩) (by assumption) ?_
    rotate_left 1
    focus (intro w hSw; (try dsimp only at hSw); go_simp; (try with_reducible rfl))
    try simp only [Act.put, List.setIfInBounds_toArray, List.set_cons_zero, List.set_cons_succ]
    refine wpAnyH_take (i := 5) (oi := { dst := some 16, op := Op.index 9 (Operand.tmp 15) (Operand.const (Value.int IntKind.i64 2)), type := 5, pos := "bytes.go:29", after := #[{ on := 4, ground := Ground.data }], guard := none }) (v := ?_) rfl (by kernel_rfl) (by kernel_rfl) (by kernel_rfl) (fun _ _ _ h => h) (Or.inl ⟨by kernel_rfl, ?_⟩) (by assumption) ?_
    rotate_left 1
    focus (intro w hSw; (try dsimp only at hSw); go_simp; (try with_reducible rfl))
    try simp only [Act.put, List.setIfInBounds_toArray, List.set_cons_zero, List.set_cons_succ]
    refine wpAnyH_take (i := 6) (oi := { dst := some 17, op := Op.move (Operand.tmp 6), type := 9, pos := "bytes.go:29", after := #[], guard := none }) (v := ?_) rfl (by kernel_rfl) (by kernel_rfl) (by kernel_rfl) (fun _ _ _ h => h) (Or.inl ⟨by kernel_rfl, ?_⟩) (by assumption) ?_
    rotate_left 1
    focus (intro w hSw; (try dsimp only at hSw); go_simp; (try with_reducible rfl))
    try simp only [Act.put, List.setIfInBounds_toArray, List.set_cons_zero, List.set_cons_succ]
    refine wpAnyH_take (i := 7) (oi := { dst := some 18, op := Op.index 9 (Operand.tmp 17) (Operand.const (Value.int IntKind.i64 3)), type := 5, pos := "bytes.go:29", after := #[{ on := 6, ground := Ground.data }], guard := none }) (v := ?_) rfl (by kernel_rfl) (by kernel_rfl) (by kernel_rfl) (fun _ _ _ h => h) (Or.inl ⟨by kernel_rfl, ?_⟩) (by assumption) ?_
    rotate_left 1
    focus (intro w hSw; (try dsimp only at hSw); go_simp; (try with_reducible rfl))
    try simp only [Act.put, List.setIfInBounds_toArray, List.set_cons_zero, List.set_cons_succ]
    refine wpAnyH_take (i := 8) (oi := { dst := some 19, op := Op.build 36 #[(0, Operand.tmp 12), (1, Operand.tmp 14), (2, Operand.tmp 16), (3, Operand.tmp 18)], type := 36, pos := "bytes.go:29", after := #[{ on := 1, ground := Ground.data }, { on := 3, ground := Ground.data }, { on := 5, ground := Ground.data }, { on := 7, ground := Ground.data }], guard := none }) (v := ?_) rfl (by kernel_rfl) (by kernel_rfl) (by kernel_rfl) (fun _ _ _ h => h) (Or.inl ⟨by kernel_rfl, ?_⟩) (by assumption) ?_
    rotate_left 1
    focus (intro w hSw; (try dsimp only at hSw); go_simp; (try with_reducible rfl))
    try simp only [Act.put, List.setIfInBounds_toArray, List.set_cons_zero, List.set_cons_succ]
    refine wpAnyH_ready (rs := [9]) (by kernel_rfl) (by simp) (AllReadyH.cons (o := { dst := none, op := Op.store 36 (Operand.tmp 5) (Operand.tmp 19), type := 0, pos := "bytes.go:29", after := #[{ on := 8, ground := Ground.data }, { on := 0, ground := Ground.phase }, { on := 1, ground := Ground.phase }, { on := 2, ground := Ground.phase }, { on := 3, ground := Ground.phase }, { on := 4, ground := Ground.phase }, { on := 5, ground := Ground.phase }, { on := 6, ground := Ground.phase }, { on := 7, ground := Ground.phase }, { on := 8, ground := Ground.phase }], guard := none }) rfl (fun K hK => ?_) AllReadyH.nil)
    have h21r2 := St.rowset (ds := (pl q).toArray) h20 (by omega) (by simp; omega)
    refine wp_store_of 36 _ _ rfl (store_px0 _ zp q _ (h20.row (List.mem_cons_self ..))) ?_
    refine hK.out _ _ ?_ (fun hHeld => ?_)
    · (first | exact h21r2 | exact h21r2.tl)
    clear hK K
    try simp only [Act.put]
    refine wpAnyH_done (by kernel_rfl) ?_ _
    have HB := Lib.hid h21r2.below
    have HR := Lib.hid (h21r2.row (b := V.heap.size + 1) (o := pxo q) (List.mem_cons_self ..))
    go_wp2_with fail
    exact bodyPost_ret (v := q.v) (results_cell_row rfl _ _ (V.heap.size + 1) _ _ _ _ rfl HR.out Tryz.underlying36 rfl info_px) rfl ⟨rfl, HB.out⟩
  exact key
end Go.Proofs.YtfncldaodbfakaaGreat.T

namespace Go.Proofs.YtfncldaodbfakaaGreat.T
open Go.RowKit Go.Shelf

def str (l : List UInt8) : ByteArray := ⟨l.toArray⟩
def bcell (b : UInt8) : Value := .int .u8 (b.toNat : Int)
/-- the bytes p lie at the head of the slice v, which the call owns -/
def OwnsB (B : Nat) (w : World) (v : Value) (p : List UInt8) : Prop := w.ownsRow B 5 1 v p.length (p.map bcell)
theorem owns_conv {B : Nat} {w : World} {v : Value} {p : List UInt8} (h : OwnsB B w v p) : (convert 84 9 v).run Tryz.prog w = .ok (.string (str p)) w := by
  obtain ⟨hl, h | ⟨g, cap, cur, rfl, hg, hh, hn, hc, hs, ht⟩⟩ := h
  · obtain ⟨rfl, h0⟩ := h
    have : p = [] := List.eq_nil_of_length_eq_zero h0
    subst this
    exact run_convert_bytes_nil w _ _ Tryz.underlying84 Tryz.underlying5 _ _ _ Tryz.underlying9
  · refine run_convert_bytes_back w _ _ _ ⟨g, 0, none⟩ cap p Tryz.underlying84 Tryz.underlying5 Tryz.underlying9 fun j hj => ?_
    have hadd : (⟨g, 0, none⟩ : Addr).add j = ⟨g, j, none⟩ := by unfold Addr.add; split <;> simp_all
    rw [hadd, cell_of_row _ _ _ _ _ _ hh]
    have h2 : (cur.toList.take (p.length * 1))[j]? = (p.map bcell)[j]? := by rw [ht]
    rw [List.getElem?_take_of_lt (by omega)] at h2
    rw [← Array.getElem?_toList, h2]; simp [hj, bcell]
theorem infoB : (Tryz.prog.info? 5).map (fun i => (i.zero, i.size, i.bytes)) = some (some (.int .u8 0), 1, 1) := by kernel_rfl
theorem pb_cells (p : Px) (hp : Pc p) : (pb p).map bcell = pl p := by
  have h (x : Int) (hx : Ch x) : bcell (u8 x) = .int .u8 x := congrArg (Value.int .u8) (i8_u8 hx)
  show [bcell (u8 p.r), bcell (u8 p.g), bcell (u8 p.b), bcell (u8 p.a)] = _
  rw [h _ hp.1, h _ hp.2.1, h _ hp.2.2.1, h _ hp.2.2.2]
  rfl
/-- 'append(v, r, g, b, a)': four bytes behind what the call owns -/
theorem wp_app4 {o : Oper} {a : Act} {K : Act → World → Prop} {Q : Exit → Act → World → Prop} (s x : Operand)
    (ho : o.op = .call { callee := .builtin .append, args := #[s, x], argTypes := #[84, 84] }) (B : Nat) (W : World) (v : Value) (l : List UInt8) (p : Px) (hpc : Pc p)
    (hs : a.eval s = v) (hown : OwnsB B W v l) (hx : a.eval x = .slice (some ⟨W.heap.size, 0, none⟩) 4 4) (hl : l.length < 1000) (hB : B ≤ W.heap.size)
    (h : ∀ v' w', OwnsB B w' v' (l ++ pb p) → Below B W w' → K (a.put o.dst v') w') : o.wp Tryz.prog a (W.alloc (.cells (pl p).toArray 5)) K Q := by
  obtain ⟨i0, hi, hz0, hz1, hz2⟩ := info_parts infoB
  refine wp_append_own _ s x 84 ho B 5 i0 (.int .u8 0) 1 1 Tryz.underlying84 hi hz0 hz1 hz2 rfl (by decide) v _ _ hs (World.ownsRow.alloc hown _) ⟨W.heap.size, 0, none⟩ 4 4 ((pb p).map bcell) hx rfl ?_
    (by intro u hu; simp at hu; obtain ⟨b, _, rfl⟩ := hu; rfl) (by unfold maxLen; omega) (by omega) (by simp; omega) ?_
  · intro j u hj
    rw [pb_cells p hpc] at hj
    have hadd : (⟨W.heap.size, 0, none⟩ : Addr).add j = ⟨W.heap.size, j, none⟩ := by unfold Addr.add; split <;> simp_all
    rw [hadd, cell_of_row _ _ j _ _ (0, 0) (World.alloc_heap_new W _)]
    rw [← hj]; exact List.getElem?_toArray
  intro v' w' h1 h2 _
  refine h v' w' (by simpa [OwnsB, pb] using h1) (((Below.refl B W).alloc hB _).grown h2 (by simp; omega) ?_)
  intro k hk
  obtain ⟨_, ⟨rfl, _⟩ | ⟨g, cap, cur, rfl, hg, _⟩⟩ := hown
  · simp [Value.ownBlock] at hk
  · simp [Value.ownBlock] at hk; omega
end Go.Proofs.YtfncldaodbfakaaGreat.T

namespace Go.Proofs.YtfncldaodbfakaaGreat
open Go.RowKit T
variable {W w w' : World} {L : List (Nat × Obj)}
theorem St.up {B : Nat} (h : St W L w) (hb : Below B w w') (hL : ∀ x ∈ L, x.1 < B) (hB : W.heap.size ≤ B := by omega) : St W L w' :=
  ⟨h.below.trans (hb.mono hB), fun x hx => (hb.block x.1 (hL x hx)).trans (h.rows x hx)⟩
end Go.Proofs.YtfncldaodbfakaaGreat
namespace Go.Proofs.YtfncldaodbfakaaGreat.T
open Go.RowKit Go.Shelf

theorem ld_u8 {a : Addr} {v : Value} (w : World) (h : w.cell? a = some v) : (Instr.loadAt 5 (.pointer (some a))).run Tryz.prog w = .ok v w := by
  have ht : (isAgg 5).run Tryz.prog w = .ok false w := by kernel_rfl
  simp only [Instr.loadAt, Instr.sureAddr, loadVar, Sem.run_bind, Sem.run_pure, Result.andThen_ok, ht, run_load, h, Bool.false_eq_true, if_false]
theorem owns_none {B : Nat} {w : World} {n : Nat} (hn : B ≤ n) (h : w.heap[n]? = some (.cells #[] 5)) : OwnsB B w (.slice (some ⟨n, 0, none⟩) 0 0) [] :=
  ⟨by decide, .inr ⟨n, 0, #[], rfl, hn, h, by simp, by simp, by simp, by simp⟩⟩
set_option maxRecDepth 100000 in
set_option maxHeartbeats 4000000 in
theorem refBytes_any (f : Nat → Px) (w : World) (hf : ∀ i, i < 64 → Pc (f i)) : Calls Tryz.prog 142 #[tv f] w fun e w' => e = .returned (.string (str (bys 64 f))) ∧ Below w.heap.size w w' := by
  have hs := (St.start w).alloc (tob f)
  have HP := Lib.hid hf
  have h1 := hs.alloc (.cells #[] 5)
  have H1 := Lib.hid (h1.tl)
  have HO : Hid (OwnsB (w.heap.size + 1) ((w.alloc (tob f)).alloc (.cells #[] 5)) (.slice (some ⟨w.heap.size + 1, 0, none⟩) 0 0) (bys 0 f)) := owns_none (Nat.le_refl _) (by have := World.alloc_heap_new (w.alloc (tob f)) (.cells #[] 5); rwa [World.size_alloc] at this)
  clear hf hs h1
  go_enter Tryz.func142, Tryz.ntmps142
  go_upto_region 2 with fail
  generalize (w.alloc (.cells (tc f) 38)).alloc (.cells #[] 5) = V3 at H1 HO ⊢
  go_wp2
  go_loopw [3, 4] (fun v3 v wr => ∃ k : Nat, k ≤ 64 ∧ v = .int .i64 k ∧ Hid (OwnsB (w.heap.size + 1) wr v3 (bys k f)) ∧ Hid (St w [(w.heap.size, tob f)] wr)) (fun _ i _ => 64 - (intOf i).toNat)
  case atStart => exact ⟨0, by omega, rfl, HO, H1⟩
  case round =>
    obtain ⟨k, hk, rfl, HOW, HU⟩ := hrel
    by_cases hlt : k < 64
    · have hix := index_px w.heap.size k hlt
      have h2 := HU.out
      have HBB : Hid (w.heap.size + 1 ≤ wr.drew.heap.size) := Lib.hid (h2.drew.lt (b := w.heap.size) (o := tob f) (by simp))
      go_upto_region 5 with fail
      refine wp_region_held_drew (S := fun V9 => St w [(w.heap.size, tob f)] V9) (by kernel_rfl) ?_ (fun hHeld => ?_)
      · first | exact h2.drew | exact h2.drew.tl
      have h20 := h2.drew
      refine wpAnyH_take (i := 0) (oi := { dst := some 10, op := Op.move (Operand.tmp 3), type := 84, pos := "ref.go:117", after := #[], guard := none }) (v := ?_) rfl (by kernel_rfl) (by kernel_rfl) (by kernel_rfl) (fun _ _ _ h => h) (Or.inl ⟨by kernel_rfl, ?_⟩) (by assumption) ?_
      rotate_left 1
      focus (intro w hSw; (try dsimp only at hSw); go_simp; (try with_reducible rfl))
      try simp only [Act.put, List.setIfInBounds_toArray, List.set_cons_zero, List.set_cons_succ]
      refine wpAnyH_take (i := 1) (oi := { dst := some 11, op := Op.move (Operand.tmp 4), type := 3, pos := "ref.go:117", after := #[], guard := none }) (v := ?_) rfl (by kernel_rfl) (by kernel_rfl) (by kernel_rfl) (fun _ _ _ h => h) (Or.inl ⟨by kernel_rfl, ?_⟩) (by assumption) ?_
      rotate_left 1
      focus (intro w hSw; (try dsimp only at hSw); go_simp; (try with_reducible rfl))
      try simp only [Act.put, List.setIfInBounds_toArray, List.set_cons_zero, List.set_cons_succ]
      refine wpAnyH_take (i := 2) (oi := { dst := some 12, op := Op.indexAddr 38 (Operand.tmp 1) (Operand.tmp 11), type := 0, pos := "ref.go:117", after := #[{ on := 1, ground := Ground.data }], guard := none }) (v := ?_) rfl (by kernel_rfl) (by kernel_rfl) (by kernel_rfl) (fun _ _ _ h => h) (Or.inl ⟨by kernel_rfl, ?_⟩) (by assumption) ?_
      rotate_left 1
      focus (intro w hSw; (try dsimp only at hSw); go_simp; (try with_reducible rfl))
      try simp only [Act.put, List.setIfInBounds_toArray, List.set_cons_zero, List.set_cons_succ]
      refine wpAnyH_take (i := 3) (oi := { dst := some 13, op := Op.fieldAddr 36 (Operand.tmp 12) 0, type := 0, pos := "ref.go:117", after := #[{ on := 2, ground := Ground.data }], guard := none }) (v := ?_) rfl (by kernel_rfl) (by kernel_rfl) (by kernel_rfl) (fun _ _ _ h => h) (Or.inl ⟨by kernel_rfl, ?_⟩) (by assumption) ?_
      rotate_left 1
      focus (intro w hSw; (try dsimp only at hSw); go_simp; (try with_reducible rfl))
      try simp only [Act.put, List.setIfInBounds_toArray, List.set_cons_zero, List.set_cons_succ]
      refine wpAnyH_take (i := 4) (oi := { dst := some 14, op := Op.load 5 (Operand.tmp 13), type := 5, pos := "ref.go:117", after := #[{ on := 3, ground := Ground.data }], guard := none }) rfl (by kernel_rfl) (by kernel_rfl) (by kernel_rfl) (fun _ _ _ h => h) (yields_load (by kernel_rfl) 5 (.tmp 13) rfl (.int .u8 (f k).r) (fun V hV => ld_u8 V (St.q4 hV (b := w.heap.size) (f := f) (by simp) k hlt).1)) (by assumption) ?_
      try simp only [Act.put, List.setIfInBounds_toArray, List.set_cons_zero, List.set_cons_succ]
      refine wpAnyH_take (i := 5) (oi := { dst := some 15, op := Op.move (Operand.tmp 4), type := 3, pos := "ref.go:117", after := #[], guard := none }) (v := ?_) rfl (by kernel_rfl) (by kernel_rfl) (by kernel_rfl) (fun _ _ _ h => h) (Or.inl ⟨by kernel_rfl, ?_⟩) (by assumption) ?_
      rotate_left 1
      focus (intro w hSw; (try dsimp only at hSw); go_simp; (try with_reducible rfl))
      try simp only [Act.put, List.setIfInBounds_toArray, List.set_cons_zero, List.set_cons_succ]
      refine wpAnyH_take (i := 6) (oi := { dst := some 16, op := Op.indexAddr 38 (Operand.tmp 1) (Operand.tmp 15), type := 0, pos := "ref.go:117", after := #[{ on := 5, ground := Ground.data }], guard := none }) (v := ?_) rfl (by kernel_rfl) (by kernel_rfl) (by kernel_rfl) (fun _ _ _ h => h) (Or.inl ⟨by kernel_rfl, ?_⟩) (by assumption) ?_
      rotate_left 1
      focus (intro w hSw; (try dsimp only at hSw); go_simp; (try with_reducible rfl))
      try simp only [Act.put, List.setIfInBounds_toArray, List.set_cons_zero, List.set_cons_succ]
      refine wpAnyH_take (i := 7) (oi := { dst := some 17, op := Op.fieldAddr 36 (Operand.tmp 16) 1, type := 0, pos := "ref.go:117", after := #[{ on := 6, ground := Ground.data }], guard := none }) (v := ?_) rfl (by kernel_rfl) (by kernel_rfl) (by kernel_rfl) (fun _ _ _ h => h) (Or.inl ⟨by kernel_rfl, ?_⟩) (by assumption) ?_
      rotate_left 1
      focus (intro w hSw; (try dsimp only at hSw); go_simp; (try with_reducible rfl))
      try simp only [Act.put, List.setIfInBounds_toArray, List.set_cons_zero, List.set_cons_succ]
      refine wpAnyH_take (i := 8) (oi := { dst := some 18, op := Op.load 5 (Operand.tmp 17), type := 5, pos := "ref.go:117", after := #[{ on := 7, ground := Ground.data }], guard := none }) rfl (by kernel_rfl) (by kernel_rfl) (by kernel_rfl) (fun _ _ _ h => h) (yields_load (by kernel_rfl) 5 (.tmp 17) rfl (.int .u8 (f k).g) (fun V hV => ld_u8 V (St.q4 hV (b := w.heap.size) (f := f) (by simp) k hlt).2.1)) (by assumption) ?_
      try simp only [Act.put, List.setIfInBounds_toArray, List.set_cons_zero, List.set_cons_succ]
      refine wpAnyH_take (i := 9) (oi := { dst := some 19, op := Op.move (Operand.tmp 4), type := 3, pos := "ref.go:117", after := #[], guard := none }) (v := ?_) rfl (by kernel_rfl) (by kernel_rfl) (by kernel_rfl) (fun _ _ _ h => h) (Or.inl ⟨by kernel_rfl, ?_⟩) (by assumption) ?_
      rotate_left 1
      focus (intro w hSw; (try dsimp only at hSw); go_simp; (try with_reducible rfl))
      try simp only [Act.put, List.setIfInBounds_toArray, List.set_cons_zero, List.set_cons_succ]
      refine wpAnyH_take (i := 10) (oi := { dst := some 20, op := Op.indexAddr 38 (Operand.tmp 1) (Operand.tmp 19), type := 0, pos := "ref.go:117", after := #[{ on := 9, ground := Ground.data }], guard := none }) (v := ?_) rfl (by kernel_rfl) (by kernel_rfl) (by kernel_rfl) (fun _ _ _ h => h) (Or.inl ⟨by kernel_rfl, ?_⟩) (by assumption) ?_
      rotate_left 1
      focus (intro w hSw; (try dsimp only at hSw); go_simp; (try with_reducible rfl))
      try simp only [Act.put, List.setIfInBounds_toArray, List.set_cons_zero, List.set_cons_succ]
      refine wpAnyH_take (i := 11) (oi := { dst := some 21, op := Op.fieldAddr 36 (Operand.tmp 20) 2, type := 0, pos := "ref.go:117", after := #[{ on := 10, ground := Ground.data }], guard := none }) (v := ?_) rfl (by kernel_rfl) (by kernel_rfl) (by kernel_rfl) (fun _ _ _ h => h) (Or.inl ⟨by kernel_rfl, ?_⟩) (by assumption) ?_
      rotate_left 1
      focus (intro w hSw; (try dsimp only at hSw); go_simp; (try with_reducible rfl))
      try simp only [Act.put, List.setIfInBounds_toArray, List.set_cons_zero, List.set_cons_succ]
      refine wpAnyH_take (i := 12) (oi := { dst := some 22, op := Op.load 5 (Operand.tmp 21), type := 5, pos := "ref.go:117", after := #[{ on := 11, ground := Ground.data }], guard := none }) rfl (by kernel_rfl) (by kernel_rfl) (by kernel_rfl) (fun _ _ _ h => h) (yields_load (by kernel_rfl) 5 (.tmp 21) rfl (.int .u8 (f k).b) (fun V hV => ld_u8 V (St.q4 hV (b := w.heap.size) (f := f) (by simp) k hlt).2.2.1)) (by assumption) ?_
      try simp only [Act.put, List.setIfInBounds_toArray, List.set_cons_zero, List.set_cons_succ]
      refine wpAnyH_take (i := 13) (oi := { dst := some 23, op := Op.move (Operand.tmp 4), type := 3, pos := "ref.go:117", after := #[], guard := none }) (v := ?_) rfl (by kernel_rfl) (by kernel_rfl) (by kernel_rfl) (fun _ _ _ h => h) (Or.inl ⟨by kernel_rfl, ?_⟩) (by assumption) ?_
      rotate_left 1
      focus (intro w hSw; (try dsimp only at hSw); go_simp; (try with_reducible rfl))
      try simp only [Act.put, List.setIfInBounds_toArray, List.set_cons_zero, List.set_cons_succ]
      refine wpAnyH_take (i := 14) (oi := { dst := some 24, op := Op.indexAddr 38 (Operand.tmp 1) (Operand.tmp 23), type := 0, pos := "ref.go:117", after := #[{ on := 13, ground := Ground.data }], guard := none }) (v := ?_) rfl (by kernel_rfl) (by kernel_rfl) (by kernel_rfl) (fun _ _ _ h => h) (Or.inl ⟨by kernel_rfl, ?_⟩) (by assumption) ?_
      rotate_left 1
      focus (intro w hSw; (try dsimp only at hSw); go_simp; (try with_reducible rfl))
      try simp only [Act.put, List.setIfInBounds_toArray, List.set_cons_zero, List.set_cons_succ]
      refine wpAnyH_take (i := 15) (oi := { dst := some 25, op := Op.fieldAddr 36 (Operand.tmp 24) 3, type := 0, pos := "ref.go:117", after := #[{ on := 14, ground := Ground.data }], guard := none }) (v := ?_) rfl (by kernel_rfl) (by kernel_rfl) (by kernel_rfl) (fun _ _ _ h => h) (Or.inl ⟨by kernel_rfl, ?_⟩) (by assumption) ?_
      rotate_left 1
      focus (intro w hSw; (try dsimp only at hSw); go_simp; (try with_reducible rfl))
      try simp only [Act.put, List.setIfInBounds_toArray, List.set_cons_zero, List.set_cons_succ]
      refine wpAnyH_take (i := 16) (oi := { dst := some 26, op := Op.load 5 (Operand.tmp 25), type := 5, pos := "ref.go:117", after := #[{ on := 15, ground := Ground.data }], guard := none }) rfl (by kernel_rfl) (by kernel_rfl) (by kernel_rfl) (fun _ _ _ h => h) (yields_load (by kernel_rfl) 5 (.tmp 25) rfl (.int .u8 (f k).a) (fun V hV => ld_u8 V (St.q4 hV (b := w.heap.size) (f := f) (by simp) k hlt).2.2.2)) (by assumption) ?_
      try simp only [Act.put, List.setIfInBounds_toArray, List.set_cons_zero, List.set_cons_succ]
      refine wpAnyH_ready (rs := [17]) (by kernel_rfl) (by simp) (AllReadyH.cons (o := { dst := some 27, op := Op.buildSlice 84 4 #[(0, Operand.tmp 14), (1, Operand.tmp 18), (2, Operand.tmp 22), (3, Operand.tmp 26)], type := 84, pos := "ref.go:117", after := #[{ on := 4, ground := Ground.data }, { on := 8, ground := Ground.data }, { on := 12, ground := Ground.data }, { on := 16, ground := Ground.data }], guard := none }) rfl (fun K hK => ?_) AllReadyH.nil)
      go_simp
      have h21r5 := h20.alloc (.cells (pl (f k)).toArray 5)
      refine hK.out _ _ ?_ (fun hHeld => ?_)
      · (first | exact h21r5 | exact h21r5.tl)
      clear hK K
      try simp only [Act.put, List.setIfInBounds_toArray, List.set_cons_zero, List.set_cons_succ]
      refine wpAnyH_ready (rs := [18]) (by kernel_rfl) (by simp) (AllReadyH.cons (o := { dst := some 28, op := Op.call { callee := Callee.builtin Builtin.append, args := #[Operand.tmp 10, Operand.tmp 27], argTypes := #[84, 84] }, type := 84, pos := "ref.go:117", after := #[{ on := 0, ground := Ground.data }, { on := 17, ground := Ground.data }], guard := none }) rfl (fun K hK => ?_) AllReadyH.nil)
      refine wp_app4 (.tmp 10) (.tmp 27) rfl (w.heap.size + 1) wr.drew _ (bys k f) (f k) (HP.out k hlt) rfl HOW.out rfl (by rw [bys_len]; omega) HBB.out ?_
      intro v5 w5 ho5 hb5
      have h22r5 := St.up h20 hb5 (by simp)
      refine hK.out _ _ ?_ (fun hHeld => ?_)
      · (first | exact h22r5 | exact h22r5.tl)
      clear hK K
      try simp only [Act.put, List.setIfInBounds_toArray, List.set_cons_zero, List.set_cons_succ]
      refine wpAnyH_take (i := 19) (oi := { dst := some 3, op := Op.assign (Operand.tmp 28), type := 84, pos := "ref.go:117", after := #[{ on := 18, ground := Ground.data }, { on := 18, ground := Ground.chain }, { on := 0, ground := Ground.phase }, { on := 1, ground := Ground.phase }, { on := 2, ground := Ground.phase }, { on := 3, ground := Ground.phase }, { on := 4, ground := Ground.phase }, { on := 5, ground := Ground.phase }, { on := 6, ground := Ground.phase }, { on := 7, ground := Ground.phase }, { on := 8, ground := Ground.phase }, { on := 9, ground := Ground.phase }, { on := 10, ground := Ground.phase }, { on := 11, ground := Ground.phase }, { on := 12, ground := Ground.phase }, { on := 13, ground := Ground.phase }, { on := 14, ground := Ground.phase }, { on := 15, ground := Ground.phase }, { on := 16, ground := Ground.phase }, { on := 17, ground := Ground.phase }, { on := 18, ground := Ground.phase }], guard := none }) (v := ?_) rfl (by kernel_rfl) (by kernel_rfl) (by kernel_rfl) (fun _ _ _ h => h) (Or.inl ⟨by kernel_rfl, ?_⟩) (by assumption) ?_
      rotate_left 1
      focus (intro w hSw; (try dsimp only at hSw); go_simp; (try with_reducible rfl))
      try simp only [Act.put, List.setIfInBounds_toArray, List.set_cons_zero, List.set_cons_succ]
      refine wpAnyH_done (by kernel_rfl) ?_ _
      have h5 := h22r5
      have H5 := Lib.hid h5
      have HO5 := Lib.hid ho5
      go_wp2
      go_roundw
      case rel => exact ⟨k + 1, by omega, by go_num, by rw [bys_succ]; exact HO5, H5⟩
      case measure => simp [intOf]; omega
    · obtain rfl : k = 64 := by omega
      have hcv := owns_conv HOW.out
      have HB := Lib.hid HU.out.below
      go_wp2
      go_ret
      exact ⟨rfl, HB.out⟩
end Go.Proofs.YtfncldaodbfakaaGreat.T
