/-
  A tile whose pixels are a function of their indices and places (contract of generate). Clean and Fill: the closures and the functions. The closures of Mask and Over. Fill, Clean, Mask and Over of tile (contracts). Flip and Turn of tile (contracts). Get and Set of tile and of the reference (contracts).
-/
import Derived.Test.YtfncldaodbfakaaGreatTSt
import Derived.Test.YtfncldaodbfakaaGreatPure
import Derived.Test.YtfncldaodbfakaaGreatOver1
namespace Go.Proofs.YtfncldaodbfakaaGreat.T
open Go.RowKit Go.Shelf
attribute [local go_sem] Oper.semAt_some
variable {w : World}

/-- the first n pixels of f -/
def upto (f : Nat → Px) (n : Nat) : Nat → Px := fun k => if k < n then f k else zp
theorem upto_zero (f : Nat → Px) : upto f 0 = z0 := by funext k; simp [upto, z0]
theorem upto_succ (f : Nat → Px) (n : Nat) : upd (upto f n) n (f n) = upto f (n + 1) := by
  funext k
  unfold upd upto
  by_cases h : k = n
  · subst h; rw [if_pos rfl, if_pos (by omega)]
  · rw [if_neg h]; by_cases h2 : k < n
    · rw [if_pos h2, if_pos (by omega)]
    · rw [if_neg h2, if_neg (by omega)]
theorem upto_all (f : Nat → Px) : tc (upto f 64) = tc f := tc_ext fun _ hi => if_pos hi
/-- a closure gives the pixel f i at the place number i -/
def Gives (g : Nat) (cb : Array Value) (f : Nat → Px) (w : World) : Prop :=
  ∀ V, Below w.heap.size w V → ∀ i, i < 64 → Calls Tryz.prog g (#[.int .i64 i, ptv i] ++ cb) V fun e w' => e = .returned (f i).v ∧ Below V.heap.size V w'
theorem Kept.setRow {M : Nat → Prop} {W W' : World} (h : Kept M W W') {b : Nat} (hb : M b) (cs : Array Value) : Kept M W (W'.setRow b cs) :=
  ⟨h.os, h.tape, h.output, by simpa [World.setRow] using h.size, fun k hk hm => (setRow_other W' b k cs (fun e => hm (e ▸ hb))).trans (h.block k hk hm)⟩
theorem abd_kept {β : Type} {M : Nat → Prop} {W : World} (n : Nat) (hn : W.heap.size ≤ n) : Abd n (fun (_ : β) V => Kept M W V) := fun _ _ _ h hb =>
  ⟨hb.os.trans h.os, hb.tape.trans h.tape, hb.output.trans h.output, Nat.le_trans h.size hb.size, fun k hk hm => (hb.block k (by omega)).trans (h.block k hk hm)⟩
/-- the places before number n -/
theorem pre_of {pre : List Nat} {x : Nat} (h : pre ++ [x] <+: List.range 64) : x = pre.length ∧ x < 64 := by
  obtain ⟨t, ht⟩ := h
  have hlen := congrArg List.length ht
  have hx : (pre ++ [x] ++ t)[pre.length]? = some x := by simp
  rw [ht] at hx
  have := List.getElem?_eq_some_iff.1 hx
  obtain ⟨h1, h2⟩ := this
  simp at h1 h2
  exact ⟨h2.symm, by omega⟩
set_option maxRecDepth 100000 in
set_option maxHeartbeats 4000000 in
theorem generate_any (g : Nat) (cb : Array Value) (f : Nat → Px) (w : World) (eg : ∀ args w, (callFunc g args).run Tryz.prog w = .ok (.enter g args) w) (hf : Gives g cb f w) :
    Calls Tryz.prog 129 #[.func (.func g) #[] cb] w fun e w' => e = .returned (tv f) ∧ Below w.heap.size w w' := by
  obtain ⟨b, hb⟩ : ∃ b, b = w.heap.size := ⟨_, rfl⟩
  obtain ⟨W1, hW1⟩ : ∃ W1, W1 = ((w.alloc (vo (.func (.func g) #[] cb) 185)).alloc (tob z0)).alloc (tob z0) := ⟨_, rfl⟩
  have hz : W1.heap.size = b + 3 := by rw [hW1, hb]; simp
  have hs := (((St.start w).alloc (vo (.func (.func g) #[] cb) 185)).alloc (tob z0)).alloc (tob z0)
  simp only [World.size_alloc] at hs
  rw [← hW1, ← hb] at hs
  have h1 := hs.row (b := b) (o := vo (.func (.func g) #[] cb) 185) (by simp)
  have h2 := hs.row (b := b + 1) (o := tob z0) (by simp)
  have h3 := hs.row (b := b + 1 + 1) (o := tob z0) (by simp)
  have hbel : Below b w W1 := hb ▸ hs.below
  have HF : Hid (∀ V, Below b w V → ∀ i, i < 64 → Calls Tryz.prog g (#[.int .i64 i, ptv i] ++ cb) V fun e w' => e = .returned (f i).v ∧ Below V.heap.size V w') := hb ▸ hf
  have HW := Lib.hid hW1
  have HB := Lib.hid hb
  have hzt := zero_tile
  clear hs hW1 hf hb
  refine (callsIn_wide (n := 6)).1 ?_
  refine callsIn_of_wp_marks Tryz.func129 rfl trivial ?_ rfl
  simp only [Tryz.ntmps129, List.size_toArray, List.length_cons, List.length_nil, Nat.reduceAdd, Nat.reduceSub, Array.replicate_succ, Array.replicate_zero, List.push_toArray, List.append_toArray, List.nil_append, List.cons_append]
  gi_wp2
  rw [← HB.out]
  have e1 : ((w.alloc (Obj.cells #[Value.func (Fn.func g) #[] cb] 185)).alloc (Obj.cells (tc z0) 38)).alloc (Obj.cells (tc z0) 38) = W1 := HW.out.symm
  rw [e1]
  clear e1 hzt
  have hIa : Abd W1.heap.size (fun (pre : List Nat) V => V.heap[b + 1 + 1]? = some (tob (upto f pre.length)) ∧ Hid (Kept (fun k => k = b + 1 + 1) W1 V)) := fun s A B ⟨k1, k2⟩ hb =>
    ⟨(hb.block _ (by omega)).trans k1, (abd_kept (β := Unit) _ (Nat.le_refl _)) () _ _ k2.out hb⟩
  refine range_box (gf := 162) (lb := #[]) rfl (enters_of Tryz.func162 (by kernel_rfl) rfl) (places_seq (fun k => k = b + 1 + 1) W1) (Below.refl _ _) (fun k hk => by omega) (fun _ => rfl)
    _ hIa ⟨by rw [List.length_nil, upto_zero]; exact h3, Kept.refl _ _⟩
    (fun x c => { tmps := #[.func (.func g) #[] cb, .pointer (some ⟨b, 0, none⟩), .pointer (some ⟨b + 1, 0, none⟩), .pointer (some ⟨b + 1 + 1, 0, none⟩), .int .i64 x, .pointer (some ⟨c, 0, none⟩), .int .i64 x, ptv x, undef, undef, undef, undef, undef, undef, undef], defers := [] })
    (fun x => .cells #[.int .i64 ((x : Int) % 8), .int .i64 ((x : Int) / 8)] 179) ?assign ?body ?done
  case assign =>
    intro l' x V K hK
    gi_wp2
    exact hK
  case body =>
    rintro l' pre x c V ⟨hT, HK⟩ hpre hc hP
    obtain ⟨rfl, hlt⟩ := pre_of hpre
    have hln : (pre ++ [pre.length]).length = pre.length + 1 := by simp
    generalize pre.length = n at *
    have HLN := Lib.hid hln
    have hnb : ∀ k, k < b → ¬ k = b + 1 + 1 := fun k hk => by omega
    have hcb : V.cell? ⟨b, 0, none⟩ = some (.func (.func g) #[] cb) := cell_of_row _ _ 0 _ _ _ (HK.out.row h1 (by omega))
    have hc0 : V.cell? ⟨c, 0, none⟩ = some (.int .i64 ((n : Int) % 8)) := cell_of_row _ _ 0 _ _ _ hP
    have hc1 : V.cell? ⟨c, 1, none⟩ = some (.int .i64 ((n : Int) / 8)) := cell_of_row _ _ 1 _ _ _ hP
    have HT := Lib.hid hT
    have hb2 : b + 1 + 1 < V.heap.size := (Array.getElem?_eq_some_iff.1 hT).1
    have hwV : Below b w V := hbel.trans (HK.out.below (by omega) hnb)
    have HC := Lib.hid (HF.out V hwV n hlt)
    have hix := index_px (b + 1 + 1) n hlt
    have HB2 := Lib.hid hb2
    have HNB := Lib.hid hnb
    clear hln hT hP hpre hIa h1 h2 h3 hbel HW hb2 hwV hnb
    gi_wp2_with (first | (refine wpListIn_store_of rfl 36 _ _ rfl HST.out ?_) | (refine ⟨trivial, ?_⟩; refine (CallsIn.inRound l' (inWide HC.out)).mono ?_; rintro e V2 ⟨rfl, hb⟩; have HT2 := Lib.hid ((hb.block (b + 1 + 1) HB2.out).trans HT.out); have hst := store_px (b + 1 + 1) (upto f n) n (f n) hlt V2 HT2.out; have HST := Lib.hid hst; have HBL := Lib.hid hb; clear hb hst))
    have hk2 : Kept (fun k => k = b + 1 + 1) V (V2.setRow (b + 1 + 1) (tc (upd (upto f n) n (f n)))) := Kept.setRow (M := fun k => k = b + 1 + 1) (Kept.of_below HBL.out) (b := b + 1 + 1) rfl _
    refine ⟨hk2, ?_, HK.out.trans hk2⟩
    rw [HLN.out, ← upto_succ]
    exact setRow_heap _ _ _ _ _ _ HT2.out
  case done =>
    rintro D V hD ⟨hT, HK⟩ hdef hk
    have hT2 : V.heap[b + 1 + 1]? = some (tob f) := by rw [hT, List.length_range]; show some (Obj.cells (tc (upto f 64)) _) = _; rw [upto_all]
    have hR : V.heap[b + 1]? = some (tob z0) := HK.out.row h2 (by omega)
    have hld := load_tile (b + 1 + 1) f V hT2
    have hst := store_tile (b + 1) z0 f V hR
    have hB2 : Below b w V := hbel.trans (HK.out.below (by omega) (fun k hk => by omega))
    have HB2 := Lib.hid hB2
    have HD := Lib.hid hD
    have HR := Lib.hid hR
    have HDF := Lib.hid hdef
    have HZ := Lib.hid hz
    clear hT hT2 hR hB2 hIa h1 h2 h3 hbel hdef hk hD hz
    have HLD := Lib.hid hld
    have HST := Lib.hid hst
    clear hld hst
    gi_wp2_with (first | (refine wpListIn_load_of rfl 38 _ rfl _ HLD.out ?_) | (refine wpListIn_store_of rfl 38 _ _ rfl HST.out ?_))
    have hd3 : (V.setRow (b + 1) (tc f)).heap[D]? = some (.deferred (some [])) := (setRow_other _ _ _ _ (by have := HD.out; have := HZ.out; omega)).trans HDF.out
    have hr3 : ((V.setRow (b + 1) (tc f)).putObj D (.deferred none)).heap[b + 1]? = some (tob f) := (World.putObj_heap_other (by have := HD.out; have := HZ.out; omega)).trans (setRow_heap _ _ _ _ _ _ HR.out)
    refine ⟨by simp, .inl ⟨_, _, rfl, run_takeDeferred hd3, ?_⟩⟩
    refine ⟨_, results_cell_row rfl _ _ (b + 1) _ _ _ _ rfl hr3 Tryz.underlying38 rfl (by rw [info_tile, tc_size]), rfl, ?_⟩
    rw [← HB.out]
    have hz2 : b ≤ (V.setRow (b + 1) (tc f)).heap.size := by have := HK.out.size; have := HZ.out; simp; omega
    have hb3 : Below b w (V.setRow (b + 1) (tc f)) := HB2.out.trans ⟨rfl, rfl, rfl, by simp, fun k hk => setRow_other _ _ _ _ (by omega)⟩
    exact hb3.trans (below_putObj _ (by have := HD.out; have := HZ.out; omega))
end Go.Proofs.YtfncldaodbfakaaGreat.T

namespace Go.Proofs.YtfncldaodbfakaaGreat.T
open Go.RowKit Go.Shelf
variable {W w w' : World} {L : List (Nat × Obj)}

/-- a pixel in memory, by its list of cells -/
abbrev pxo (p : Px) : Obj := .cells (pl p).toArray 36
abbrev pto (i : Nat) : Obj := .cells #[.int .i64 ((i : Int) % 8), .int .i64 ((i : Int) / 8)] 179
abbrev ptrB (b : Nat) : Value := .pointer (some ⟨b, 0, none⟩)
theorem load_px0 (b : Nat) (p : Px) (w : World) (h : w.heap[b]? = some (pxo p)) : (Instr.loadAt 36 (ptrB b)).run Tryz.prog w = .ok p.v w :=
  run_loadAt_mid w b 0 36 (pl p) _ (fun j v hv => by rw [Nat.zero_add, cell_of_row w b j _ _ (0, 0) h, ← hv]; exact List.getElem?_toArray) Tryz.underlying36 rfl (by kernel_rfl)
theorem store_px0 (b : Nat) (p q : Px) (w : World) (h : w.heap[b]? = some (pxo p)) : (Instr.storeAt 36 (ptrB b) q.v).run Tryz.prog w = .ok () (w.setRow b (pl q).toArray) := by
  have := run_storeVar_row (P := Tryz.prog) w b _ 36 _ (pl q).toArray h info_px rfl (pl_one q)
  simp only [Instr.storeAt, Instr.sureAddr, Sem.run_bind, Sem.run_pure, Result.andThen_ok]
  exact this
theorem Below.setRow {B g : Nat} {w0 w : World} (hb : Below B w0 w) (hBg : B ≤ g) (cs : Array Value) : Below B w0 (w.setRow g cs) :=
  hb.trans ⟨rfl, rfl, rfl, by simp, fun k hk => setRow_other w g k cs (by omega)⟩
theorem old_row {b : Nat} {o : Obj} (h : w.heap[b]? = some o) (hb : Below w.heap.size w w') : w'.heap[b]? = some o := (hb.block b (Array.getElem?_eq_some_iff.1 h).1).trans h
/-- the call's two blocks behind its place -/
theorem two_new (V : World) (o o' : Obj) : ((V.alloc o).alloc o').heap[V.heap.size + 1]? = some o' ∧ Below V.heap.size V ((V.alloc o).alloc o') ∧ ((V.alloc o).alloc o').heap.size = V.heap.size + 2 :=
  ⟨by have := World.alloc_heap_new (V.alloc o) o'; rwa [World.size_alloc] at this, ((Below.refl _ _).alloc (Nat.le_refl _) _).alloc (by simp) _, by simp⟩
theorem info_pxr : (Tryz.prog.info? 36).map (·.size) = some 4 := info_px

set_option maxRecDepth 100000 in
set_option maxHeartbeats 4000000 in
theorem clean1 (f : Nat → Px) (b i : Nat) (V : World) (hi : i < 64) (h : V.heap[b]? = some (tob f)) :
    Calls Tryz.prog 130 (#[.int .i64 i, ptv i] ++ #[ptrB b]) V fun e w' => e = .returned (cln (f i)).v ∧ Below V.heap.size V w' := by
  have key : Calls Tryz.prog 130 #[.int .i64 i, ptv i, ptrB b] V fun e w' => e = .returned (cln (f i)).v ∧ Below V.heap.size V w' := by
    obtain ⟨V2, hV2⟩ : ∃ V2, V2 = (V.alloc (pto i)).alloc (pxo zp) := ⟨_, rfl⟩
    obtain ⟨hr, hB, hz⟩ := two_new V (pto i) (pxo zp)
    rw [← hV2] at hr hB hz
    have hix := index_px b i hi
    have HL := Lib.hid (load_px b f i hi _ (old_row h hB))
    have HR := Lib.hid hr
    have HB := Lib.hid hB
    have HZ := Lib.hid hz
    have HV := Lib.hid hV2
    clear h hr hB hz hV2
    go_enter Tryz.func130, Tryz.ntmps130
    go_upto_region 1 with fail
    have e1 : (V.alloc (pto i)).alloc (po 0 0 0 0) = V2 := HV.out.symm
    rw [e1]
    clear e1
    go_wp2_with (first
      | (refine wpList_load_of rfl 36 _ rfl _ HL.out ?_)
      | (refine wpList_store_of rfl 36 _ _ rfl (store_px0 _ _ _ _ HR3.out) ?_)
      | (go_at_call 131; (refine (clean_any _ _ _ _ _).mono ?_); rintro e V3 ⟨rfl, hb3⟩; have HR3 := Lib.hid (old_row HR.out hb3); have HB3 := Lib.hid (HB.out.trans (hb3.mono (by have := HZ.out; omega))); clear hb3))
    exact bodyPost_ret (v := (cln (f i)).v) (results_cell_row rfl _ _ (V.heap.size + 1) _ _ _ _ rfl (setRow_heap _ _ _ _ _ _ HR3.out) Tryz.underlying36 rfl info_px) rfl ⟨rfl, Below.setRow HB3.out (by omega) _⟩
  exact key
end Go.Proofs.YtfncldaodbfakaaGreat.T

namespace Go.Proofs.YtfncldaodbfakaaGreat.T
open Go.RowKit Go.Shelf
variable {W w w' : World} {L : List (Nat × Obj)}

end Go.Proofs.YtfncldaodbfakaaGreat.T
namespace Go.Proofs.YtfncldaodbfakaaGreat
open Go.RowKit T
variable {W w w' : World} {L : List (Nat × Obj)}
/-- the cells of the pixel number i of the tile in block b -/
abbrev Q4 (V : World) (b i : Nat) (p : Px) : Prop :=
  V.cell? ⟨b, 4 * i, none⟩ = some (.int .u8 p.r) ∧ V.cell? ⟨b, 4 * i + 1, none⟩ = some (.int .u8 p.g) ∧ V.cell? ⟨b, 4 * i + 2, none⟩ = some (.int .u8 p.b) ∧ V.cell? ⟨b, 4 * i + 3, none⟩ = some (.int .u8 p.a)
theorem St.q4 (h : St W L w) {b : Nat} {f : Nat → Px} (hm : (b, tob f) ∈ L) (i : Nat) (hi : i < 64) : Q4 w b i (f i) :=
  ⟨range_px (h.row hm) hi 0 _ rfl, range_px (h.row hm) hi 1 _ rfl, range_px (h.row hm) hi 2 _ rfl, range_px (h.row hm) hi 3 _ rfl⟩
theorem St.more (h : St W L w) {b : Nat} {o : Obj} (hb : w.heap[b]? = some o) : St W ((b, o) :: L) w := ⟨h.below, fun x hx => by
  rcases List.mem_cons.1 hx with rfl | hx
  · exact hb
  · exact h.rows x hx⟩
end Go.Proofs.YtfncldaodbfakaaGreat
namespace Go.Proofs.YtfncldaodbfakaaGreat.T
open Go.RowKit Go.Shelf
/-- coverages as a value, and in memory -/
def cl64 (k : Nat → Int) : List Value := (List.range 64).map fun i => .int .u8 (k i)
def cvc (k : Nat → Int) : Array Value := (cl64 k).toArray
abbrev cvo (k : Nat → Int) : Obj := .cells (cvc k) 222
theorem cvc_size (k : Nat → Int) : (cvc k).size = 64 := by simp [cvc, cl64]
theorem cvc_get (k : Nat → Int) (i : Nat) (hi : i < 64) : (cvc k)[i]? = some (.int .u8 (k i)) := by
  unfold cvc cl64
  rw [List.getElem?_toArray, List.getElem?_map, List.getElem?_range hi]; rfl
theorem index_cov (b i : Nat) (hi : i < 64) (w : World) : (Instr.indexAt 222 (.pointer (some ⟨b, 0, none⟩)) (.int .i64 i)).run Tryz.prog w = .ok (.pointer (some ⟨b, i, none⟩)) w := by
  have hs : (sizeOf 5).run Tryz.prog w = .ok 1 w := by kernel_rfl
  have h2 : 0 ≤ (i : Int) ∧ (i : Int) < (64 : Nat) := ⟨by omega, by omega⟩
  have ha : (⟨b, 0, none⟩ : Addr).add (i * 1) = ⟨b, i, none⟩ := by rw [Addr.add_mid, Nat.zero_add, Nat.mul_one]
  simp only [Instr.indexAt, asIntOf, Instr.sureAddr, Sem.run_bind, Sem.run_pure, Result.andThen_ok, run_underlying Tryz.underlying222, hs, if_pos h2, Int.toNat_natCast, ha]
end Go.Proofs.YtfncldaodbfakaaGreat.T

namespace Go.Proofs.YtfncldaodbfakaaGreat.T
open Go.RowKit Go.Shelf
variable {W w w' : World} {L : List (Nat × Obj)}

set_option maxRecDepth 100000 in
set_option maxHeartbeats 4000000 in
theorem fill1 (p : Px) (b i : Nat) (V : World) (h : V.heap[b]? = some (pxo p)) :
    Calls Tryz.prog 201 (#[.int .i64 i, ptv i] ++ #[ptrB b]) V fun e w' => e = .returned p.v ∧ Below V.heap.size V w' := by
  have key : Calls Tryz.prog 201 #[.int .i64 i, ptv i, ptrB b] V fun e w' => e = .returned p.v ∧ Below V.heap.size V w' := by
    obtain ⟨V2, hV2⟩ : ∃ V2, V2 = (V.alloc (pto i)).alloc (pxo zp) := ⟨_, rfl⟩
    obtain ⟨hr, hB, hz⟩ := two_new V (pto i) (pxo zp)
    rw [← hV2] at hr hB hz
    have HL := Lib.hid (load_px0 b p _ (old_row h hB))
    have HR := Lib.hid hr
    have HB := Lib.hid hB
    have HV := Lib.hid hV2
    clear h hr hB hz hV2
    go_enter Tryz.func201, Tryz.ntmps201
    go_upto_region 1 with fail
    have e1 : (V.alloc (pto i)).alloc (po 0 0 0 0) = V2 := HV.out.symm
    rw [e1]
    clear e1
    go_wp2_with (first
      | (refine wpList_load_of rfl 36 _ rfl _ HL.out ?_)
      | (refine wpList_store_of rfl 36 _ _ rfl (store_px0 _ _ _ _ HR.out) ?_))
    exact bodyPost_ret (v := p.v) (results_cell_row rfl _ _ (V.heap.size + 1) _ _ _ _ rfl (setRow_heap _ _ _ _ _ _ HR.out) Tryz.underlying36 rfl info_px) rfl ⟨rfl, Below.setRow HB.out (by omega) _⟩
  exact key
set_option maxRecDepth 100000 in
set_option maxHeartbeats 4000000 in
theorem fill_any (p : Px) (w : World) : Calls Tryz.prog 175 #[p.v] w fun e w' => e = .returned (tv (fun _ => p)) ∧ Below w.heap.size w w' := by
  obtain ⟨V2, hV2⟩ : ∃ V2, V2 = ((w.alloc (po p.r p.g p.b p.a)).alloc (tob z0)) := ⟨_, rfl⟩
  have hs := (((St.start w).alloc (po p.r p.g p.b p.a)).alloc (tob z0))
  simp only [World.size_alloc] at hs
  rw [← hV2] at hs
  have hr0 := hs.row (b := w.heap.size) (o := pxo p) (by first | (simp; done) | (simp; rfl))
  have hr1 := hs.row (b := w.heap.size + 1) (o := tob z0) (by first | (simp; done) | (simp; rfl))
  have HG := Lib.hid (generate_any 201 #[ptrB (w.heap.size)] (fun _ => p) V2 (enters_of Tryz.func201 (by kernel_rfl) rfl) (fun V hV i hi => fill1 p _ i V (old_row hr0 hV)))
  have HB := Lib.hid hs.below
  have HZ := Lib.hid hs.below.size
  have HR := Lib.hid hr1
  have HV := Lib.hid hV2
  have hzt := zero_tile
  clear hr0 hr1 hs hV2
  go_enter Tryz.func175, Tryz.ntmps175
  go_upto_region 1 with fail
  have e1 : ((w.alloc (po p.r p.g p.b p.a)).alloc (tob z0)) = V2 := HV.out.symm
  rw [e1]
  clear e1
  go_wp2_with (first
    | (refine wpList_store_of rfl 38 _ _ rfl (store_tile _ _ _ _ HR3.out) ?_)
    | (go_at_call 129; (refine HG.out.mono ?_); rintro e V3 ⟨rfl, hb3⟩; have HR3 := Lib.hid (old_row HR.out hb3); have HB3 := Lib.hid (HB.out.trans (hb3.mono HZ.out)); clear hb3))
  exact bodyPost_ret (v := tv (fun _ => p)) (results_cell_row rfl _ _ (w.heap.size + 1) _ _ _ _ rfl (setRow_heap _ _ _ _ _ _ HR3.out) Tryz.underlying38 rfl (by rw [info_tile, tc_size])) rfl ⟨rfl, Below.setRow HB3.out (by omega) _⟩
set_option maxRecDepth 100000 in
set_option maxHeartbeats 4000000 in
theorem tclean_any (f : Nat → Px) (w : World) : Calls Tryz.prog 77 #[tv f] w fun e w' => e = .returned (tv (fun i => cln (f i))) ∧ Below w.heap.size w w' := by
  obtain ⟨V2, hV2⟩ : ∃ V2, V2 = ((w.alloc (tob f)).alloc (tob z0)) := ⟨_, rfl⟩
  have hs := (((St.start w).alloc (tob f)).alloc (tob z0))
  simp only [World.size_alloc] at hs
  rw [← hV2] at hs
  have hr0 := hs.row (b := w.heap.size) (o := tob f) (by first | (simp; done) | (simp; rfl))
  have hr1 := hs.row (b := w.heap.size + 1) (o := tob z0) (by first | (simp; done) | (simp; rfl))
  have HG := Lib.hid (generate_any 130 #[ptrB (w.heap.size)] (fun i => cln (f i)) V2 (enters_of Tryz.func130 (by kernel_rfl) rfl) (fun V hV i hi => clean1 f _ i V hi (old_row hr0 hV)))
  have HB := Lib.hid hs.below
  have HZ := Lib.hid hs.below.size
  have HR := Lib.hid hr1
  have HV := Lib.hid hV2
  have hzt := zero_tile
  clear hr0 hr1 hs hV2
  go_enter Tryz.func77, Tryz.ntmps77
  go_upto_region 1 with fail
  have e1 : ((w.alloc (tob f)).alloc (tob z0)) = V2 := HV.out.symm
  rw [e1]
  clear e1
  go_wp2_with (first
    | (refine wpList_store_of rfl 38 _ _ rfl (store_tile _ _ _ _ HR3.out) ?_)
    | (go_at_call 129; (refine HG.out.mono ?_); rintro e V3 ⟨rfl, hb3⟩; have HR3 := Lib.hid (old_row HR.out hb3); have HB3 := Lib.hid (HB.out.trans (hb3.mono HZ.out)); clear hb3))
  exact bodyPost_ret (v := tv (fun i => cln (f i))) (results_cell_row rfl _ _ (w.heap.size + 1) _ _ _ _ rfl (setRow_heap _ _ _ _ _ _ HR3.out) Tryz.underlying38 rfl (by rw [info_tile, tc_size])) rfl ⟨rfl, Below.setRow HB3.out (by omega) _⟩
end Go.Proofs.YtfncldaodbfakaaGreat.T

namespace Go.Proofs.YtfncldaodbfakaaGreat.T
open Go.RowKit Go.Shelf
variable {W w w' : World} {L : List (Nat × Obj)}

def flipI (i : Nat) : Nat := 8 * (i / 8) + (7 - i % 8)
def turnI (i : Nat) : Nat := 8 * (7 - i % 8) + i / 8
theorem flipI_lt {i : Nat} (h : i < 64) : flipI i < 64 := by unfold flipI; omega
theorem turnI_lt {i : Nat} (h : i < 64) : turnI i < 64 := by unfold turnI; omega
theorem flipI_xy {i : Nat} (_h : i < 64) : ((flipI i : Nat) : Int) % 8 = 7 - (i : Int) % 8 ∧ ((flipI i : Nat) : Int) / 8 = (i : Int) / 8 := by unfold flipI; omega
theorem turnI_xy {i : Nat} (_h : i < 64) : ((turnI i : Nat) : Int) % 8 = (i : Int) / 8 ∧ ((turnI i : Nat) : Int) / 8 = 7 - (i : Int) % 8 := by unfold turnI; omega

end Go.Proofs.YtfncldaodbfakaaGreat.T

namespace Go.Proofs.YtfncldaodbfakaaGreat.T
open Go.RowKit Go.Shelf
variable {W w w' : World} {L : List (Nat × Obj)}

/-- does a tile have a pixel at column x and row y? -/
def ins (x y : Int) : Bool := decide (0 ≤ x ∧ x < 8 ∧ 0 ≤ y ∧ y < 8)
theorem ins_iff (x y : Int) : ins x y = true ↔ (0 ≤ x ∧ x < 8 ∧ 0 ≤ y ∧ y < 8) := by simp [ins]
/-- what Get and Set give -/
def gt (f : Nat → Px) (x y : Int) : Px := if ins x y then f (8 * y + x).toNat else zp
def st (f : Nat → Px) (x y : Int) (p : Px) : Nat → Px := if ins x y then upd f (8 * y + x).toNat p else f
theorem ins_nat {x y : Int} (h : ins x y = true) : (8 * y + x).toNat < 64 ∧ 8 * y + x = ((8 * y + x).toNat : Int) ∧ 0 ≤ x ∧ x < 8 ∧ 0 ≤ y ∧ y < 8 := by
  obtain ⟨h1, h2, h3, h4⟩ := (ins_iff x y).1 h
  omega
theorem drew_eqw (w : World) : ({ heap := w.heap, tape := w.tape, drawn := w.drawn + 1, os := w.os, output := w.output } : World) = w.drew := rfl
theorem quiet_sym {P : Program} {f : FuncId} {args : Array Value} {v : Value} {w : World} (h : Calls P f args w fun e w' => e = .returned v ∧ w = w') : Calls P f args w fun e w' => e = .returned v ∧ w' = w := h.mono fun _ _ ⟨h1, h2⟩ => ⟨h1, h2.symm⟩
end Go.Proofs.YtfncldaodbfakaaGreat.T
