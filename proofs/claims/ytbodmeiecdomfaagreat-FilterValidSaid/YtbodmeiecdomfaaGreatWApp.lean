/-
  Apply, of arguments without an error, by a kind whose closure changes nothing.
-/
import Derived.Test.YtbodmeiecdomfaaGreatWMth
import Derived.Test.YtbodmeiecdomfaaGreatWChk
namespace Go.Proofs.YtbodmeiecdomfaaGreat.W
open Go.RowKit Go.Shelf
set_option maxRecDepth 100000
attribute [local go_sem] Oper.semAt_some run_store_func run_store_nilFunc
variable {W w w' : World} {L : List (Nat × Obj)}

theorem wpList_make {P : Program} {ops : Array Oper} {rest : List Oper} {o : Oper} {a : Act} {Q : Exit → Act → World → Prop} (hg : o.guard = none) (l c : Operand) (t : TypeId) (hop : o.op = Op.makeSlice t l c) (vl vc : Value) (hl : a.eval l = vl) (hc : a.eval c = vc) (v : Value)
    (hr : (Instr.makeSlice t vl vc).run P w = .ok v w') (h : wpList P ops Q rest (a.put o.dst v) w') : wpList P ops Q (o :: rest) a w :=
  wpList_plain hg fun K hK => by
    unfold Oper.wp execOp
    simp only [hop, hl, hc, Sem.run_bind, hr, Result.andThen_ok, Sem.run_pure]
    exact hK _ _ h
theorem infoPx : (Tryz.prog.info? 39).map (fun i => (i.zero, i.size, i.bytes)) = some (some (pv 0 0 0 0), 4, 4) := by kernel_rfl
theorem infoOf {t : TypeId} {z : Value} {n k : Nat} (h : (Tryz.prog.info? t).map (fun i => (i.zero, i.size, i.bytes)) = some (some z, n, k)) : ∃ i, Tryz.prog.info? t = some i ∧ i.zero = some z ∧ i.size = n ∧ i.bytes = k := by
  cases hi : Tryz.prog.info? t with
  | none => rw [hi] at h; cases h
  | some i => rw [hi] at h; simp at h; exact ⟨i, rfl, h.1, h.2.1, h.2.2⟩
/-- N pixels in block b, the first k of them f, the others zero -/
def PS (w : World) (b N k : Nat) (f : Nat → Px) : Prop := ∃ cs, w.heap[b]? = some (.cells cs 39) ∧ cs.size = N * 4 ∧ ∀ i, i < N → PB w b (i * 4) (if i < k then f i else zp)
theorem mk_px (N : Nat) (w : World) (hN : N ≤ 262144) (f : Nat → Px) : ∃ o, (Instr.makeSlice 35 (.int .i64 N) (.int .i64 N)).run Tryz.prog w = .ok (.slice (some ⟨w.heap.size, 0, none⟩) N N) (w.alloc o) ∧ PS (w.alloc o) w.heap.size N 0 f := by
  obtain ⟨i, hi, hz0, hz1, hz2⟩ := infoOf infoPx
  have h := run_make (P := Tryz.prog) w 35 39 i _ Tryz.underlying35 hi hz0 .i64 .i64 N N (by omega) (Int.le_refl _) (by rw [hz2]; omega) (by omega)
  rw [hz1, Int.toNat_natCast] at h
  refine ⟨_, h, _, World.alloc_heap_new _ _, by simp [madeCells], fun j hj => ?_⟩
  rw [if_neg (by omega)]
  have hr := World.alloc_heap_new w (.cells (madeCells (Value.cells (pv 0 0 0 0)) (N * 4)) 39)
  have hc : ∀ q, q < 4 → (madeCells (Value.cells (pv 0 0 0 0)) (N * 4))[j * 4 + q]? = some (.int .u8 0) := fun q hq => by
    have hlt : j * 4 + q < N * 4 := by omega
    have hm : (j * 4 + q) % 4 = q := by omega
    unfold madeCells
    simp [hlt, hm, Value.cells]
    rcases (by omega : q = 0 ∨ q = 1 ∨ q = 2 ∨ q = 3) with rfl | rfl | rfl | rfl <;> simp
  exact ⟨(cell_of_row _ _ _ _ _ _ hr).trans (hc 0 (by omega)), (cell_of_row _ _ _ _ _ _ hr).trans (hc 1 (by omega)), (cell_of_row _ _ _ _ _ _ hr).trans (hc 2 (by omega)), (cell_of_row _ _ _ _ _ _ hr).trans (hc 3 (by omega))⟩
theorem PS.later {b N k : Nat} {f : Nat → Px} (h : PS w b N k f) (hr : w'.heap[b]? = w.heap[b]?) : PS w' b N k f := by
  obtain ⟨cs, h1, h2, h3⟩ := h
  have hc : ∀ j, w'.cell? ⟨b, j, none⟩ = w.cell? ⟨b, j, none⟩ := fun j => by unfold World.cell?; simp only [hr]
  exact ⟨cs, hr.trans h1, h2, fun i hi => by
    obtain ⟨a0, a1, a2, a3⟩ := h3 i hi
    exact ⟨(hc _).trans a0, (hc _).trans a1, (hc _).trans a2, (hc _).trans a3⟩⟩
/-- a pixel more -/
theorem PS.set {b N k : Nat} {f : Nat → Px} {p : Px} (h : PS w b N k f) (hk : k < N) (hp : f k = p) : PS ((((w.setCell ⟨b, k * 4, none⟩ (.int .u8 p.r)).setCell ⟨b, k * 4 + 1, none⟩ (.int .u8 p.g)).setCell ⟨b, k * 4 + 2, none⟩ (.int .u8 p.b)).setCell ⟨b, k * 4 + 3, none⟩ (.int .u8 p.a)) b N (k + 1) f := by
  obtain ⟨cs, h1, h2, h3⟩ := h
  have hr := set_row (j := k * 4 + 3) (v := .int .u8 p.a) (set_row (j := k * 4 + 2) (v := .int .u8 p.b) (set_row (j := k * 4 + 1) (v := .int .u8 p.g) (set_row (j := k * 4) (v := .int .u8 p.r) h1)))
  refine ⟨_, hr, by simp [h2], fun i hi => ?_⟩
  have old := fun j => cell_of_row w b j cs _ _ h1
  have new := fun j => cell_of_row _ b j _ _ _ hr
  by_cases he : i = k
  · subst he
    rw [if_pos (by omega), hp]
    refine ⟨(new _).trans ?_, (new _).trans ?_, (new _).trans ?_, (new _).trans ?_⟩ <;> simp [Array.getElem?_setIfInBounds, h2] <;> omega
  · have hc := h3 i hi
    have hif : (if i < k + 1 then f i else zp) = if i < k then f i else zp := by
      by_cases hlt : i < k
      · rw [if_pos hlt, if_pos (by omega)]
      · rw [if_neg hlt, if_neg (by omega)]
    rw [hif]
    obtain ⟨a0, a1, a2, a3⟩ := hc
    rw [old] at a0 a1 a2 a3
    refine ⟨(new _).trans ?_, (new _).trans ?_, (new _).trans ?_, (new _).trans ?_⟩
    all_goals
      rw [Array.getElem?_setIfInBounds_ne (by omega), Array.getElem?_setIfInBounds_ne (by omega), Array.getElem?_setIfInBounds_ne (by omega), Array.getElem?_setIfInBounds_ne (by omega)]
      assumption
/-- all of them -/
theorem PS.all {b N : Nat} {f : Nat → Px} (h : PS w b N N f) (hN : N ≤ 262144) : PM w (.slice (some ⟨b, 0, none⟩) N N) ((List.range N).map f) := by
  obtain ⟨cs, h1, h2, h3⟩ := h
  refine ⟨_, N, by simp, by simp, by omega, fun _ => ⟨b, 0, rfl, (Array.getElem?_eq_some_iff.1 h1).1, fun i hi => ?_⟩⟩
  simp at hi
  have := h3 i hi
  rw [if_pos hi] at this
  rw [Nat.zero_add]
  have hg : pg ((List.range N).map f) i = f i := by simp [pg, List.getD, hi]
  rw [hg]; exact this
/-- V keeps what w holds: all below B, and whatever is no box of a nil function -/
structure KN (B : Nat) (w V : World) : Prop where
  os : V.os = w.os
  tape : V.tape = w.tape
  output : V.output = w.output
  size : w.heap.size ≤ V.heap.size
  low : ∀ j : Nat, j < B → V.heap[j]? = w.heap[j]?
  high : ∀ (j : Nat) (o : Obj), w.heap[j]? = some o → o ≠ Obj.cells #[Value.nilFunc] 56 → V.heap[j]? = some o
theorem KN.below {B : Nat} {w V : World} (h : KN B w V) : Below B w V := ⟨h.os, h.tape, h.output, h.size, fun j hj => h.low j hj⟩
theorem KN.trans {B : Nat} {w w' V : World} (hb : Below w.heap.size w w') (hB : B ≤ w.heap.size) (h : KN B w' V) : KN B w V :=
  ⟨h.os.trans hb.os, h.tape.trans hb.tape, h.output.trans hb.output, Nat.le_trans hb.size h.size, fun j hj => (h.low j hj).trans (hb.block j (by omega)), fun j o ho hn => h.high j o ((hb.block j (Array.getElem?_eq_some_iff.1 ho).1).trans ho) hn⟩
/-- what a closure does at the places of a rectangle, wherever it is called later -/
def Does (B : Nat) (q0 q1 : Int) (N d : Nat) (out : Nat → Px) (f : Value) (w : World) : Prop := B ≤ w.heap.size ∧ ∃ fid caps, f = .func (.func fid) #[] caps ∧ (∀ args w, (callFunc fid args).run Tryz.prog w = .ok (.enter fid args) w) ∧
  ∀ V, KN B w V → ∀ i, i < N → Calls Tryz.prog fid (#[ptv (q0 + (i % d : Nat)) (q1 + (i / d : Nat))] ++ caps) V fun e w' => e = .returned (out i).v ∧ Below V.heap.size V w'
theorem Does.later {B : Nat} {q0 q1 : Int} {N d : Nat} {out : Nat → Px} (f : Value) (w w' : World) (h : Does B q0 q1 N d out f w) (hb : Below w.heap.size w w') : Does B q0 q1 N d out f w' := by
  obtain ⟨h0, fid, caps, h1, h2, h3⟩ := h
  exact ⟨Nat.le_trans h0 hb.size, fid, caps, h1, h2, fun V hV => h3 V (hV.trans hb h0)⟩
theorem Loc.ps {β : Type} {B b N : Nat} {f : Nat → Px} {k : β → Nat} (hb : b < B) : Loc B (fun s W => PS W b N (k s) f) := fun _ _ _ hs h => hs.later (h.block b hb)
set_option maxHeartbeats 8000000 in
theorem apply_any (k r d v x0 y0 x1 y1 q0 q1 q2 q3 : Int) (K C P : Value) (fm N dd : Nat) (out : Nat → Px) (w : World)
    (hchk : ∀ V, Below w.heap.size w V → Calls Tryz.prog 26 #[fv k r K d v C, imv x0 y0 x1 y1 P, R.rv q0 q1 q2 q3] V fun e w' => e = .returned (.int .i64 0) ∧ Below V.heap.size V w')
    (hix : ∀ V, (Instr.index 58 efs (.int .i64 k)).run Tryz.prog V = .ok (fnv fm) V) (hen : ∀ args w, (callFunc fm args).run Tryz.prog w = .ok (.enter fm args) w)
    (hmeth : ∀ V, Below w.heap.size w V → Calls Tryz.prog fm #[fv k r K d v C, imv x0 y0 x1 y1 P] V fun e w' => ∃ f, e = .returned f ∧ Below V.heap.size V w' ∧ Does w.heap.size q0 q1 N dd out f w')
    (ha : R.area q0 q1 q2 q3 = N) (hN : N ≤ 262144) (hdw : wrap64 (q2 - q0) = dd) (hd : 0 < N → 0 < dd) (hd2 : dd ≤ 4000000) (hx0 : -2000000 ≤ q0) (hx1 : q0 ≤ 2000000) (hy0 : -2000000 ≤ q1) (hy1 : q1 ≤ 2000000) :
    Calls Tryz.prog 13 #[fv k r K d v C, imv x0 y0 x1 y1 P, R.rv q0 q1 q2 q3] w fun e w' => ∃ b, e = .returned (.tuple #[imv q0 q1 q2 q3 (.slice (some ⟨b, 0, none⟩) N N), .int .i64 0]) ∧ w.heap.size ≤ b ∧ PM w' (.slice (some ⟨b, 0, none⟩) N N) ((List.range N).map fun i => cln (out i)) ∧ Below w.heap.size w w' := by
  refine (callsIn_wide (n := 8)).1 ?_
  refine callsIn_of_wp_marks Tryz.func13 rfl trivial ?_ rfl
  simp only [Tryz.ntmps13, List.size_toArray, List.length_cons, List.length_nil, Nat.reduceAdd, Nat.reduceSub, Array.replicate_succ, Array.replicate_zero, List.push_toArray, List.append_toArray, List.nil_append, List.cons_append]
  have hm : Tryz.prog.follows .mixedOrders = true := by kernel_rfl
  refine wpIn_wide.2 ?_
  go_upto_region 1 with fail
  have hs := ((((St.start w).alloc (fo k r K d v C)).alloc (im0 x0 y0 x1 y1 P)).alloc (R.ro q0 q1 q2 q3)).alloc (im0 0 0 0 0 (.slice none 0 0))
  simp only [World.size_alloc] at hs
  generalize (((w.alloc (fo k r K d v C)).alloc (im0 x0 y0 x1 y1 P)).alloc (R.ro q0 q1 q2 q3)).alloc (im0 0 0 0 0 (.slice none 0 0)) = w1 at hs ⊢
  obtain ⟨L, hL⟩ : ∃ L, L = [(w.heap.size + 1 + 1 + 1, im0 0 0 0 0 (.slice none 0 0)), (w.heap.size + 1 + 1, R.ro q0 q1 q2 q3), (w.heap.size + 1, im0 x0 y0 x1 y1 P), (w.heap.size, fo k r K d v C)] := ⟨_, rfl⟩
  rw [← hL] at hs
  have HC : Hid (∀ V, St w L V → (V.heap[w.heap.size]? = some (fo k r K d v C) ∧ V.heap[w.heap.size + 1]? = some (im0 x0 y0 x1 y1 P) ∧ V.heap[w.heap.size + 1 + 1]? = some (R.ro q0 q1 q2 q3) ∧ V.heap[w.heap.size + 1 + 1 + 1]? = some (im0 0 0 0 0 (.slice none 0 0)))) := fun V h => by
    subst hL
    exact ⟨h.row (by simp), h.row (by simp), h.row (by simp), h.row (by simp)⟩
  have HLb : ∀ q ∈ L, q.1 < w.heap.size + 4 := by subst hL; intro q hq; simp at hq; rcases hq with rfl | rfl | rfl | rfl <;> simp
  clear hL
  obtain ⟨r0, r1, r2, r3⟩ := HC.out _ hs
  obtain ⟨a0, a1, a2, a3, a4, a5⟩ := ef_of r0
  obtain ⟨b0, b1, b2, b3, b4⟩ := im_of r1
  obtain ⟨c0, c1, c2, c3⟩ := qb_of r2
  have hb := hs.below
  go_upto_region 4 with (go_at_call 26; (with_reducible refine (St.call (W := w) (L := L) (by assumption) (hchk _ hb)).mono ?_); rintro e w2 ⟨rfl, h2⟩)
  clear r0 r1 r2 r3 a0 a1 a2 a3 a4 a5 b0 b1 b2 b3 b4 c0 c1 c2 c3 hb
  have HCH := Lib.hid hchk; clear hchk
  refine (wpIn_wide (n := 8)).1 ?_
  refine meth_region (W := w2.drew) (s := w.heap.size) (fm := fm) (k := k) (r := r) (d := d) (v := v) (x0 := x0) (y0 := y0) (x1 := x1) (y1 := y1) (K := K) (C := C) (P := P) (E := Does w.heap.size q0 q1 N dd out) rfl (by show 44 ≤ (45 : Nat); omega) (fun f w w' h => h.later f w w') (fun f w h => ?_) rfl (w.heap.size + 1) rfl hen (fun V hV => ?_) hix (fun V hV => hmeth V (h2.drew.below.trans (hV.mono h2.drew.below.size))) (fun b f w4 hwb hwr hdo hbw => ?_)
  · obtain ⟨_, fid, caps, h1, _⟩ := h
    exact ⟨_, _, h1⟩
  · have hV2 := h2.drew.later hV
    obtain ⟨r0, r1, r2, r3⟩ := HC.out _ hV2
    obtain ⟨a0, a1, a2, a3, a4, a5⟩ := ef_of r0
    obtain ⟨b0, b1, b2, b3, b4⟩ := im_of r1
    refine ⟨a0, ?_, ?_⟩
    · simp [Instr.loadAt, Instr.sureAddr, loadVar, go_sem, a0, a1, a2, a3, a4, a5]
    · simp [Instr.loadAt, Instr.sureAddr, loadVar, go_sem, b0, b1, b2, b3, b4]
  have hb2 := h2.drew.below
  have hst4 : St w L w4 := h2.drew.later hbw
  have hm5 : Mv [b] w4 (w4.setCell ⟨b, 0, none⟩ f) := Mv.set (by simp)
  have hr5 := set_row (j := 0) (v := f) hwr
  have hst5 : St w L (w4.setCell ⟨b, 0, none⟩ f) := ⟨hst4.below.trans (hm5.below (by simpa using Nat.le_trans hb2.size hwb) hst4.below.size), fun q hq => hm5.row (by have := HLb q hq; have := (Array.getElem?_eq_some_iff.1 (h2.drew.rows q hq)).1; simp; omega) (hst4.rows q hq)⟩
  have HKN : Hid (∀ V, Below (w4.setCell ⟨b, 0, none⟩ f).heap.size (w4.setCell ⟨b, 0, none⟩ f) V → KN w.heap.size w4 V) := fun V hV =>
    ⟨hV.os.trans hm5.os, hV.tape.trans hm5.tape, hV.output.trans hm5.output, Nat.le_trans hm5.size hV.size, fun j hj => by
      have h1 := hb2.size; have h3 := hbw.size; have h4 := hm5.size
      exact (hV.block j (by omega)).trans (hm5.block j (by omega) (by simp; omega)), fun j o ho hn => by
      have hjb : j ≠ b := fun e => by subst e; rw [ho] at hwr; cases hwr; exact hn rfl
      have hj := (Array.getElem?_eq_some_iff.1 ho).1
      exact (hV.block j (Nat.lt_of_lt_of_le hj hm5.size)).trans ((hm5.block j hj (by simpa using hjb)).trans ho)⟩
  have hbs : b < (w4.setCell ⟨b, 0, none⟩ f).heap.size := (Array.getElem?_eq_some_iff.1 hr5).1
  have hbL : ∀ q ∈ L, q.1 ≠ b := fun q hq => by have := HLb q hq; have := (Array.getElem?_eq_some_iff.1 (h2.drew.rows q hq)).1; omega
  generalize w4.setCell ⟨b, 0, none⟩ f = w5 at *
  clear hm5 hst4 hwr
  have HAR : Hid (∀ V, Calls Tryz.prog 28 #[R.rv q0 q1 q2 q3] V fun e w' => e = .returned (.int .i64 N) ∧ Below V.heap.size V w') := fun V => ha ▸ R.area_any q0 q1 q2 q3 V
  obtain ⟨r0, r1, r2, r3⟩ := HC.out _ hst5
  obtain ⟨c0, c1, c2, c3⟩ := qb_of r2
  clear r0 r1 r2 r3
  go_upto_region 6 with (first
    | (go_at_call 28; (with_reducible refine (St.call2 (W := w) (L := L) (by assumption) (HAR.out _)).mono ?_); rintro e w6 ⟨rfl, h6, hb6⟩; have HB6 := Lib.hid hb6; clear hb6; obtain ⟨om, hmk, hps⟩ := mk_px N w6 hN (fun i => cln (out i)); have HPS := Lib.hid hps; clear hps)
    | (at_make; refine wpList_make rfl (.tmp 29) (.tmp 29) 35 rfl _ _ rfl rfl _ hmk ?_))
  obtain ⟨bp, hbp⟩ : ∃ bp, bp = w6.heap.size := ⟨_, rfl⟩
  have hr5' : w5.heap[b]? = some (.cells #[f] 56) := hr5
  have hb6 := HB6.out
  have hb7 : Below w6.heap.size w6 ((w6.alloc om).alloc (.cells #[.slice (some ⟨w6.heap.size, 0, none⟩) N N] 35)) := below2
  have hrb : ((w6.alloc om).alloc (.cells #[.slice (some ⟨w6.heap.size, 0, none⟩) N N] 35)).heap[w6.heap.size + 1]? = some (.cells #[.slice (some ⟨w6.heap.size, 0, none⟩) N N] 35) := by
    have := World.alloc_heap_new (w6.alloc om) (.cells #[.slice (some ⟨w6.heap.size, 0, none⟩) N N] 35)
    rwa [World.size_alloc] at this
  have hps7 : PS ((w6.alloc om).alloc (.cells #[.slice (some ⟨w6.heap.size, 0, none⟩) N N] 35)) w6.heap.size N 0 (fun i => cln (out i)) := HPS.out.later (Below.heap_alloc _ _ _ (by simp))
  have hz7 : ((w6.alloc om).alloc (.cells #[.slice (some ⟨w6.heap.size, 0, none⟩) N N] 35)).heap.size = w6.heap.size + 2 := by simp
  have hle6 : w5.heap.size ≤ w6.heap.size := hb6.size
  rw [← hbp] at *
  generalize (w6.alloc om).alloc (.cells #[.slice (some ⟨bp, 0, none⟩) N N] 35) = w7 at *
  have hbw5 : Below w5.heap.size w5 w7 := hb6.trans (hb7.mono hle6)
  have hst7 : St w L w7 := hst5.later hbw5
  have hrb7 : w7.heap[b]? = some (.cells #[f] 56) := (hbw5.block b hbs).trans hr5'
  have HST7 := Lib.hid hst7
  obtain ⟨r0, r1, r2, r3⟩ := HC.out _ hst7
  obtain ⟨c0, c1, c2, c3⟩ := qb_of r2
  clear r0 r1 hst7
  have hrr := r3
  clear r3
  go_wp2_with (go_at_call 29; (with_reducible refine (places_any _ _ _ _ _).mono ?_); rintro e W1 ⟨rfl, rfl⟩)
  refine (wpIn_wide (n := 8)).1 ?_
  obtain ⟨w8, hw8⟩ : ∃ w8, w8 = (w7.alloc (R.ro q0 q1 q2 q3)).alloc (numo dd) := ⟨_, rfl⟩
  have z8 : w8.heap.size = w7.heap.size + 2 := by rw [hw8]; simp
  have hb8 : Below w7.heap.size w7 w8 := by rw [hw8]; exact below2
  have p1 : w8.heap[w7.heap.size]? = some (R.ro q0 q1 q2 q3) := by rw [hw8]; exact (Below.heap_alloc _ _ _ (by simp)).trans (World.alloc_heap_new _ _)
  have p2 : w8.heap[w7.heap.size + 1]? = some (numo dd) := by
    rw [hw8]; have := World.alloc_heap_new (w7.alloc (R.ro q0 q1 q2 q3)) (numo dd); rwa [World.size_alloc] at this
  obtain ⟨hdo0, fid, caps, hfn, hen2, hdoes⟩ := hdo
  have HDO := Lib.hid hdoes; clear hdoes
  rw [← hw8]
  rw [hz7] at p1 p2 z8
  clear hw8
  have hbbp : b ≠ bp := by omega
  have hLbp : ∀ q ∈ L, q.1 ≠ bp := fun q hq => by have := HLb q hq; have := h2.drew.below.size; have := (Array.getElem?_eq_some_iff.1 (h2.drew.rows q hq)).1; omega
  have HM : Hid (∀ V, Mv [bp] w7 V → Below w5.heap.size w5 V ∧ V.heap[b]? = some (.cells #[f] 56) ∧ V.heap[bp + 1]? = some (.cells #[.slice (some ⟨bp, 0, none⟩) N N] 35) ∧ (∀ q ∈ L, V.heap[q.1]? = some q.2)) := fun V h =>
    ⟨hbw5.trans (h.below (by simpa using hle6) hbw5.size), h.row (by simpa using hbbp) hrb7, h.row (by simp) hrb, fun q hq => h.row (by simpa using hLbp q hq) (HST7.out.rows q hq)⟩
  refine range_iter (gf := 53) (lb := #[.pointer (some ⟨bp + 2, 0, none⟩), .pointer (some ⟨bp + 2 + 1, 0, none⟩)]) (w0 := w8) rfl (enters_of Tryz.func53 (by kernel_rfl) rfl)
    (places_iter (bp + 2) (bp + 2 + 1) q0 q1 q2 q3 N dd [bp] w8 p1 p2 (by simp) (by simp <;> omega) hd hd2 hx0 hx1 hy0 hy1 (by omega) ha) (Mv.refl _ _) (by simp; omega) (fun _ => rfl)
    (fun pre V => Mv [bp] w7 V ∧ PS V bp N pre.length (fun i => cln (out i))) (fun _ _ => False) ((Loc.mv (by omega)).and (Loc.ps (by omega))) (fun _ _ _ h _ => h) ⟨.of_below hb8, hps7.later (hb8.block bp (by omega))⟩ ?round ?done ?ret
  case ret => rintro D pre V hD hj hK; exact hj.elim
  case round =>
    rintro l pre i post V hx hl hlt ⟨hMv, hPS⟩
    obtain ⟨rfl, hiN⟩ := range_is hx
    have hlen : (pre ++ [pre.length]).length = pre.length + 1 := by simp
    rw [hlen]
    generalize pre.length = n at *
    have HP2 : Hid (∀ V2, Mv [l] (V.alloc (pto (q0 + (n % dd : Nat)) (q1 + (n / dd : Nat)))) V2 → Mv [bp] w7 V2 ∧ PS V2 bp N n (fun i => cln (out i)) ∧ V2.heap[V.heap.size]? = some (pto (q0 + (n % dd : Nat)) (q1 + (n / dd : Nat)))) := fun V2 h => by
      have h1 : Below w8.heap.size V (V.alloc (pto (q0 + (n % dd : Nat)) (q1 + (n / dd : Nat)))) := below1.mono (by omega)
      have h2 := h1.trans (h.below (by simpa using hl) (by simp; omega))
      exact ⟨(Loc.mv (β := Unit) (by omega)) () _ _ hMv h2, hPS.later (h2.block bp (by omega)), h.row (by simp; omega) (World.alloc_heap_new _ _)⟩
    have HXA : Hid (Mv [bp] V (V.alloc (pto (q0 + (n % dd : Nat)) (q1 + (n / dd : Nat))))) := Mv.alloc _ _
    gi_wp2
    refine ⟨HXA.out, fun V2 hV2 => ?_⟩
    obtain ⟨hM2, hP2, hpt⟩ := HP2.out V2 hV2
    obtain ⟨m1, m2, m3, m4⟩ := HM.out V2 hM2
    clear HP2 HXA hV2
    have hwp : w7.heap.size ≤ V2.heap.size := hM2.size
    gi_wp2
    refine row_region (W := V2.drew) (bp := bp) (n := n) (N := N) (fn := f) (x := q0 + (n % dd : Nat)) (y := q1 + (n / dd : Nat)) (p := out n) (Z := fun V3 => Mv [bp] V2 V3 ∧ PS V3 bp N (n + 1) (fun i => cln (out i))) (fid := fid) (caps := caps) (b9 := b) (b10 := bp + 1) (b12 := V.heap.size) rfl (by show 44 ≤ (45 : Nat); omega) hiN hfn hen2 rfl rfl rfl rfl (fun V3 h3 => ?_) (fun V3 h3 => ?_) (fun V3 h3 => ?_) (fun V3 h3 => ?_) (fun a3 V3 h3 => ?_)
    · have g := fun {j : Nat} {o : Obj} (h : V2.heap[j]? = some o) => (h3.block j (Array.getElem?_eq_some_iff.1 h).1).trans h
      exact ⟨nb_of (g m3), nb_of (g m2), (pt_of (g hpt)).1, (pt_of (g hpt)).2⟩
    · exact HDO.out V3 (HKN.out V3 (m1.trans (((Below.refl _ V2).drew.trans h3).mono m1.size))) n hiN
    · have h4 := hP2.later (w' := V3) (h3.block bp (by show bp < V2.heap.size; omega))
      obtain ⟨cs, g1, g2, g3⟩ := h4
      have g4 := g3 n hiN
      rw [if_neg (by omega)] at g4
      exact ⟨g4, fun j => frozen_of_row _ _ j _ _ g1⟩
    · have h4 := hP2.later (w' := V3) (h3.block bp (by show bp < V2.heap.size; omega))
      have hmv : Mv [bp] V2 V3 := .of_below ((Below.refl _ V2).drew.trans h3)
      exact ⟨(((hmv.trans (Mv.set (by simp))).trans (Mv.set (by simp))).trans (Mv.set (by simp))).trans (Mv.set (by simp)), h4.set hiN rfl⟩
    · exact ⟨h3.1, hM2.trans h3.1, h3.2⟩
  case done =>
    rintro D V hD ⟨hM, hPS⟩ hK
    rw [List.length_range] at hPS
    obtain ⟨m1, m2, m3, m4⟩ := HM.out V hM
    have hstV : St w L V := ⟨hst5.below.trans (m1.mono hst5.below.size), m4⟩
    obtain ⟨_, _, e2, e3⟩ := HC.out V hstV
    obtain ⟨g0, g1, g2, g3⟩ := qb_of e2
    obtain ⟨i0, i1, i2, i3, i4⟩ := im_of e3
    have hif := fun j => frozen_of_row _ _ j _ _ e3
    have hsl := nb_of m3
    have HE3 := Lib.hid e3
    have HK2 := Lib.hid hK
    have HPS2 := Lib.hid hPS
    have HSV := Lib.hid hstV
    have hDs : w.heap.size + 3 < D := by have := (Array.getElem?_eq_some_iff.1 hrr).1; omega
    clear e2 e3 hK hPS hstV m1 m2 m3 m4
    go_wp2
    have hrow : (((((V.setCell ⟨w.heap.size + 1 + 1 + 1, 0, none⟩ (.int .i64 q0)).setCell ⟨w.heap.size + 1 + 1 + 1, 1, none⟩ (.int .i64 q1)).setCell ⟨w.heap.size + 1 + 1 + 1, 2, none⟩ (.int .i64 q2)).setCell ⟨w.heap.size + 1 + 1 + 1, 3, none⟩ (.int .i64 q3)).setCell ⟨w.heap.size + 1 + 1 + 1, 4, none⟩ (.slice (some ⟨bp, 0, none⟩) N N)).heap[w.heap.size + 1 + 1 + 1]? = some (im0 q0 q1 q2 q3 (.slice (some ⟨bp, 0, none⟩) N N)) := by
      rw [set_row (set_row (set_row (set_row (set_row HE3.out))))]
      simp
    have hmv : Mv [w.heap.size + 1 + 1 + 1] V (((((V.setCell ⟨w.heap.size + 1 + 1 + 1, 0, none⟩ (.int .i64 q0)).setCell ⟨w.heap.size + 1 + 1 + 1, 1, none⟩ (.int .i64 q1)).setCell ⟨w.heap.size + 1 + 1 + 1, 2, none⟩ (.int .i64 q2)).setCell ⟨w.heap.size + 1 + 1 + 1, 3, none⟩ (.int .i64 q3)).setCell ⟨w.heap.size + 1 + 1 + 1, 4, none⟩ (.slice (some ⟨bp, 0, none⟩) N N)) := (((((Mv.set (by simp)).trans (Mv.set (by simp))).trans (Mv.set (by simp))).trans (Mv.set (by simp))).trans (Mv.set (by simp)))
    generalize (((((V.setCell ⟨w.heap.size + 1 + 1 + 1, 0, none⟩ (.int .i64 q0)).setCell ⟨w.heap.size + 1 + 1 + 1, 1, none⟩ (.int .i64 q1)).setCell ⟨w.heap.size + 1 + 1 + 1, 2, none⟩ (.int .i64 q2)).setCell ⟨w.heap.size + 1 + 1 + 1, 3, none⟩ (.int .i64 q3)).setCell ⟨w.heap.size + 1 + 1 + 1, 4, none⟩ (.slice (some ⟨bp, 0, none⟩) N N)) = V9 at hrow hmv ⊢
    have hs3 : w.heap.size ≤ w.heap.size + 1 + 1 + 1 := by omega
    have hB9 : Below w.heap.size w V9 := HSV.out.below.trans (hmv.below (by simpa using hs3) HSV.out.below.size)
    have hK9 : V9.heap[D]? = some (.deferred (some [])) := hmv.row (by simp; omega) HK2.out
    have hbp3 : w.heap.size + 1 + 1 + 1 < bp := by have := (Array.getElem?_eq_some_iff.1 (HC.out _ (hst5)).2.2.2).1; omega
    have hDbp : bp < D := by omega
    have hP9 : PS (V9.putObj D (.deferred none)) bp N N (fun i => cln (out i)) := (HPS2.out.later (hmv.block bp (Array.getElem?_eq_some_iff.1 HPS2.out.choose_spec.1).1 (by simp; omega))).later (World.putObj_heap_other (by omega))
    have hr9 : (V9.putObj D (.deferred none)).heap[w.heap.size + 1 + 1 + 1]? = some (im0 q0 q1 q2 q3 (.slice (some ⟨bp, 0, none⟩) N N)) := (World.putObj_heap_other (by omega)).trans hrow
    have hB10 : Below w.heap.size w (V9.putObj D (.deferred none)) := hB9.trans ((Mv.put _ _).below (by simp; omega) hB9.size)
    refine ⟨by simp, .inl ⟨D, _, rfl, run_takeDeferred hK9, ?_⟩⟩
    obtain ⟨k0, k1, k2, k3, k4⟩ := im_of hr9
    refine ⟨.tuple #[imv q0 q1 q2 q3 (.slice (some ⟨bp, 0, none⟩) N N), .int .i64 0], ?_, bp, rfl, by omega, hP9.all hN, hB10⟩
    simp [results, Tryz.results13, go_sem, k0, k1, k2, k3, k4]
end Go.Proofs.YtbodmeiecdomfaaGreat.W
