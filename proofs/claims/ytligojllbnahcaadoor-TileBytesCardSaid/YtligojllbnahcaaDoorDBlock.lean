/-
  (*digest.hashValue).absorbBlock: the compression function.
-/
import Derived.Test.YtligojllbnahcaaDoorDSched
namespace Go.Proofs.YtligojllbnahcaaDoor.D
open Go.RowKit

/-- the table of round constants lies in block 0 -/
structure KT (w : World) : Prop where
  lt : 0 < w.heap.size
  cell : ∀ i, i < 64 → w.cell? ⟨0, i, none⟩ = some (.int .u32 (Sha.K i : Nat))
theorem KT.later {w w' : World} (h : KT w) (hb : Below w.heap.size w w') : KT w' := ⟨Nat.lt_of_lt_of_le h.lt hb.size, fun i hi => by rw [hb.cell (p := ⟨0, i, none⟩) h.lt]; exact h.cell i hi⟩

def stA (s : Sha.St) : Array Value := #[u32v s.a, u32v s.b, u32v s.c, u32v s.d, u32v s.e, u32v s.f, u32v s.g, u32v s.h]
/-- since the world W nothing old has changed; the new block g holds the hash value s -/
structure HSt (W : World) (g : Nat) (s : Sha.St) (w : World) : Prop where
  below : Below W.heap.size W w
  at_ : W.heap.size ≤ g
  own : w.heap[g]? = some (.cells (stA s) 52 (0, 0))
  ok : s.ok
  kt : KT W
variable {W w w' : World} {g : Nat} {s : Sha.St}
theorem stA_size (s : Sha.St) : (stA s).size = 8 := rfl
theorem stA_get (k : Nat) (hk : k < 8) : (stA s)[k]? = some (.int .u32 (s.toL.getD k 0 : Nat)) := by
  match k, hk with
  | 0, _ => rfl
  | 1, _ => rfl
  | 2, _ => rfl
  | 3, _ => rfl
  | 4, _ => rfl
  | 5, _ => rfl
  | 6, _ => rfl
  | 7, _ => rfl
theorem HSt.lt (h : HSt W g s w) : g < w.heap.size := (Array.getElem?_eq_some_iff.1 h.own).1
theorem HSt.later (h : HSt W g s w) (hb : Below w.heap.size w w') : HSt W g s w' := ⟨h.below.trans (hb.mono h.below.size), h.at_, by rw [hb.block g h.lt]; exact h.own, h.ok, h.kt⟩
theorem HSt.drew (h : HSt W g s w) : HSt W g s w.drew := ⟨h.below.drew, h.at_, h.own, h.ok, h.kt⟩
theorem HSt.alloc (h : HSt W g s w) (o : Obj) : HSt W g s (w.alloc o) := h.later ((Below.refl _ _).alloc (Nat.le_refl _) _)
theorem HSt.call {P : Program} {f : FuncId} {args : Array Value} {v : Value} (h : HSt W g s w) (hc : Calls P f args w fun e w' => e = .returned v ∧ Below w.heap.size w w') : Calls P f args w fun e w' => e = .returned v ∧ HSt W g s w' :=
  hc.mono fun _ _ ⟨h1, h2⟩ => ⟨h1, h.later h2⟩
theorem HSt.k (h : HSt W g s w) (i : Nat) (hi : i < 64) : w.cell? ⟨0, i, none⟩ = some (.int .u32 (Sha.K i : Nat)) := (h.kt.later h.below).cell i hi
theorem HSt.cell (h : HSt W g s w) (i : Nat) : w.cell? ⟨g, i, none⟩ = (stA s)[i]? := by rw [cell_of_row _ _ _ _ _ _ h.own]
theorem HSt.free (h : HSt W g s w) (i : Nat) : w.frozen? ⟨g, i, none⟩ = false := frozen_of_row _ _ _ _ _ h.own

theorem HSt.drewN (h : HSt W g s w) (n : Nat) : HSt W g s (w.drewN n) := ⟨h.below.trans ⟨rfl, rfl, rfl, Nat.le_refl _, fun _ _ => rfl⟩, h.at_, h.own, h.ok, h.kt⟩

theorem xor3 {a b c : Nat} (ha : a < 4294967296) (hb : b < 4294967296) (hc : c < 4294967296) : bits BinOp.xor IntKind.u32 (bits BinOp.xor IntKind.u32 (a : Int) (b : Int)) (c : Int) = ((a ^^^ b ^^^ c : Nat) : Int) := by
  have e1 : bits BinOp.xor IntKind.u32 (a : Int) (b : Int) = _ := u32_xor_nat a b ha hb
  have e2 : bits BinOp.xor IntKind.u32 ((a ^^^ b : Nat) : Int) (c : Int) = _ := u32_xor_nat _ _ (Sha.xor_lt ha hb) hc
  rw [e1, e2]
theorem S0_val {x : Nat} (hx : x < 4294967296) : bits BinOp.xor IntKind.u32 (bits BinOp.xor IntKind.u32 (Sha.rotr x 2 : Nat) (Sha.rotr x 13 : Nat)) (Sha.rotr x 22 : Nat) = (Sha.S0 x : Nat) := xor3 (Sha.rotr_lt hx) (Sha.rotr_lt hx) (Sha.rotr_lt hx)
theorem S1_val {x : Nat} (hx : x < 4294967296) : bits BinOp.xor IntKind.u32 (bits BinOp.xor IntKind.u32 (Sha.rotr x 6 : Nat) (Sha.rotr x 11 : Nat)) (Sha.rotr x 25 : Nat) = (Sha.S1 x : Nat) := xor3 (Sha.rotr_lt hx) (Sha.rotr_lt hx) (Sha.rotr_lt hx)
theorem maj_val {a b c : Nat} (ha : a < 4294967296) (hb : b < 4294967296) (hc : c < 4294967296) :
    bits BinOp.xor IntKind.u32 (bits BinOp.xor IntKind.u32 (bits BinOp.and IntKind.u32 (a : Int) (b : Int)) (bits BinOp.and IntKind.u32 (a : Int) (c : Int))) (bits BinOp.and IntKind.u32 (b : Int) (c : Int)) = (Sha.maj a b c : Nat) := by
  have e1 : bits BinOp.and IntKind.u32 (a : Int) (b : Int) = _ := u32_and_nat a b ha hb
  have e2 : bits BinOp.and IntKind.u32 (a : Int) (c : Int) = _ := u32_and_nat a c ha hc
  have e3 : bits BinOp.and IntKind.u32 (b : Int) (c : Int) = _ := u32_and_nat b c hb hc
  rw [e1, e2, e3]
  exact xor3 (Sha.and_lt hb) (Sha.and_lt hc) (Sha.and_lt hc)
theorem ch_val {e f g : Nat} (he : e < 4294967296) (hf : f < 4294967296) (hg : g < 4294967296) :
    bits BinOp.xor IntKind.u32 (bits BinOp.and IntKind.u32 (e : Int) (f : Int)) (bits BinOp.and IntKind.u32 (bits BinOp.xor IntKind.u32 (if IntKind.u32.signed = true then -1 else IntKind.u32.max) (e : Int)) (g : Int)) = (Sha.ch e f g : Nat) := by
  have e1 : bits BinOp.and IntKind.u32 (e : Int) (f : Int) = _ := u32_and_nat e f he hf
  have e2 : bits BinOp.xor IntKind.u32 ((4294967295 : Nat) : Int) (e : Int) = _ := u32_xor_nat 4294967295 e (by omega) he
  rw [Sha.not_xor he] at e2
  have e3 : bits BinOp.and IntKind.u32 ((4294967295 - e : Nat) : Int) (g : Int) = _ := u32_and_nat (4294967295 - e) g (by omega) hg
  rw [show (if IntKind.u32.signed = true then -1 else IntKind.u32.max) = ((4294967295 : Nat) : Int) from rfl, e1, e2, e3]
  exact u32_xor_nat _ _ (Sha.and_lt hf) (Sha.and_lt hg)

/-- the same, the cells by themselves -/
structure Mid (W : World) (g : Nat) (A : Array Value) (w : World) : Prop where
  below : Below W.heap.size W w
  at_ : W.heap.size ≤ g
  own : w.heap[g]? = some (.cells A 52 (0, 0))
  kt : KT W
theorem Mid.set {A : Array Value} (h : Mid W g A w) (i : Nat) (v : Value) : Mid W g (A.setIfInBounds i v) (w.setCell ⟨g, i, none⟩ v) := ⟨h.below.setCell h.at_ _, h.at_, heap_setCell_same _ _ _ _ _ _ h.own, h.kt⟩
theorem Mid.drew {A : Array Value} (h : Mid W g A w) : Mid W g A w.drew := ⟨h.below.drew, h.at_, h.own, h.kt⟩
theorem HSt.mid (h : HSt W g s w) : Mid W g (stA s) w := ⟨h.below, h.at_, h.own, h.kt⟩
theorem Mid.hst {A : Array Value} {t : Sha.St} (h : Mid W g A w) (he : A = stA t) (ht : t.ok) : HSt W g t w := ⟨h.below, h.at_, by rw [h.own, he], ht, h.kt⟩
theorem add_cells (s t : Sha.St) {v0 v1 v2 v3 v4 v5 v6 v7 : Int} (h0 : v0 = ((s.a : Int) + t.a) % 4294967296) (h1 : v1 = ((s.b : Int) + t.b) % 4294967296) (h2 : v2 = ((s.c : Int) + t.c) % 4294967296) (h3 : v3 = ((s.d : Int) + t.d) % 4294967296)
    (h4 : v4 = ((s.e : Int) + t.e) % 4294967296) (h5 : v5 = ((s.f : Int) + t.f) % 4294967296) (h6 : v6 = ((s.g : Int) + t.g) % 4294967296) (h7 : v7 = ((s.h : Int) + t.h) % 4294967296) :
    ((((((((stA s).setIfInBounds 0 (.int .u32 v0)).setIfInBounds 1 (.int .u32 v1)).setIfInBounds 2 (.int .u32 v2)).setIfInBounds 3 (.int .u32 v3)).setIfInBounds 4 (.int .u32 v4)).setIfInBounds 5 (.int .u32 v5)).setIfInBounds 6 (.int .u32 v6)).setIfInBounds 7 (.int .u32 v7) = stA (Sha.add s t) := by
  subst h0 h1 h2 h3 h4 h5 h6 h7
  have e : ∀ x y : Nat, ((x : Int) + y) % 4294967296 = (((x + y) % 4294967296 : Nat) : Int) := fun x y => by omega
  rw [e, e, e, e, e, e, e, e]
  simp only [stA, u32v, Sha.add, List.setIfInBounds_toArray, List.set_cons_succ, List.set_cons_zero]

set_option maxHeartbeats 2000000 in
set_option maxRecDepth 100000 in
theorem block_any (b : ByteArray) (h : HSt W g s w) (hb : b.size = 64) : Calls Tryd.prog 39 #[.pointer (some ⟨g, 0, none⟩), .string b] w fun e w' => e = .returned (.tuple #[]) ∧ HSt W g (Sha.comp s b.data.toList) w' := by
  have HB := Lib.hid hb; clear hb
  have H0 := Lib.hid h; clear h
  have hz := zero64
  go_enter Tryd.func39, Tryd.ntmps39
  go_upto_region 1 with (first | (go_at_call 48; (with_reducible refine (sched_any _ _ HB.out).mono ?_); rintro e w1 ⟨rfl, hb1⟩) | (refine wpList_store_row rfl 66 _ _ rfl _ _ rfl rfl _ _ (heap_alloc_new _ _) (by kernel_rfl) (by simp [wdA_size]) (by kernel_rfl) ?_))
  have HW : Hid (HSt W g s ((w1.alloc (Obj.cells (Array.replicate 64 (Value.int IntKind.u32 0)) 66)).setRow w1.heap.size (wdA b.data.toList))) :=
    H0.out.later (below_setRow (hb1.alloc hb1.size _) hb1.size _)
  have HT : Hid (((w1.alloc (Obj.cells (Array.replicate 64 (Value.int IntKind.u32 0)) 66)).setRow w1.heap.size (wdA b.data.toList)).heap[w1.heap.size]? = some (.cells (wdA b.data.toList) 66 (0, 0))) := setRow_heap _ _ _ _ _ _ (heap_alloc_new _ _)
  have HN : Hid (g ≠ w1.heap.size) := by have := H0.out.lt; have := hb1.size; unfold Hid; omega
  clear hz hb1 H0
  generalize (w1.alloc (Obj.cells (Array.replicate 64 (Value.int IntKind.u32 0)) 66)).setRow w1.heap.size (wdA b.data.toList) = w2 at HW HT ⊢
  generalize w1.heap.size = q at HT HN ⊢
  have ⟨a0, a1, a2, a3, a4, a5, a6, a7⟩ := HW.out.ok
  have c0 : w2.cell? ⟨g, 0, none⟩ = some (.int .u32 s.a) := HW.out.cell 0
  have c1 : w2.cell? ⟨g, 1, none⟩ = some (.int .u32 s.b) := HW.out.cell 1
  have c2 : w2.cell? ⟨g, 2, none⟩ = some (.int .u32 s.c) := HW.out.cell 2
  have c3 : w2.cell? ⟨g, 3, none⟩ = some (.int .u32 s.d) := HW.out.cell 3
  have c4 : w2.cell? ⟨g, 4, none⟩ = some (.int .u32 s.e) := HW.out.cell 4
  have c5 : w2.cell? ⟨g, 5, none⟩ = some (.int .u32 s.f) := HW.out.cell 5
  have c6 : w2.cell? ⟨g, 6, none⟩ = some (.int .u32 s.g) := HW.out.cell 6
  have c7 : w2.cell? ⟨g, 7, none⟩ = some (.int .u32 s.h) := HW.out.cell 7
  go_quiet (fail)
  have HX : Hid (HSt W g s (w2.drewN nq)) := HW.out.drewN nq
  have HY : Hid ((w2.drewN nq).heap[q]? = some (.cells (wdA b.data.toList) 66 (0, 0))) := HT.out
  clear c0 c1 c2 c3 c4 c5 c6 c7 HW HT
  generalize w2.drewN nq = w3 at HX HY ⊢
  have c4 : w3.cell? ⟨g, 4, none⟩ = some (.int .u32 s.e) := HX.out.cell 4
  have c5 : w3.cell? ⟨g, 5, none⟩ = some (.int .u32 s.f) := HX.out.cell 5
  have c6 : w3.cell? ⟨g, 6, none⟩ = some (.int .u32 s.g) := HX.out.cell 6
  have c7 : w3.cell? ⟨g, 7, none⟩ = some (.int .u32 s.h) := HX.out.cell 7
  go_upto_region 2 with fail
  go_quiet (fail)
  have HX2 : Hid (HSt W g s (w3.drewN nq)) := HX.out.drewN nq
  have HY2 : Hid ((w3.drewN nq).heap[q]? = some (.cells (wdA b.data.toList) 66 (0, 0))) := HY.out
  clear c4 c5 c6 c7 HX HY
  generalize w3.drewN nq = w4 at HX2 HY2 ⊢
  go_wp2
  have HS0 : Hid (Sha.stAt s b.data.toList 0 = s) := rfl
  go_loopw [54, 5, 6, 7, 8, 9, 10, 11, 12] (fun i va vb vc vd ve vf vg vh wr => ∃ (k : Nat) (t : Sha.St), k ≤ 64 ∧ i = .int .i64 k ∧ va = .int .u32 t.a ∧ vb = .int .u32 t.b ∧ vc = .int .u32 t.c ∧ vd = .int .u32 t.d ∧ ve = .int .u32 t.e ∧ vf = .int .u32 t.f ∧ vg = .int .u32 t.g ∧ vh = .int .u32 t.h ∧
    t.ok ∧ Hid (Sha.stAt s b.data.toList k = t) ∧ Hid (HSt W g s wr) ∧ Hid (wr.heap[q]? = some (.cells (wdA b.data.toList) 66 (0, 0)))) (fun i _ _ _ _ _ _ _ _ _ => 64 - (intOf i).toNat)
  case atStart => exact ⟨0, s, by omega, rfl, rfl, rfl, rfl, rfl, rfl, rfl, rfl, rfl, ⟨a0, a1, a2, a3, a4, a5, a6, a7⟩, rfl, HX2, HY2⟩
  case round =>
    clear HX2 HY2 HS0 a0 a1 a2 a3 a4 a5 a6 a7
    obtain ⟨k, t, hk, rfl, rfl, rfl, rfl, rfl, rfl, rfl, rfl, rfl, ht, HE, HX, HY⟩ := hrel
    obtain ⟨a0, a1, a2, a3, a4, a5, a6, a7⟩ := ht
    by_cases hlt : k < 64
    · have HR : Hid (Sha.stAt s b.data.toList (k + 1) = Sha.round t (Sha.K k) (Sha.wd b.data.toList k)) := by unfold Hid; rw [Sha.stAt, HE.out]
      have cK := HX.out.k k hlt
      have cW : wr.cell? ⟨q, k, none⟩ = some (.int .u32 (Sha.wd b.data.toList k : Nat)) := by rw [cell_of_row _ _ _ _ _ _ HY.out]; exact wdA_get _ k hlt
      have lK := Sha.K_lt k
      have lW := Sha.wd_lt b.data.toList k
      generalize Sha.K k = xk at cK lK HR
      generalize Sha.wd b.data.toList k = xw at cW lW HR
      go_upto_region 8 with (first
        | (go_at_call 49; (with_reducible refine (rotr_6 _ a4 _).mono ?_); rintro e w' ⟨rfl, rfl⟩)
        | (go_at_call 49; (with_reducible refine (rotr_11 _ a4 _).mono ?_); rintro e w' ⟨rfl, rfl⟩)
        | (go_at_call 49; (with_reducible refine (rotr_25 _ a4 _).mono ?_); rintro e w' ⟨rfl, rfl⟩))
      rw [S1_val a4, ch_val a4 a5 a6]
      have y1 := Sha.S1_lt a4
      have y2 := Sha.ch_lt (e := t.e) a5 a6
      have y3 := Sha.S0_lt a0
      have y4 := Sha.maj_lt (a := t.a) a1 a2
      have HS0 := Lib.hid (S0_val a0)
      have HMJ := Lib.hid (maj_val a0 a1 a2)
      have HT1 : Hid (Sha.t1 t xk xw = (t.h + Sha.S1 t.e + Sha.ch t.e t.f t.g + xk + xw) % 4294967296) := rfl
      have HT2 : Hid (Sha.t2 t = (Sha.S0 t.a + Sha.maj t.a t.b t.c) % 4294967296) := rfl
      generalize Sha.S1 t.e = x1 at y1 HT1 ⊢
      generalize Sha.ch t.e t.f t.g = x2 at y2 HT1 ⊢
      go_quiet (fail)
      go_upto_region 11 with (first
        | (go_at_call 49; (with_reducible refine (rotr_2 _ a0 _).mono ?_); rintro e w' ⟨rfl, rfl⟩)
        | (go_at_call 49; (with_reducible refine (rotr_13 _ a0 _).mono ?_); rintro e w' ⟨rfl, rfl⟩)
        | (go_at_call 49; (with_reducible refine (rotr_22 _ a0 _).mono ?_); rintro e w' ⟨rfl, rfl⟩))
      rw [HS0.out, HMJ.out]
      clear HS0 HMJ
      generalize Sha.S0 t.a = x3 at y3 HT2 ⊢
      generalize Sha.maj t.a t.b t.c = x4 at y4 HT2 ⊢
      go_wp2
      go_roundw
      case rel =>
        refine ⟨k + 1, Sha.round t xk xw, by omega, by go_num, val_int ?_, rfl, rfl, rfl, val_int ?_, rfl, rfl, rfl, Sha.round_ok ⟨a0, a1, a2, a3, a4, a5, a6, a7⟩ _ _, HR, HX.out.drewN nq, HY⟩
        · show _ = (((Sha.t1 t xk xw + Sha.t2 t) % 4294967296 : Nat) : Int)
          rw [HT1.out, HT2.out]; omega
        · show _ = (((t.d + Sha.t1 t xk xw) % 4294967296 : Nat) : Int)
          rw [HT1.out]; omega
      case measure => simp [intOf]; omega
    · obtain rfl : k = 64 := by omega
      have c0 : wr.cell? ⟨g, 0, none⟩ = some (.int .u32 s.a) := HX.out.cell 0
      have c1 : wr.cell? ⟨g, 1, none⟩ = some (.int .u32 s.b) := HX.out.cell 1
      have c2 : wr.cell? ⟨g, 2, none⟩ = some (.int .u32 s.c) := HX.out.cell 2
      have c3 : wr.cell? ⟨g, 3, none⟩ = some (.int .u32 s.d) := HX.out.cell 3
      have c4 : wr.cell? ⟨g, 4, none⟩ = some (.int .u32 s.e) := HX.out.cell 4
      have c5 : wr.cell? ⟨g, 5, none⟩ = some (.int .u32 s.f) := HX.out.cell 5
      have c6 : wr.cell? ⟨g, 6, none⟩ = some (.int .u32 s.g) := HX.out.cell 6
      have c7 : wr.cell? ⟨g, 7, none⟩ = some (.int .u32 s.h) := HX.out.cell 7
      have ff := HX.out.free
      go_wp2
      go_region
      go_wp2
      go_region
      go_wp2
      go_region
      go_wp2
      go_region
      go_wp2
      go_region
      go_wp2
      go_region
      go_wp2
      go_region
      go_wp2
      go_region
      go_wp2
      go_end0
      refine ⟨rfl, ?_⟩
      have hm := ((((((((HX.out.mid.set 0 (.int .u32 (((s.a : Int) + t.a) % 4294967296))).set 1 (.int .u32 (((s.b : Int) + t.b) % 4294967296))).set 2 (.int .u32 (((s.c : Int) + t.c) % 4294967296))).set 3 (.int .u32 (((s.d : Int) + t.d) % 4294967296))).set 4 (.int .u32 (((s.e : Int) + t.e) % 4294967296))).set 5 (.int .u32 (((s.f : Int) + t.f) % 4294967296))).set 6 (.int .u32 (((s.g : Int) + t.g) % 4294967296))).set 7 (.int .u32 (((s.h : Int) + t.h) % 4294967296))).drew.drew.drew.drew.drew.drew.drew.drew
      unfold Sha.comp
      rw [HE.out]
      exact hm.hst (add_cells s t rfl rfl rfl rfl rfl rfl rfl rfl) (Sha.add_ok s t)
end Go.Proofs.YtligojllbnahcaaDoor.D
