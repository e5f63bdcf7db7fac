/-
  A number of three words multiplied by a factor.
-/
import Derived.Test.YtgdcjpnmalnmbaaBack
namespace Go.Proofs.Ytgdcjpnmalnmbaa
open Go.RowKit Go.Shelf
attribute [local go_sem] Oper.semAt_some
variable {w : World}

/-- one word's digit and what is carried on -/
def dg (x f q : Nat) : Nat := (x * f + q) % 18446744073709551616
def cy (x f q : Nat) : Nat := (x * f + q) / 18446744073709551616
def Wd (x : Nat) : Prop := x < 18446744073709551616
theorem dg_wd (x f q : Nat) : Wd (dg x f q) := Nat.mod_lt _ (by decide)
theorem cy_wd {x f q : Nat} (hx : Wd x) (hf : Wd f) (hq : Wd q) : Wd (cy x f q) := by
  unfold Wd at *
  have h1 : x * f ≤ 18446744073709551615 * 18446744073709551615 := Nat.mul_le_mul (by omega) (by omega)
  unfold cy
  generalize x * f = p at *
  omega
theorem dg_step {x f q : Nat} : (x * f % 18446744073709551616 + q) % 18446744073709551616 = dg x f q := by unfold dg; generalize x * f = p; omega
theorem cy_step {x f q : Nat} : x * f / 18446744073709551616 + (x * f % 18446744073709551616 + q) / 18446744073709551616 = cy x f q := by unfold cy; generalize x * f = p; omega
/-- what is carried when k words are done; the digits -/
def cQ (a b c f : Nat) : Nat → Nat
  | 0 => 0
  | 1 => cy c f 0
  | 2 => cy b f (cy c f 0)
  | _ => cy a f (cy b f (cy c f 0))
def d2 (c f k : Nat) : Nat := if 1 ≤ k then dg c f 0 else 0
def d1 (b c f k : Nat) : Nat := if 2 ≤ k then dg b f (cy c f 0) else 0
def d0 (a b c f k : Nat) : Nat := if 3 ≤ k then dg a f (cy b f (cy c f 0)) else 0
theorem put_row {W : World} {b j : Nat} {cs : Array Value} {t : TypeId} (v : Value) (h : W.heap[b]? = some (.cells cs t)) : (W.setCell ⟨b, j, none⟩ v).heap[b]? = some (.cells (cs.setIfInBounds j v) t) := by
  obtain ⟨hlt, hk⟩ := Array.getElem?_eq_some_iff.1 h
  show (W.heap.modify b _)[b]? = _
  rw [Array.getElem?_eq_getElem (by rw [Array.size_modify]; exact hlt), Array.getElem_modify_self, hk]
  simp
theorem put_other {W : World} {b b' j : Nat} {o : Obj} (v : Value) (h : W.heap[b]? = some o) (hne : b ≠ b') : (W.setCell ⟨b', j, none⟩ v).heap[b]? = some o := (Below.heap_setCell _ _ _ _ hne).trans h
/-- what a round does -/
theorem round_kept {M : Nat → Prop} {V : World} {B3 B4 j : Nat} {x y : Value} (h3 : M B3) (h4 : M B4) : Kept M V ((V.setCell ⟨B3, j, none⟩ x).setCell ⟨B4, 0, none⟩ y) :=
  ((Kept.refl M V).setCell (p := ⟨B3, j, none⟩) h3 _).setCell (p := ⟨B4, 0, none⟩) h4 _

theorem round_nums {x f q : Nat} (hx : Wd x) (hf : Wd f) (hq : Wd q) : ∃ hi lo s co t : Nat,
    Hid (∀ w, Calls Try.prog 114 #[.int .u64 (x : Nat), .int .u64 (f : Nat)] w fun e w' => e = .returned (.tuple #[.int .u64 (hi : Nat), .int .u64 (lo : Nat)]) ∧ w = w') ∧
    (∀ w, (callFunc 115 #[.int .u64 (lo : Nat), .int .u64 (q : Nat), .int .u64 0]).run Try.prog w = .ok (.value (.tuple #[.int .u64 (s : Nat), .int .u64 (co : Nat)])) w) ∧
    IntKind.u64.wrap ((hi : Int) + (co : Int)) = (t : Int) ∧ Hid (s = dg x f q ∧ t = cy x f q) := by
  refine ⟨_, _, _, _, cy x f q, fun w => mul64_any x f hx hf w, fun w => add64_run _ q w, ?_, dg_step, rfl⟩
  have h := cy_wd hx hf hq
  rw [← Int.natCast_add, cy_step]
  exact Mul64.wrapN _ h
theorem pre_cases {pre : List Nat} {x : Nat} (h : pre ++ [x] <+: [2, 1, 0]) : (pre = [] ∧ x = 2) ∨ (pre = [2] ∧ x = 1) ∨ (pre = [2, 1] ∧ x = 0) := by
  match pre, h with
  | [], h => simp at h; exact .inl ⟨rfl, h⟩
  | [a], h => simp at h; exact .inr (.inl ⟨by rw [h.1], h.2⟩)
  | [a, b], h => simp at h; exact .inr (.inr ⟨by rw [h.1, h.2.1], h.2.2⟩)
  | a :: b :: c :: l, h => have := h.length_le; simp at this
set_option maxRecDepth 100000 in
set_option maxHeartbeats 8000000 in
theorem times_any (a b c f : Nat) (w : World) (ha : Wd a) (hb : Wd b) (hc : Wd c) (hf : f ≤ 1000000) :
    Calls Try.prog 108 #[wv a b c, .int .i64 f] w fun e w' => e = .returned (wv (d0 a b c f 3) (d1 b c f 3) (d2 c f 3)) ∧ Below w.heap.size w w' := by
  obtain ⟨W1, hW1⟩ : ∃ W1, W1 = ((((w.alloc (wo a b c)).alloc (vo (.int .i64 f) 3)).alloc (wo 0 0 0)).alloc (wo 0 0 0)).alloc (vo (.int .u64 0) 113) := ⟨_, rfl⟩
  have hs := (((((St.start w).alloc (wo a b c)).alloc (vo (.int .i64 f) 3)).alloc (wo 0 0 0)).alloc (wo 0 0 0)).alloc (vo (.int .u64 0) 113)
  simp only [World.size_alloc] at hs
  rw [← hW1] at hs
  have hz : W1.heap.size = w.heap.size + 1 + 1 + 1 + 1 + 1 := by rw [hW1]; simp
  have hs5 := hs.alloc (vo (.slice (some ⟨w.heap.size, 0, none⟩) 3 3) 127)
  obtain ⟨W2, hW2⟩ : ∃ W2, W2 = W1.alloc (vo (.slice (some ⟨w.heap.size, 0, none⟩) 3 3) 127) := ⟨_, rfl⟩
  rw [← hW2] at hs5
  have hz2 : W2.heap.size = w.heap.size + 1 + 1 + 1 + 1 + 1 + 1 := by rw [hW2, World.size_alloc, hz]
  have h0 : W2.heap[w.heap.size]? = some (wo a b c) := hs5.row (by simp)
  have h1 : W2.heap[w.heap.size + 1]? = some (vo (.int .i64 f) 3) := hs5.row (by simp)
  have h2 : W2.heap[w.heap.size + 1 + 1]? = some (wo 0 0 0) := hs5.row (by simp)
  have h3 : W2.heap[w.heap.size + 1 + 1 + 1]? = some (wo 0 0 0) := hs5.row (by simp)
  have h4 : W2.heap[w.heap.size + 1 + 1 + 1 + 1]? = some (vo (.int .u64 0) 113) := hs5.row (by simp)
  have h5 : W2.heap[W1.heap.size]? = some (vo (.slice (some ⟨w.heap.size, 0, none⟩) 3 3) 127) := hs5.row (by simp)
  have HS := Lib.hid (back_seq a b c w.heap.size W1.heap.size (fun k => k = w.heap.size + 1 + 1 + 1 ∨ k = w.heap.size + 1 + 1 + 1 + 1) W2 h0 h5 (by omega) (by omega))
  have HK : Hid (∀ V, Kept (fun k => k = w.heap.size + 1 + 1 + 1 ∨ k = w.heap.size + 1 + 1 + 1 + 1) W2 V → V.cell? ⟨w.heap.size + 1, 0, none⟩ = some (.int .i64 f) ∧ V.heap[w.heap.size + 1 + 1]? = some (wo 0 0 0)) := fun V hV => ⟨hV.cell h1 (by omega), hV.row h2 (by omega)⟩
  have HB : Hid (Below w.heap.size w W2) := hs5.below
  have HI0 : Hid (W2.heap[w.heap.size + 1 + 1 + 1]? = some (wo (d0 a b c f 0) (d1 b c f 0) (d2 c f 0)) ∧ W2.heap[w.heap.size + 1 + 1 + 1 + 1]? = some (vo (.int .u64 (cQ a b c f 0 : Nat)) 113)) := ⟨h3, h4⟩
  have HW1 := Lib.hid hW1
  have HW2 := Lib.hid hW2
  have HZ := Lib.hid hz
  have HZ2 := Lib.hid hz2
  rw [hz] at HS
  have HWd : Hid ((Wd a ∧ Wd b ∧ Wd c) ∧ f ≤ 1000000) := ⟨⟨ha, hb, hc⟩, hf⟩
  clear hW1 hW2 hz hz2 hs hs5 h0 h1 h2 h3 h4 h5 ha hb hc hf
  refine (callsIn_wide (n := 6)).1 ?_
  refine callsIn_of_wp_marks Try.func108 rfl trivial ?_ rfl
  simp only [Try.ntmps108, List.size_toArray, List.length_cons, List.length_nil, Nat.reduceAdd, Nat.reduceSub, Array.replicate_succ, Array.replicate_zero, List.push_toArray, List.append_toArray, List.nil_append, List.cons_append]
  gi_wp2_with (refine ⟨trivial, ?_⟩; gi_at_call 113; refine (inWide (backward_any _ _ _ _ _ rfl)).mono ?_; rintro e W3 ⟨rfl, rfl⟩)
  have e1 : ((((((w.alloc (Obj.cells #[Value.int IntKind.u64 a, Value.int IntKind.u64 b, Value.int IntKind.u64 c] 115)).alloc (Obj.cells #[Value.int IntKind.i64 f] 3)).alloc (Obj.cells #[Value.int IntKind.u64 0, Value.int IntKind.u64 0, Value.int IntKind.u64 0] 115)).alloc
      (Obj.cells #[Value.int IntKind.u64 0, Value.int IntKind.u64 0, Value.int IntKind.u64 0] 115)).alloc (Obj.cells #[Value.int IntKind.u64 0] 113)).alloc (vo (.slice (some ⟨w.heap.size, 0, none⟩) 3 3) 127)) = W2 := by rw [HW2.out, HW1.out]; rfl
  rw [e1]
  clear e1
  have hIa : Abd W2.heap.size (fun (pre : List Nat) V => Hid (V.heap[w.heap.size + 1 + 1 + 1]? = some (wo (d0 a b c f pre.length) (d1 b c f pre.length) (d2 c f pre.length)) ∧ V.heap[w.heap.size + 1 + 1 + 1 + 1]? = some (vo (.int .u64 (cQ a b c f pre.length : Nat)) 113)) ∧ Hid (Kept (fun k => k = w.heap.size + 1 + 1 + 1 ∨ k = w.heap.size + 1 + 1 + 1 + 1) W2 V)) := fun s A B ⟨h1, h2⟩ hb => by
    have hz := HZ2.out
    exact ⟨⟨(hb.block _ (by omega)).trans h1.1, (hb.block _ (by omega)).trans h1.2⟩, (abd_kept (β := Unit) _ (Nat.le_refl _)) () _ _ h2.out hb⟩
  refine range_all (gf := 119) (lb := #[ptr (w.heap.size + 1 + 1 + 1 + 1 + 1)]) rfl (enters_of Try.func119 (by kernel_rfl) rfl) HS.out (Below.refl _ _) (fun k hk => by have := HZ2.out; omega) (fun _ => rfl) _ hIa ⟨HI0, Kept.refl _ _⟩
    (fun i => { tmps := #[wv a b c, .int .i64 f, .pointer (some ⟨w.heap.size, 0, none⟩), .pointer (some ⟨w.heap.size + 1, 0, none⟩), .pointer (some ⟨w.heap.size + 1 + 1, 0, none⟩), .pointer (some ⟨w.heap.size + 1 + 1 + 1, 0, none⟩), .pointer (some ⟨w.heap.size + 1 + 1 + 1 + 1, 0, none⟩), .int .i64 (i : Nat), .int .u64 (sel a b c i : Nat), undef, undef, undef,
      undef, .slice (some ⟨w.heap.size, 0, none⟩) 3 3, .func (.func 119) #[] #[ptr (w.heap.size + 1 + 1 + 1 + 1 + 1)], .int .i64 (i : Nat), .int .u64 (sel a b c i : Nat), undef, undef, undef, undef, undef, undef, undef, undef, undef, undef, undef, undef, undef, undef, undef, undef, undef, undef, undef, undef], defers := [] }) ?assign ?body ?done
  case assign =>
    intro l' x V K hK
    gi_wp2
    exact hK
  case body =>
    rintro l' pre x V ⟨HI, HKV⟩ hpre hle
    clear hIa HI0
    rcases pre_cases hpre with ⟨rfl, rfl⟩ | ⟨rfl, rfl⟩ | ⟨rfl, rfl⟩
    all_goals clear hpre
    · have hI := HI.out
      have hcl := HK.out _ HKV.out
      simp only [List.length_nil] at hI
      have HN : Hid (Wd (cQ a b c f 0)) := by show Wd 0; unfold Wd; omega
      have HE : Hid ((d0 a b c f 1 = d0 a b c f 0 ∧ d1 b c f 1 = d1 b c f 0) ∧ (d2 c f 1 = dg c f (cQ a b c f 0) ∧ cQ a b c f 1 = cy c f (cQ a b c f 0))) := by
        exact ⟨⟨rfl, rfl⟩, ⟨rfl, rfl⟩⟩
      generalize hr0 : d0 a b c f 0 = r0 at hI HE
      generalize hr1 : d1 b c f 0 = r1 at hI HE
      generalize hr2 : d2 c f 0 = r2 at hI HE
      generalize hq : cQ a b c f 0 = q at hI HN HE
      obtain ⟨hi, lo, s, co, t, HMul, hadd, hwr, HNum⟩ := round_nums (x := c) (f := f) (q := q) HWd.out.1.2.2 (by have := HWd.out.2; unfold Wd; omega) HN.out
      have G := Lib.hid (And.intro (And.intro hr0 hr1) (And.intro hr2 hq))
      clear hr0 hr1 hr2 hq
      have HR3 := Lib.hid hI.1
      have HR4 := Lib.hid hI.2
      have c4 := cell_of_row _ _ 0 _ _ _ hI.2
      have f4 := frozen_of_row _ _ 0 _ _ hI.2
      have f3 := frozen_of_row _ _ 2 _ _ hI.1
      have c3 := cell_of_row _ _ 2 _ _ _ hI.1
      have cf := hcl.1
      have hf1 : (f : Int) ≤ 1000000 := by have := HWd.out.2; omega
      clear hI hcl
      show Code.wpIn _ _ _ _ _ { tmps := #[wv a b c, .int .i64 f, .pointer (some ⟨w.heap.size, 0, none⟩), .pointer (some ⟨w.heap.size + 1, 0, none⟩), .pointer (some ⟨w.heap.size + 1 + 1, 0, none⟩), .pointer (some ⟨w.heap.size + 1 + 1 + 1, 0, none⟩), .pointer (some ⟨w.heap.size + 1 + 1 + 1 + 1, 0, none⟩), .int .i64 2, .int .u64 (c : Nat), undef, undef, undef,
        undef, .slice (some ⟨w.heap.size, 0, none⟩) 3 3, .func (.func 119) #[] #[ptr (w.heap.size + 1 + 1 + 1 + 1 + 1)], .int .i64 2, .int .u64 (c : Nat), undef, undef, undef, undef, undef, undef, undef, undef, undef, undef, undef, undef, undef, undef, undef, undef, undef, undef, undef, undef], defers := [] } V
      gi_wp2_with (refine ⟨trivial, ?_⟩; gi_at_call 114; refine (CallsIn.inRound l' (inWide (HMul.out _))).mono ?_; rintro e W3 ⟨rfl, rfl⟩)
      refine ⟨trivial, ?_⟩
      gi_wp2
      have n1 := put_row (j := 2) (.int .u64 (s : Nat)) HR3.out
      have n2 := put_other (j := 0) (.int .u64 (t : Nat)) n1 (show w.heap.size + 1 + 1 + 1 ≠ w.heap.size + 1 + 1 + 1 + 1 by omega)
      have n3 := put_row (j := 0) (.int .u64 (t : Nat)) (put_other (j := 2) (.int .u64 (s : Nat)) HR4.out (show w.heap.size + 1 + 1 + 1 + 1 ≠ w.heap.size + 1 + 1 + 1 by omega))
      refine ⟨round_kept (.inl rfl) (.inr rfl), ⟨?_, ?_⟩, HKV.out.trans (round_kept (.inl rfl) (.inr rfl))⟩
      · refine n2.trans ?_
        simp only [List.nil_append, List.length_cons, List.length_nil, Nat.zero_add]
        rw [HE.out.1.1, HE.out.1.2, HE.out.2.1]
        simp [HNum.out.1]
      · refine n3.trans ?_
        simp only [List.nil_append, List.length_cons, List.length_nil, Nat.zero_add]
        rw [HE.out.2.2, ← HNum.out.2]
        rfl
    · have hI := HI.out
      have hcl := HK.out _ HKV.out
      simp only [List.length_cons, List.length_nil, Nat.zero_add] at hI
      have HN : Hid (Wd (cQ a b c f 1)) := cy_wd HWd.out.1.2.2 (by have := HWd.out.2; unfold Wd; omega) (by unfold Wd; omega)
      have HE : Hid ((d0 a b c f 2 = d0 a b c f 1 ∧ d1 b c f 2 = dg b f (cQ a b c f 1)) ∧ (d2 c f 2 = d2 c f 1 ∧ cQ a b c f 2 = cy b f (cQ a b c f 1))) := by
        exact ⟨⟨rfl, rfl⟩, ⟨rfl, rfl⟩⟩
      generalize hr0 : d0 a b c f 1 = r0 at hI HE
      generalize hr1 : d1 b c f 1 = r1 at hI HE
      generalize hr2 : d2 c f 1 = r2 at hI HE
      generalize hq : cQ a b c f 1 = q at hI HN HE
      obtain ⟨hi, lo, s, co, t, HMul, hadd, hwr, HNum⟩ := round_nums (x := b) (f := f) (q := q) HWd.out.1.2.1 (by have := HWd.out.2; unfold Wd; omega) HN.out
      have G := Lib.hid (And.intro (And.intro hr0 hr1) (And.intro hr2 hq))
      clear hr0 hr1 hr2 hq
      have HR3 := Lib.hid hI.1
      have HR4 := Lib.hid hI.2
      have c4 := cell_of_row _ _ 0 _ _ _ hI.2
      have f4 := frozen_of_row _ _ 0 _ _ hI.2
      have f3 := frozen_of_row _ _ 1 _ _ hI.1
      have c3 := cell_of_row _ _ 1 _ _ _ hI.1
      have cf := hcl.1
      have hf1 : (f : Int) ≤ 1000000 := by have := HWd.out.2; omega
      clear hI hcl
      show Code.wpIn _ _ _ _ _ { tmps := #[wv a b c, .int .i64 f, .pointer (some ⟨w.heap.size, 0, none⟩), .pointer (some ⟨w.heap.size + 1, 0, none⟩), .pointer (some ⟨w.heap.size + 1 + 1, 0, none⟩), .pointer (some ⟨w.heap.size + 1 + 1 + 1, 0, none⟩), .pointer (some ⟨w.heap.size + 1 + 1 + 1 + 1, 0, none⟩), .int .i64 1, .int .u64 (b : Nat), undef, undef, undef,
        undef, .slice (some ⟨w.heap.size, 0, none⟩) 3 3, .func (.func 119) #[] #[ptr (w.heap.size + 1 + 1 + 1 + 1 + 1)], .int .i64 1, .int .u64 (b : Nat), undef, undef, undef, undef, undef, undef, undef, undef, undef, undef, undef, undef, undef, undef, undef, undef, undef, undef, undef, undef], defers := [] } V
      gi_wp2_with (refine ⟨trivial, ?_⟩; gi_at_call 114; refine (CallsIn.inRound l' (inWide (HMul.out _))).mono ?_; rintro e W3 ⟨rfl, rfl⟩)
      refine ⟨trivial, ?_⟩
      gi_wp2
      have n1 := put_row (j := 1) (.int .u64 (s : Nat)) HR3.out
      have n2 := put_other (j := 0) (.int .u64 (t : Nat)) n1 (show w.heap.size + 1 + 1 + 1 ≠ w.heap.size + 1 + 1 + 1 + 1 by omega)
      have n3 := put_row (j := 0) (.int .u64 (t : Nat)) (put_other (j := 1) (.int .u64 (s : Nat)) HR4.out (show w.heap.size + 1 + 1 + 1 + 1 ≠ w.heap.size + 1 + 1 + 1 by omega))
      refine ⟨round_kept (.inl rfl) (.inr rfl), ⟨?_, ?_⟩, HKV.out.trans (round_kept (.inl rfl) (.inr rfl))⟩
      · refine n2.trans ?_
        simp only [List.nil_append, List.cons_append, List.length_cons, List.length_nil, Nat.zero_add, Nat.reduceAdd]
        rw [HE.out.1.1, HE.out.1.2, HE.out.2.1]
        simp [HNum.out.1]
      · refine n3.trans ?_
        simp only [List.nil_append, List.cons_append, List.length_cons, List.length_nil, Nat.zero_add, Nat.reduceAdd]
        rw [HE.out.2.2, ← HNum.out.2]
        rfl
    · have hI := HI.out
      have hcl := HK.out _ HKV.out
      simp only [List.length_cons, List.length_nil, Nat.zero_add, Nat.reduceAdd] at hI
      have HN : Hid (Wd (cQ a b c f 2)) := cy_wd HWd.out.1.2.1 (by have := HWd.out.2; unfold Wd; omega) (cy_wd HWd.out.1.2.2 (by have := HWd.out.2; unfold Wd; omega) (by unfold Wd; omega))
      have HE : Hid ((d0 a b c f 3 = dg a f (cQ a b c f 2) ∧ d1 b c f 3 = d1 b c f 2) ∧ (d2 c f 3 = d2 c f 2 ∧ cQ a b c f 3 = cy a f (cQ a b c f 2))) := by
        exact ⟨⟨rfl, rfl⟩, ⟨rfl, rfl⟩⟩
      generalize hr0 : d0 a b c f 2 = r0 at hI HE
      generalize hr1 : d1 b c f 2 = r1 at hI HE
      generalize hr2 : d2 c f 2 = r2 at hI HE
      generalize hq : cQ a b c f 2 = q at hI HN HE
      obtain ⟨hi, lo, s, co, t, HMul, hadd, hwr, HNum⟩ := round_nums (x := a) (f := f) (q := q) HWd.out.1.1 (by have := HWd.out.2; unfold Wd; omega) HN.out
      have G := Lib.hid (And.intro (And.intro hr0 hr1) (And.intro hr2 hq))
      clear hr0 hr1 hr2 hq
      have HR3 := Lib.hid hI.1
      have HR4 := Lib.hid hI.2
      have c4 := cell_of_row _ _ 0 _ _ _ hI.2
      have f4 := frozen_of_row _ _ 0 _ _ hI.2
      have f3 := frozen_of_row _ _ 0 _ _ hI.1
      have c3 := cell_of_row _ _ 0 _ _ _ hI.1
      have cf := hcl.1
      have hf1 : (f : Int) ≤ 1000000 := by have := HWd.out.2; omega
      clear hI hcl
      show Code.wpIn _ _ _ _ _ { tmps := #[wv a b c, .int .i64 f, .pointer (some ⟨w.heap.size, 0, none⟩), .pointer (some ⟨w.heap.size + 1, 0, none⟩), .pointer (some ⟨w.heap.size + 1 + 1, 0, none⟩), .pointer (some ⟨w.heap.size + 1 + 1 + 1, 0, none⟩), .pointer (some ⟨w.heap.size + 1 + 1 + 1 + 1, 0, none⟩), .int .i64 0, .int .u64 (a : Nat), undef, undef, undef,
        undef, .slice (some ⟨w.heap.size, 0, none⟩) 3 3, .func (.func 119) #[] #[ptr (w.heap.size + 1 + 1 + 1 + 1 + 1)], .int .i64 0, .int .u64 (a : Nat), undef, undef, undef, undef, undef, undef, undef, undef, undef, undef, undef, undef, undef, undef, undef, undef, undef, undef, undef, undef], defers := [] } V
      gi_wp2_with (refine ⟨trivial, ?_⟩; gi_at_call 114; refine (CallsIn.inRound l' (inWide (HMul.out _))).mono ?_; rintro e W3 ⟨rfl, rfl⟩)
      refine ⟨trivial, ?_⟩
      gi_wp2
      have n1 := put_row (j := 0) (.int .u64 (s : Nat)) HR3.out
      have n2 := put_other (j := 0) (.int .u64 (t : Nat)) n1 (show w.heap.size + 1 + 1 + 1 ≠ w.heap.size + 1 + 1 + 1 + 1 by omega)
      have n3 := put_row (j := 0) (.int .u64 (t : Nat)) (put_other (j := 0) (.int .u64 (s : Nat)) HR4.out (show w.heap.size + 1 + 1 + 1 + 1 ≠ w.heap.size + 1 + 1 + 1 by omega))
      refine ⟨round_kept (.inl rfl) (.inr rfl), ⟨?_, ?_⟩, HKV.out.trans (round_kept (.inl rfl) (.inr rfl))⟩
      · refine n2.trans ?_
        simp only [List.nil_append, List.cons_append, List.length_cons, List.length_nil, Nat.zero_add, Nat.reduceAdd]
        rw [HE.out.1.1, HE.out.1.2, HE.out.2.1]
        simp [HNum.out.1]
      · refine n3.trans ?_
        simp only [List.nil_append, List.cons_append, List.length_cons, List.length_nil, Nat.zero_add, Nat.reduceAdd]
        rw [HE.out.2.2, ← HNum.out.2]
        rfl
  case done =>
    rintro D V hD ⟨HI, HKV⟩ hdef hk
    have hI := HI.out
    simp only [List.length_cons, List.length_nil, Nat.zero_add, Nat.reduceAdd] at hI
    have hz := HZ2.out
    have g0 := cell_of_row _ _ 0 _ _ _ hI.1
    have g1 := cell_of_row _ _ 1 _ _ _ hI.1
    have g2 := cell_of_row _ _ 2 _ _ _ hI.1
    have hr := (HK.out _ HKV.out).2
    have f0 := frozen_of_row _ _ 0 _ _ hr
    have f1 := frozen_of_row _ _ 1 _ _ hr
    have f2 := frozen_of_row _ _ 2 _ _ hr
    have r0 := cell_of_row _ _ 0 _ _ _ hr
    have r1 := cell_of_row _ _ 1 _ _ _ hr
    have r2 := cell_of_row _ _ 2 _ _ _ hr
    have hlt := (Array.getElem?_eq_some_iff.1 hr).1
    have HD := Lib.hid hdef
    have HD2 := Lib.hid hD
    have HKd := Lib.hid hk
    have HR := Lib.hid hr
    have HZ' := Lib.hid hz
    clear hdef hD hI hr hk hz hIa
    gi_wp2
    clear f0 f1 f2 r0 r1 r2 g0 g1 g2
    have hne : D ≠ w.heap.size + 1 + 1 := by have := HD2.out; have := HZ'.out; omega
    have hd' := put_other (j := 2) (.int .u64 (d2 c f 3 : Nat)) (put_other (j := 1) (.int .u64 (d1 b c f 3 : Nat)) (put_other (j := 0) (.int .u64 (d0 a b c f 3 : Nat)) HD.out hne) hne) hne
    have hrow : ((V.setCell ⟨w.heap.size + 1 + 1, 0, none⟩ (.int .u64 (d0 a b c f 3 : Nat))).setCell ⟨w.heap.size + 1 + 1, 1, none⟩ (.int .u64 (d1 b c f 3 : Nat))).setCell ⟨w.heap.size + 1 + 1, 2, none⟩ (.int .u64 (d2 c f 3 : Nat)) |>.heap[w.heap.size + 1 + 1]? = some (wo (d0 a b c f 3) (d1 b c f 3) (d2 c f 3)) :=
      put_row (j := 2) _ (put_row (j := 1) _ (put_row (j := 0) _ HR.out))
    generalize hVf : ((V.setCell ⟨w.heap.size + 1 + 1, 0, none⟩ (.int .u64 (d0 a b c f 3 : Nat))).setCell ⟨w.heap.size + 1 + 1, 1, none⟩ (.int .u64 (d1 b c f 3 : Nat))).setCell ⟨w.heap.size + 1 + 1, 2, none⟩ (.int .u64 (d2 c f 3 : Nat)) = Vf at hd' hrow ⊢
    have hbV : Below w.heap.size w Vf := by
      rw [← hVf]
      exact (((HB.out.trans (HKV.out.below (by have := HZ'.out; omega) (fun k hk hm => by omega))).setCell (p := ⟨w.heap.size + 1 + 1, 0, none⟩) (by show w.heap.size ≤ w.heap.size + 1 + 1; omega) _).setCell (p := ⟨w.heap.size + 1 + 1, 1, none⟩) (by show w.heap.size ≤ w.heap.size + 1 + 1; omega) _).setCell (p := ⟨w.heap.size + 1 + 1, 2, none⟩) (by show w.heap.size ≤ w.heap.size + 1 + 1; omega) _
    have hrow2 : (Vf.putObj D (.deferred none)).heap[w.heap.size + 1 + 1]? = some (wo (d0 a b c f 3) (d1 b c f 3) (d2 c f 3)) := (World.putObj_heap_other (fun e => hne e.symm)).trans hrow
    have q0 := cell_of_row _ _ 0 _ _ _ hrow2
    have q1 := cell_of_row _ _ 1 _ _ _ hrow2
    have q2 := cell_of_row _ _ 2 _ _ _ hrow2
    clear hVf
    refine ⟨by simp, .inl ⟨_, _, rfl, run_takeDeferred hd', ?_⟩⟩
    refine ⟨wv (d0 a b c f 3) (d1 b c f 3) (d2 c f 3), ?_, rfl, hbV.trans (below_putObj _ (by have := HD2.out; have := HZ'.out; omega))⟩
    simp [results, Try.results108, go_sem, *]
end Go.Proofs.Ytgdcjpnmalnmbaa
