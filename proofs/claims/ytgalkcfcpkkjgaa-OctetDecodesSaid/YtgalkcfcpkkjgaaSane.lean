/-
  The statements' common test 'sanity' (the chapter's examples) returns true.
-/
import Derived.Test.YtgalkcfcpkkjgaaRead2
import Derived.Test.YtgalkcfcpkkjgaaTab
import Derived.Deep.RegionHeld3
import Derived.Deep.RegionWith
namespace Go.Proofs.Ytgalkcfcpkkjgaa
open Go.RowKit

theorem conv_own {w : World} {g : Nat} {l : List UInt8} {C : Array Value} {fr : Nat × Nat} (h : w.heap[g]? = some (.cells C 5 fr)) (hC : C = (l.map bcell).toArray) (n : Nat) (hn : n = l.length) :
    (convert 49 9 (.slice (some ⟨g, 0, none⟩) n n)).run Try.prog w = .ok (.string (str l)) w := by
  subst hn hC
  refine run_convert_bytes_back w _ _ _ ⟨g, 0, none⟩ l.length l Try.underlying49 Try.underlying5 Try.underlying9 fun j hj => ?_
  have hadd : (⟨g, 0, none⟩ : Addr).add j = ⟨g, j, none⟩ := by unfold Addr.add; split <;> simp_all
  rw [hadd, cell_of_row _ _ _ _ _ _ h]; simp [hj, bcell]

theorem varN_300 : Leb.varN 300 = [172, 2] := by rw [Leb.varN_big (by omega), Leb.varN_small (by omega)]; decide
theorem varN_2 : Leb.varN 2 = [2] := by rw [Leb.varN_small (by omega)]; decide
theorem sane_put (w : World) : Calls Try.prog 14 #[.int .i64 258, .int .i64 2] w fun e w' => e = .returned (.string ⟨#[1, 2]⟩) ∧ Below w.heap.size w w' := by
  have h := put_any 258 2 w
  have e : Leb.putN (u64of 258) (clampI 2).toNat = [1, 2] := by decide
  rw [e] at h; exact h
theorem sane_var (w : World) (g : Nat) (h : w.heap[g]? = some (.cells #[.int .u8 172, .int .u8 2] 5 (0, 0))) : Calls Try.prog 16 #[.int .i64 300] w fun e w' => e = .returned (.string ⟨#[172, 2]⟩) ∧ Below w.heap.size w w' ∧
    (convert 49 9 (.slice (some ⟨g, 0, none⟩) 2 2)).run Try.prog w' = .ok (.string ⟨#[172, 2]⟩) w' := by
  have h0 := var_any 300 w
  have e : Leb.varN (u64of 300) = [172, 2] := varN_300
  rw [e] at h0
  refine h0.mono fun e w' ⟨h1, h2⟩ => ⟨h1, h2, ?_⟩
  have h3 := h2.block g (Array.getElem?_eq_some_iff.1 h).1
  rw [h] at h3
  exact conv_own (l := [172, 2]) h3 rfl 2 rfl
theorem sane_var0 (w : World) : Calls Try.prog 16 #[.int .i64 300] w fun e w' => e = .returned (.string ⟨#[172, 2]⟩) ∧ Below w.heap.size w w' := by
  have h0 := var_any 300 w
  have e : Leb.varN (u64of 300) = [172, 2] := varN_300
  rw [e] at h0
  exact h0
theorem sane_text (w : World) : Calls Try.prog 18 #[.string ⟨#[97, 98]⟩] w fun e w' => e = .returned (.string ⟨#[2, 97, 98]⟩) ∧ Below w.heap.size w w' := by
  have h0 := text_any ⟨#[97, 98]⟩ w (by decide)
  have e : Leb.varN (ByteArray.size ⟨#[97, 98]⟩) = [2] := varN_2
  rw [e] at h0
  exact h0
theorem sane_sum0 (w : World) : Calls Try.prog 20 #[.string ⟨#[]⟩] w fun e w' => e = .returned (.int .u32 0) ∧ Below w.heap.size w w' := sum_any ⟨#[]⟩ w (by decide)
theorem sane_sum9 (w : World) : Calls Try.prog 20 #[.string ⟨#[49, 50, 51, 52, 53, 54, 55, 56, 57]⟩] w fun e w' => e = .returned (.int .u32 3421780262) ∧ Below w.heap.size w w' := by
  have h0 := sum_any ⟨#[49, 50, 51, 52, 53, 54, 55, 56, 57]⟩ w (by decide)
  have e : Crc.crc (ByteArray.mk #[49, 50, 51, 52, 53, 54, 55, 56, 57]).data.toList = 3421780262 := by decide +kernel
  rw [e] at h0
  exact h0
theorem dec_1280 : Leb.dec [128, 0] = none := by decide

/-- memory while the test runs: w0 is as it was, the failed reader stands in block b -/
structure Sane (w0 : World) (b : Nat) (s : ByteArray) (w : World) : Prop where
  below : Below w0.heap.size w0 w
  rd : Rd w b s 0 true
theorem Sane.drew {w0 w : World} {b : Nat} {s : ByteArray} (h : Sane w0 b s w) : Sane w0 b s w.drew := ⟨h.below.drew, h.rd⟩
theorem Sane.later {w0 w w' : World} {b : Nat} {s : ByteArray} (h : Sane w0 b s w) (hb : Below w.heap.size w w') : Sane w0 b s w' :=
  ⟨h.below.trans (hb.mono h.below.size), h.rd.keptB hb (Array.getElem?_eq_some_iff.1 h.rd).1⟩
theorem Sane.alloc {w0 w : World} {b : Nat} {s : ByteArray} (h : Sane w0 b s w) (o : Obj) : Sane w0 b s (w.alloc o) := h.later ((Below.refl _ _).alloc (Nat.le_refl _) _)
theorem Sane.call {P : Program} {f : FuncId} {args : Array Value} {w : World} {v : Value} {w0 : World} {b : Nat} {s : ByteArray} (hs : Sane w0 b s w)
    (h : Calls P f args w fun e w' => e = .returned v ∧ Below w.heap.size w w') : Calls P f args w fun e w' => e = .returned v ∧ Sane w0 b s w' :=
  h.mono fun _ _ ⟨h1, h2⟩ => ⟨h1, hs.later h2⟩
theorem Sane.var {w : World} {w0 : World} {b : Nat} {s : ByteArray} {W : World} {o : Obj} (hs : Sane w0 b s w) (hw : w = W.alloc o) (ho : o = .cells #[.int .u8 172, .int .u8 2] 5 (0, 0)) : Calls Try.prog 16 #[.int .i64 300] w fun e w' => e = .returned (.string ⟨#[172, 2]⟩) ∧ Sane w0 b s w' ∧
    (convert 49 9 (.slice (some ⟨W.heap.size, 0, none⟩) 2 2)).run Try.prog w' = .ok (.string ⟨#[172, 2]⟩) w' := by
  subst ho hw
  exact (sane_var _ _ (heap_alloc_new _ _)).mono fun _ _ ⟨h1, h2, h3⟩ => ⟨h1, hs.later h2, h3⟩
theorem Sane.failed {w : World} {w0 : World} {b : Nat} {s : ByteArray} (hs : Sane w0 b s w) : Calls Try.prog 33 #[.pointer (some ⟨b, 0, none⟩)] w fun e w' => e = .returned (.bool true) ∧ w = w' := failed_any _ _ _ _ _ hs.rd
theorem Sane.at0 {w : World} {w0 : World} {b : Nat} {s : ByteArray} (hs : Sane w0 b s w) : Calls Try.prog 31 #[.pointer (some ⟨b, 0, none⟩)] w fun e w' => e = .returned (.int .i64 0) ∧ w = w' := at_any _ _ _ _ _ hs.rd

set_option maxHeartbeats 6000000 in
set_option maxRecDepth 100000 in
theorem sane_any (w : World) : Calls Try.prog 13 #[] w fun e w' => e = .returned (.bool true) ∧ Below w.heap.size w w' := by
  have hc0 := conv_lit w [128, 0] 2 rfl #[.int .u8 128, .int .u8 0] rfl
  go_enter Try.func13, Try.ntmps13
  go_wp2_with (go_at_call 22; refine (read_any _ _).mono ?_; rintro e w1 ⟨rfl, hr1, hb1, hs1⟩)
  have es : (w.alloc (.cells #[.int .u8 128, .int .u8 0] 5)).heap.size = w.heap.size + 1 := by simp
  rw [es] at hr1 hb1 hs1
  have HB : Hid (Below w.heap.size w w1) := ((Below.refl _ w).alloc (Nat.le_refl _) _).trans (hb1.mono (by omega))
  clear hb1 es hc0
  have HV := Lib.hid (var_read _ _ _ _ _ hr1 (Nat.zero_le _) (by decide))
  have ev : vr (str [128, 0]).data.toList 0 false = (0, 0, true) := by decide
  rw [ev] at HV; clear ev hr1
  simp only at HV
  go_wp2_with (go_at_call 25; refine HV.out.mono ?_; rintro e w2 ⟨rfl, hr2, hg2⟩)
  have hs2 : Sane w (w.heap.size + 1) (str [128, 0]) w2 := ⟨HB.out.grown hg2 HB.out.size (by intro k hk; injection hk with hk; omega), hr2⟩
  clear hg2 HB HV hs1 hr2
  generalize w.heap.size + 1 = b at hs2 ⊢
  generalize str [128, 0] = s at hs2
  have hc : ∀ W : World, (convert 49 9 (.slice (some ⟨W.heap.size, 0, none⟩) 2 2)).run Try.prog (W.alloc (.cells #[.int .u8 172, .int .u8 2] 5)) = .ok (.string ⟨#[172, 2]⟩) (W.alloc (.cells #[.int .u8 172, .int .u8 2] 5)) :=
    fun W => conv_lit W [172, 2] 2 rfl #[.int .u8 172, .int .u8 2] rfl
  go_region_with (first
    | (go_at_call 14; (with_reducible refine (Sane.call (w0 := w) (b := b) (s := s) ?_ (sane_put _)).mono ?_); (focus (repeat (first | assumption | apply Sane.drew | apply Sane.alloc))); rintro e w' ⟨rfl, hs'⟩)
    | (go_at_call 16; (with_reducible refine (Sane.var (w0 := w) (b := b) (s := s) ?_ rfl rfl).mono ?_); (focus (repeat (first | assumption | apply Sane.drew | apply Sane.alloc))); rintro e w' ⟨rfl, hs', hc'⟩)
    | (go_at_call 16; (with_reducible refine (Sane.call (w0 := w) (b := b) (s := s) ?_ (sane_var0 _)).mono ?_); (focus (repeat (first | assumption | apply Sane.drew | apply Sane.alloc))); rintro e w' ⟨rfl, hs'⟩)
    | (go_at_call 18; (with_reducible refine (Sane.call (w0 := w) (b := b) (s := s) ?_ (sane_text _)).mono ?_); (focus (repeat (first | assumption | apply Sane.drew | apply Sane.alloc))); rintro e w' ⟨rfl, hs'⟩)
    | (go_at_call 20; (with_reducible refine (Sane.call (w0 := w) (b := b) (s := s) ?_ (sane_sum0 _)).mono ?_); (focus (repeat (first | assumption | apply Sane.drew | apply Sane.alloc))); rintro e w' ⟨rfl, hs'⟩)
    | (go_at_call 20; (with_reducible refine (Sane.call (w0 := w) (b := b) (s := s) ?_ (sane_sum9 _)).mono ?_); (focus (repeat (first | assumption | apply Sane.drew | apply Sane.alloc))); rintro e w' ⟨rfl, hs'⟩)
    | (go_at_call 33; (with_reducible refine (Sane.failed (w0 := w) (b := b) (s := s) ?_).mono ?_); (focus (repeat (first | assumption | apply Sane.drew | apply Sane.alloc))); rintro e w' ⟨rfl, rfl⟩)
    | (go_at_call 31; (with_reducible refine (Sane.at0 (w0 := w) (b := b) (s := s) ?_).mono ?_); (focus (repeat (first | assumption | apply Sane.drew | apply Sane.alloc))); rintro e w' ⟨rfl, rfl⟩))
  all_goals go_wp2
  all_goals go_ret
  all_goals exact ⟨rfl, Sane.below (by assumption)⟩
end Go.Proofs.Ytgalkcfcpkkjgaa
