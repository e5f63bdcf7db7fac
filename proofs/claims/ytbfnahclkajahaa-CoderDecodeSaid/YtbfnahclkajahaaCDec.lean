/-
  isWhole and Decode (contracts).
-/
import Derived.Test.YtbfnahclkajahaaCRnew
import Derived.Laws.MakeOwn
namespace Go.Proofs.Ytbfnahclkajahaa.C
open Go.RowKit Go.Shelf
set_option maxRecDepth 100000
variable {W w w' : World} {L : List (Nat × Obj)}

set_option maxHeartbeats 2000000 in
theorem isWhole_any (b n : Nat) (c : Cd) (s : ByteArray) (w : World) (h : HS W ((b, rob c s n) :: L) w) (hn : n ≤ 800000) (_hs : s.size ≤ 1000000) :
    Calls Try.prog 32 #[.pointer (some ⟨b, 0, none⟩)] w fun e w' => e = .returned (.bool (decide (n + 4 = s.size ∧ val (sx s.data.toList) n = c.lo))) ∧ ∃ m, w' = w.drewN m := by
  have hc0 : w.cell? ⟨b, 256, none⟩ = some (.int .u32 (c.lo : Int)) := h.hd_r 0
  have hc2 : w.cell? ⟨b, 258, none⟩ = some (.string s) := h.hd_r 2
  have hc3 : w.cell? ⟨b, 259, none⟩ = some (.int .u32 (val (sx s.data.toList) n : Int)) := h.hd_r 3
  have HU : Hid (∀ m, Calls Try.prog 27 #[.pointer (some ⟨b, 0, none⟩)] (w.drewN m) fun e w' => e = .returned (.int .i64 ((4 + n : Nat) : Int)) ∧ w.drewN m = w') := fun m => used_any b n _ _ _ _ s _ (h.drewN m) (by omega)
  clear h
  generalize val (sx s.data.toList) n = v at *
  generalize c.lo = lo at *
  by_cases h1 : n + 4 = s.size
  · have he : (((4 + n : Nat) : Int) == (s.size : Int)) = true := by simp; omega
    by_cases h2 : v = lo
    · have he2 : ((v : Int) == (lo : Int)) = true := by simp; omega
      rw [show decide (n + 4 = s.size ∧ v = lo) = true from decide_eq_true ⟨h1, h2⟩]
      clear h1 h2
      generalize 4 + n = u at *
      go_enter Try.func32, Try.ntmps32
      go_upto_region 1 with fail
      go_quiet (first | (go_at_call 27; exact quiet1 (HU.out _)))
      go_wp2
      go_ret
      exact ⟨rfl, nq, rfl⟩
    · have he2 : ((v : Int) == (lo : Int)) = false := by simp; omega
      rw [show decide (n + 4 = s.size ∧ v = lo) = false from decide_eq_false (fun h => h2 h.2)]
      clear h1 h2
      generalize 4 + n = u at *
      go_enter Try.func32, Try.ntmps32
      go_upto_region 1 with fail
      go_quiet (first | (go_at_call 27; exact quiet1 (HU.out _)))
      go_wp2
      go_ret
      exact ⟨rfl, nq, rfl⟩
  · have he : (((4 + n : Nat) : Int) == (s.size : Int)) = false := by simp; omega
    rw [show decide (n + 4 = s.size ∧ v = lo) = false from decide_eq_false (fun h => h1 h.1)]
    clear h1
    generalize 4 + n = u at *
    go_enter Try.func32, Try.ntmps32
    go_upto_region 1 with fail
    go_quiet (first | (go_at_call 27; exact quiet1 (HU.out _)))
    go_wp2
    go_ret
    exact ⟨rfl, nq, rfl⟩
theorem rit_n (f : Nat → Nat) (c : Cd) (n : Nat) (ok : Ok c) : ∀ j, (rit f j ⟨c, n, 1⟩).n ≤ n + 4 * j
  | 0 => Nat.le_refl _
  | j + 1 => by
    have h1 := rit_n f c n ok j
    have h2 := out_len (rit_ok f j ⟨c, n, 1⟩ ok) (rit f j ⟨c, n, 1⟩).x (rbit (rit f j ⟨c, n, 1⟩).c f (rit f j ⟨c, n, 1⟩).n (rit f j ⟨c, n, 1⟩).x)
    show (rit f j ⟨c, n, 1⟩).n + (out _ _ _).length ≤ _
    omega
theorem rlst_n (f : Nat → Nat) : ∀ j, (rlst f j).2.2 ≤ 32 * j
  | 0 => Nat.le_refl _
  | j + 1 => by
    have h1 := rlst_n f j
    have h2 := rit_n f (rlst f j).2.1 (rlst f j).2.2 (rlst_ok f j) 8
    show (rit f 8 ⟨(rlst f j).2.1, (rlst f j).2.2, 1⟩).n ≤ _
    omega
/-- n bytes in memory, of which the first are those of l -/
def bts (l : List UInt8) (n : Nat) : Array Value := (l.map bcell ++ List.replicate (n - l.length) (Value.int .u8 0)).toArray
theorem bts_size {l : List UInt8} {n : Nat} (h : l.length ≤ n) : (bts l n).size = n := by unfold bts; simp; omega
theorem bts_next {l : List UInt8} {n : Nat} (h : l.length < n) (b : UInt8) : (bts l n).setIfInBounds l.length (.int .u8 (b.toNat : Int)) = bts (l ++ [b]) n := by
  unfold bts
  rw [List.setIfInBounds_toArray, List.set_append_right _ _ (by simp), List.length_map, Nat.sub_self]
  obtain ⟨m, hm⟩ : ∃ m, n - l.length = m + 1 := ⟨n - l.length - 1, by omega⟩
  rw [hm, List.replicate_succ, List.set_cons_zero, List.map_append, List.append_assoc]
  congr 3
  rw [show n - (l ++ [b]).length = m by rw [List.length_append]; simp only [List.length_cons, List.length_nil]; omega]
  rfl
theorem bts_get {l : List UInt8} {n : Nat} (h : l.length < n) : (bts l n)[l.length]? = some (.int .u8 0) := by
  unfold bts
  rw [List.getElem?_toArray, List.getElem?_append_right (by simp), List.length_map, Nat.sub_self, List.getElem?_replicate, if_pos (by omega)]
theorem bts_made (n : Nat) : madeCells #[Value.int .u8 0] n = bts [] n := by
  apply Array.ext_getElem?
  intro i
  unfold bts madeCells
  by_cases hi : i < n
  · simp [hi, Nat.mod_one]
  · rw [Array.getElem?_eq_none (by simp; omega), Array.getElem?_eq_none (by simp; omega)]
theorem run_mk (n : Nat) (w : World) (hn : n ≤ 100000) : (Instr.makeSlice 33 (.int .i64 n) (.int .i64 n)).run Try.prog w = .ok (.slice (some ⟨w.heap.size, 0, none⟩) n n) (w.alloc (.cells (bts [] n) 5)) := by
  obtain ⟨i0, hi, hz0, hz1, hz2⟩ := info_parts infoB
  have h := run_make (P := Try.prog) w 33 5 i0 _ Try.underlying33 hi hz0 .i64 .i64 n n (by omega) (Int.le_refl _) (by rw [hz2]; omega) (by omega)
  rw [h, hz1, Nat.mul_one, Int.toNat_natCast]
  show Result.ok _ (w.alloc (.cells (madeCells #[Value.int .u8 0] n) _)) = _
  rw [bts_made]
theorem sMake {ops : Array Oper} {rest : List Oper} {d : Option Tmp} {ty : TypeId} {pp : String} {af : Array Edge} {a : Act} {Q : Exit → Act → World → Prop} (n : Nat) (hn : n ≤ 100000) (x : Operand) (hx : a.eval x = .int .i64 (n : Int))
    (h : wpList Try.prog ops Q rest (a.put d (.slice (some ⟨w.heap.size, 0, none⟩) n n)) (w.alloc (.cells (bts [] n) 5))) :
    wpList Try.prog ops Q ({ dst := d, op := .makeSlice 33 x x, type := ty, pos := pp, after := af, guard := none } :: rest) a w :=
  wpList_plain rfl fun K hK => by
    unfold Oper.wp execOp
    simp only [hx, Sem.run_bind, run_mk n w hn, Result.andThen_ok, Sem.run_pure]
    exact hK _ _ h
/-- what Decode returns -/
def dec (s : ByteArray) (n : Nat) : ByteArray × Int :=
  if (rlst (sx s.data.toList) n).2.2 + 4 = s.size ∧ val (sx s.data.toList) (rlst (sx s.data.toList) n).2.2 = (rlst (sx s.data.toList) n).2.1.lo then (str (rlst (sx s.data.toList) n).1, 0) else (ByteArray.empty, 11)
theorem decodeBad_any (s : ByteArray) (n : Int) (w : World) (hn : n < 0 ∨ 65536 < n) : Calls Try.prog 17 #[.string s, .int .i64 n] w fun e w' => e = .returned (.tuple #[.string ByteArray.empty, .int .i64 1]) ∧ w = w' := by
  by_cases h : n < 0
  · go_enter Try.func17, Try.ntmps17
    go_wp2
    go_ret2
    exact ⟨rfl, rfl⟩
  · have h2 : 65536 < n := by omega
    go_enter Try.func17, Try.ntmps17
    go_wp2
    go_ret2
    exact ⟨rfl, rfl⟩
set_option maxHeartbeats 4000000 in
theorem decode_any (s : ByteArray) (n : Nat) (w : World) (hn : n ≤ 20000) (hs : s.size ≤ 1000000) : Calls Try.prog 17 #[.string s, .int .i64 n] w fun e w' => e = .returned (.tuple #[.string (dec s n).1, .int .i64 (dec s n).2]) ∧ Below w.heap.size w w' := by
  have h0 := HS.start w
  have HN := Lib.hid hn
  have hn2 : (n : Int) ≤ 65536 := by omega
  clear hn
  go_enter Try.func17, Try.ntmps17
  go_wp2_with (first
    | (go_at_call 25; refine (newR_any s _ h0).mono ?_; rintro e w1 ⟨b, rfl, h1⟩)
    | ((with_reducible refine sMake n (by have := HN.out; omega) _ ?_ ?_); focus rfl))
  have h2 := h1.alloc (.cells (bts [] n) 5)
  have H2 := Lib.hid h2
  clear h0 h1 h2
  generalize w1.alloc (.cells (bts [] n) 5) = w2 at H2 ⊢
  generalize w1.heap.size = g at H2 ⊢
  clear hn2
  go_loopw [8, 21] (fun _ i V => ∃ j : Nat, j ≤ n ∧ i = .int .i64 (j : Int) ∧ Hid (HS w ((g, .cells (bts (rlst (sx s.data.toList) j).1 n) 5) :: [(b, rob (rlst (sx s.data.toList) j).2.1 s (rlst (sx s.data.toList) j).2.2)]) V)) (fun _ i _ => n - (intOf i).toNat)
  case atStart => exact ⟨0, by omega, rfl, H2⟩
  case round =>
    obtain ⟨j, hj, rfl, HT⟩ := hrel
    clear H2
    have hlen := rlst_len (sx s.data.toList) j
    have hrn := rlst_n (sx s.data.toList) j
    have HLEN := Lib.hid hlen
    have HRN := Lib.hid hrn
    clear hlen hrn
    by_cases hlt : j < n
    · have hb := byt_lt (UInt8.ofNat (rbyt (sx s.data.toList) (rlst (sx s.data.toList) j).2.1 (rlst (sx s.data.toList) j).2.2).x)
      have HRB : Hid (Calls Try.prog 31 #[.pointer (some ⟨b, 0, none⟩)] wr fun e w' => e = .returned (.int .u8 ((UInt8.ofNat (rbyt (sx s.data.toList) (rlst (sx s.data.toList) j).2.1 (rlst (sx s.data.toList) j).2.2).x).toNat : Int)) ∧ HS w ((g, .cells (bts (rlst (sx s.data.toList) j).1 n) 5) :: [(b, rob (rlst (sx s.data.toList) (j + 1)).2.1 s (rlst (sx s.data.toList) (j + 1)).2.2)]) w' ∧
          w'.cell? ⟨g, j, none⟩ = some (.int .u8 0) ∧ w'.frozen? ⟨g, j, none⟩ = false) := by
        refine (readByte_any b _ _ s wr (rlst_ok _ j) HT.out.swap (by have := HN.out; have := HRN.out; omega)).mono ?_
        rintro e w' ⟨h1, h2⟩
        have h3 := h2.swap
        refine ⟨h1, h3, ?_, h3.hfro j⟩
        have hg := bts_get (l := (rlst (sx s.data.toList) j).1) (n := n) (by rw [HLEN.out]; exact hlt)
        rw [HLEN.out] at hg
        exact (h3.cell (List.mem_cons_self ..) j).trans hg
      have HRS : Hid ((rlst (sx s.data.toList) (j + 1)).1 = (rlst (sx s.data.toList) j).1 ++ [UInt8.ofNat (rbyt (sx s.data.toList) (rlst (sx s.data.toList) j).2.1 (rlst (sx s.data.toList) j).2.2).x]) := Lib.hid rfl
      generalize UInt8.ofNat (rbyt (sx s.data.toList) (rlst (sx s.data.toList) j).2.1 (rlst (sx s.data.toList) j).2.2).x = y at HRB HRS hb
      go_wp2_with (go_at_call 31; refine HRB.out.mono ?_; rintro e w3 ⟨rfl, h3, hc3, hf3⟩; have H3 := Lib.hid h3; clear h3)
      go_roundw
      case rel =>
        refine ⟨j + 1, by omega, by go_num, ?_⟩
        have h4 := H3.out.put j (.int .u8 (y.toNat : Int))
        have hg := bts_next (l := (rlst (sx s.data.toList) j).1) (n := n) (by rw [HLEN.out]; exact hlt) y
        rw [HLEN.out] at hg
        rw [hg, ← HRS.out] at h4
        exact h4
      case measure => simp [intOf]; omega
    · obtain rfl : j = n := by omega
      have HSL : Hid (∀ V, HS w ((g, .cells (bts (rlst (sx s.data.toList) j).1 j) 5) :: [(b, rob (rlst (sx s.data.toList) j).2.1 s (rlst (sx s.data.toList) j).2.2)]) V → (convert 33 9 (.slice (some ⟨g, 0, none⟩) j j)).run Try.prog V = .ok (.string (str (rlst (sx s.data.toList) j).1)) V) := fun V hV => by
        have hl := HLEN.out
        refine owns_conv (B := w.heap.size) (SL.owns (l := [(g, .cells (bts (rlst (sx s.data.toList) j).1 j) 5)]) (.inr ⟨g, j, _, by rw [hl], rfl, by omega, by have := HN.out; unfold maxLen; omega, bts_size (by omega), ?_⟩) hV)
        unfold bts
        rw [List.toList_toArray, List.take_left' (by rw [List.length_map])]
      have HW : Hid (∀ V, HS w ((b, rob (rlst (sx s.data.toList) j).2.1 s (rlst (sx s.data.toList) j).2.2) :: [(g, .cells (bts (rlst (sx s.data.toList) j).1 j) 5)]) V → Calls Try.prog 32 #[.pointer (some ⟨b, 0, none⟩)] V fun e w' => e = .returned (.bool (decide ((rlst (sx s.data.toList) j).2.2 + 4 = s.size ∧ val (sx s.data.toList) (rlst (sx s.data.toList) j).2.2 = (rlst (sx s.data.toList) j).2.1.lo))) ∧ HS w ((g, .cells (bts (rlst (sx s.data.toList) j).1 j) 5) :: [(b, rob (rlst (sx s.data.toList) j).2.1 s (rlst (sx s.data.toList) j).2.2)]) w') := fun V hV =>
        (isWhole_any b _ _ s V hV (by have := HN.out; have := HRN.out; omega) hs).mono fun e w' ⟨h1, m, h2⟩ => ⟨h1, by rw [h2]; exact (hV.drewN m).swap⟩
      by_cases hd : (rlst (sx s.data.toList) j).2.2 + 4 = s.size ∧ val (sx s.data.toList) (rlst (sx s.data.toList) j).2.2 = (rlst (sx s.data.toList) j).2.1.lo
      · have HW2 := HW.out _ HT.out.swap
        rw [show decide _ = true from decide_eq_true hd] at HW2
        have HW3 := Lib.hid HW2
        have HD := Lib.hid hd
        clear HW2 hd
        go_wp2_with (first
          | (go_at_call 32; refine HW3.out.mono ?_; rintro e w3 ⟨rfl, h3⟩; have hcv := HSL.out _ h3))
        go_ret2
        unfold dec
        rw [if_pos HD.out]
        exact ⟨rfl, h3.below⟩
      · have HW2 := HW.out _ HT.out.swap
        rw [show decide _ = false from decide_eq_false hd] at HW2
        have HW3 := Lib.hid HW2
        have HD := Lib.hid hd
        clear HW2 hd
        go_wp2_with (first
          | (go_at_call 32; refine HW3.out.mono ?_; rintro e w3 ⟨rfl, h3⟩))
        go_ret2
        unfold dec
        rw [if_neg HD.out]
        exact ⟨rfl, h3.below⟩
end Go.Proofs.Ytbfnahclkajahaa.C
