/-
  The mean of four pixels (contract of tile's mean).
-/
import Derived.Test.YtligojllbnahcaaDoorTGet
import Derived.Test.YtligojllbnahcaaDoorMeanPix
namespace Go.Proofs.YtligojllbnahcaaDoor.T
open Go.RowKit Go.Shelf
variable {W w w' : World} {L : List (Nat × Obj)}

/-- the sums of the first k pixels -/
def ma (P : Nat → Px) : Nat → Int
  | 0 => 0
  | k + 1 => ma P k + cnt 1 * (P k).a
def mx (P : Nat → Px) : Nat → Int
  | 0 => 0
  | k + 1 => mx P k + cnt 1 * (P k).a * (P k).r
def my (P : Nat → Px) : Nat → Int
  | 0 => 0
  | k + 1 => my P k + cnt 1 * (P k).a * (P k).g
def mz (P : Nat → Px) : Nat → Int
  | 0 => 0
  | k + 1 => mz P k + cnt 1 * (P k).a * (P k).b
theorem cnt_one : cnt 1 = 1 := by decide
theorem mb_of (P : Nat → Px) (k : Nat) (hk : k ≤ 4) (hP : ∀ j, j < 4 → Pc (P j)) : Mb k (ma P k) (mx P k) (my P k) (mz P k) := by
  induction k with
  | zero => simp [Mb, ma, mx, my, mz]
  | succ k ih =>
    have h := hP k (by omega)
    have := (ih (by omega)).add (k := 1) (by omega) h.1 h.2.1 h.2.2.1 h.2.2.2
    rw [show (k : Int) + cnt 1 = ((k + 1 : Nat) : Int) by rw [cnt_one]; omega] at this
    exact this
/-- the mean of four pixels -/
def m4 (P : Nat → Px) : Px := mpx 4 (ma P 4) (mx P 4) (my P 4) (mz P 4)
theorem m4_congr {P Q : Nat → Px} (h : ∀ j, j < 4 → P j = Q j) : m4 P = m4 Q := by
  simp only [m4, ma, mx, my, mz, h 0 (by omega), h 1 (by omega), h 2 (by omega), h 3 (by omega)]
/-- four pixels in memory -/
abbrev po4 (P : Nat → Px) : Obj := .cells (fl 4 P).toArray 23
theorem load_px4 (b : Nat) (P : Nat → Px) (i : Nat) (hi : i < 4) (w : World) (h : w.heap[b]? = some (po4 P)) : (Instr.loadAt 23 (.pointer (some ⟨b, 4 * i, none⟩))).run Tryd.prog w = .ok (P i).v w :=
  run_loadAt_mid w b (4 * i) 23 (pl (P i)) _ (fun j v hv => by
    rw [cell_of_row w b (4 * i + j) _ _ (0, 0) h, ← hv, ← fl_get 4 P i j hi (by have := (List.getElem?_eq_some_iff.1 hv).1; simpa [pl_len] using this)]
    exact List.getElem?_toArray) Tryd.underlying23 rfl (by kernel_rfl)
set_option maxRecDepth 100000 in
theorem index_sl (b i : Nat) (hi : i < 4) (w : World) : (Instr.indexAt 81 (.slice (some ⟨b, 0, none⟩) 4 4) (.int .i64 i)).run Tryd.prog w = .ok (.pointer (some ⟨b, 4 * i, none⟩)) w := by
  have hs : (sizeOf 23).run Tryd.prog w = .ok 4 w := by kernel_rfl
  have h2 : 0 ≤ (i : Int) ∧ (i : Int) < (4 : Nat) := ⟨by omega, by omega⟩
  have ha : (⟨b, 0, none⟩ : Addr).add (i * 4) = ⟨b, 4 * i, none⟩ := by rw [Addr.add_mid, Nat.zero_add, Nat.mul_comm]
  simp only [Instr.indexAt, asIntOf, Instr.sureAddr, Sem.run_bind, Sem.run_pure, Result.andThen_ok, run_underlying Tryd.underlying81, hs, if_pos h2, Int.toNat_natCast, ha]
set_option maxRecDepth 100000 in
set_option maxHeartbeats 8000000 in
theorem mean_any (P : Nat → Px) (b : Nat) (w : World) (hP : ∀ j, j < 4 → Pc (P j)) (h : w.heap[b]? = some (po4 P)) :
    Calls Tryd.prog 32 #[.slice (some ⟨b, 0, none⟩) 4 4] w fun e w' => e = .returned (m4 P).v ∧ Below w.heap.size w w' := by
  obtain ⟨V2, hV2⟩ : ∃ V2, V2 = (w.alloc (pxo zp)).alloc (mo 0 0 0 0 0) := ⟨_, rfl⟩
  have hs := (((St.start w).more h).alloc (pxo zp)).alloc (mo 0 0 0 0 0)
  simp only [World.size_alloc] at hs
  rw [← hV2] at hs
  have hlb : b < w.heap.size := (Array.getElem?_eq_some_iff.1 h).1
  have HV := Lib.hid hV2
  have HP := Lib.hid hP
  have HLB := Lib.hid hlb
  have HS : Hid (St w [(w.heap.size + 1, mo (0 : Nat) (ma P 0) (mx P 0) (my P 0) (mz P 0)), (w.heap.size, pxo zp), (b, po4 P)] V2) := hs
  clear h hs hV2 hP hlb
  go_enter Tryd.func32, Tryd.ntmps32
  go_upto_region 2 with fail
  have e1 : (w.alloc (po 0 0 0 0)).alloc (mo 0 0 0 0 0) = V2 := HV.out.symm
  rw [e1]
  clear e1
  go_wp2
  go_loopw [8] (fun v8 wr => ∃ k : Nat, k ≤ 4 ∧ v8 = .int .i64 k ∧ Hid (St w [(w.heap.size + 1, mo k (ma P k) (mx P k) (my P k) (mz P k)), (w.heap.size, pxo zp), (b, po4 P)] wr)) (fun i _ => 4 - (intOf i).toNat)
  case atStart => exact ⟨0, by omega, rfl, HS.out⟩
  case round =>
    obtain ⟨k, hk, rfl, HT⟩ := hrel
    by_cases hlt : k < 4
    · have hix := index_sl b k hlt
      have HL := Lib.hid (load_px4 b P k hlt wr (HT.out.row (b := b) (o := po4 P) (by simp)))
      have h5 := HT.out.alloc (pxo zp)
      have HR := Lib.hid (h5.row (b := wr.heap.size) (o := pxo zp) (by simp))
      have h6 := St.rowset (ds := (pl (P k)).toArray) h5 HT.out.below.size (fun x hx => Nat.ne_of_lt (Array.getElem?_eq_some_iff.1 (HT.out.rows x hx)).1)
      have HS6 := Lib.hid h6
      have HL6 := Lib.hid (load_px0 wr.heap.size (P k) _ (h6.row (b := wr.heap.size) (o := pxo (P k)) (by simp)))
      have hpk := HP.out k hlt
      have HA := Lib.hid (add_any (W := w) (L := [(w.heap.size, pxo zp), (b, po4 P)]) (w.heap.size + 1) k (ma P k) (mx P k) (my P k) (mz P k) (P k).r (P k).g (P k).b (P k).a 1 _ (h6.sub (by intro x hx; exact List.mem_cons_of_mem _ hx)) (by omega) (by have := HLB.out; simp; omega) (mb_of P k hk HP.out) (by omega) hpk.1 hpk.2.1 hpk.2.2.1 hpk.2.2.2)
      clear h5 h6 hpk
      go_wp2_with (first
        | (refine wpList_load_of rfl 23 _ rfl _ HL.out ?_)
        | (refine wpList_load_of rfl 23 _ rfl _ HL6.out ?_)
        | (refine wpList_store_of rfl 23 _ _ rfl (store_px0 _ zp _ _ HR.out) ?_)
        | (go_at_call 44; (refine HA.out.mono ?_); rintro e W7 ⟨rfl, h7⟩; have H7 := Lib.hid h7; clear h7))
      go_roundw
      case rel => exact ⟨k + 1, by omega, by go_num, by rw [show ((k + 1 : Nat) : Int) = (k : Int) + cnt 1 by rw [cnt_one]; omega]; exact H7.out⟩
      case measure => simp [intOf]; omega
    · obtain rfl : k = 4 := by omega
      have HX := Lib.hid (St.call HT.out (pix_any (W := w) (L := [(w.heap.size, pxo zp), (b, po4 P)]) (w.heap.size + 1) (4 : Nat) (ma P 4) (mx P 4) (my P 4) (mz P 4) wr HT.out (mb_of P 4 (by omega) HP.out)))
      go_wp2_with (first
        | (go_at_call 45; (refine HX.out.mono ?_); rintro e W7 ⟨rfl, h7⟩; have HR := Lib.hid (h7.row (b := w.heap.size) (o := pxo zp) (by simp)); have HB := Lib.hid h7.below; clear h7)
        | (refine wpList_store_of rfl 23 _ _ rfl (store_px0 _ zp (m4 P) _ HR.out) ?_))
      exact bodyPost_ret (v := (m4 P).v) (results_cell_row rfl _ _ w.heap.size _ _ _ _ rfl (setRow_heap _ _ _ _ _ _ HR.out) Tryd.underlying23 rfl info_px) rfl ⟨rfl, Below.setRow HB.out (Nat.le_refl _) _⟩
end Go.Proofs.YtligojllbnahcaaDoor.T
