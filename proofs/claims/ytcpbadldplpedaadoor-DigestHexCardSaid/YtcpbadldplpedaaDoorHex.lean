/-
  digest.Valid, Hex, hexValue, Parse.
-/
import Derived.Test.YtcpbadldplpedaaDoorLib
import Derived.Test.YtcpbadldplpedaaDoorHexL
import Derived.ChangeAlike
import Derived.RegionTactic
import Derived.Deep.QuietTactic
import Derived.BigQuiet
import Derived.Outline
namespace Go.Proofs.YtcpbadldplpedaaDoor
open Go.RowKit

theorem valid_yes (d : ByteArray) (w : World) (h : d.size = 32) : Calls Tryd.prog 26 #[.string d] w fun e w' => e = .returned (.bool true) ∧ w = w' := by
  go_enter Tryd.func26, Tryd.ntmps26
  go_wp2
  go_ret
  exact ⟨by simp, rfl⟩
theorem valid_no (d : ByteArray) (w : World) (h : d.size ≠ 32) : Calls Tryd.prog 26 #[.string d] w fun e w' => e = .returned (.bool false) ∧ w = w' := by
  have h1 : ((d.size : Int) == 32) = false := by simp; omega
  go_enter Tryd.func26, Tryd.ntmps26
  go_wp2
  go_ret
  exact ⟨rfl, rfl⟩

theorem index_nib (c : UInt8) : Lib.indexByte [48, 49, 50, 51, 52, 53, 54, 55, 56, 57, 97, 98, 99, 100, 101, 102] c = Sha.nib c := by
  have : ∀ k : Fin 256, Lib.indexByte [48, 49, 50, 51, 52, 53, 54, 55, 56, 57, 97, 98, 99, 100, 101, 102] (UInt8.ofNat k.val) = Sha.nib (UInt8.ofNat k.val) := by decide +kernel
  have h := this ⟨c.toNat, c.toNat_lt⟩
  simpa using h
theorem value_any (c : UInt8) (w : World) : Calls Tryd.prog 38 #[.int .u8 (c.toNat : Int)] w fun e w' => e = .returned (.int .i64 (Sha.nib c)) ∧ w = w' := by
  have HI := Lib.hid (index_nib c)
  have HX : Hid (∀ w, Calls Tryd.prog 45 #[.string ⟨#[48, 49, 50, 51, 52, 53, 54, 55, 56, 57, 97, 98, 99, 100, 101, 102]⟩, .int .u8 (c.toNat : Int)] w fun e w' => e = .returned (.int .i64 (Sha.nib c)) ∧ w = w') := fun w => by
    have := index_any ⟨#[48, 49, 50, 51, 52, 53, 54, 55, 56, 57, 97, 98, 99, 100, 101, 102]⟩ c w
    rw [show (ByteArray.mk #[48, 49, 50, 51, 52, 53, 54, 55, 56, 57, 97, 98, 99, 100, 101, 102]).data.toList = [48, 49, 50, 51, 52, 53, 54, 55, 56, 57, 97, 98, 99, 100, 101, 102] from rfl, HI.out] at this
    exact this
  go_enter Tryd.func38, Tryd.ntmps38
  go_wp2_with (go_at_call 45; (with_reducible refine (HX.out _).mono ?_); rintro e w' ⟨rfl, rfl⟩)
  go_ret
  exact ⟨rfl, rfl⟩

/-- the bytes p at the head of an array of n -/
def rowN (n : Nat) (p : List UInt8) : Array Value := (p.map bcell ++ List.replicate (n - p.length) (Value.int .u8 0)).toArray
theorem rowN_size {n : Nat} {p : List UInt8} (h : p.length ≤ n) : (rowN n p).size = n := by simp [rowN]; omega
theorem rowN_set {n : Nat} {p : List UInt8} (h : p.length < n) (b : UInt8) {v : Value} (hv : v = bcell b) : (rowN n p).setIfInBounds p.length v = rowN n (p ++ [b]) := by
  subst hv
  unfold rowN
  apply Array.ext'
  rw [Array.toList_setIfInBounds]
  have e : n - p.length = (n - (p.length + 1)) + 1 := by omega
  rw [e, List.replicate_succ]
  have e2 : (List.map bcell p ++ Value.int .u8 0 :: List.replicate (n - (p.length + 1)) (Value.int .u8 0)).set p.length (bcell b) = List.map bcell p ++ bcell b :: List.replicate (n - (p.length + 1)) (Value.int .u8 0) := by
    have := List.set_append_right (s := List.map bcell p) (t := Value.int .u8 0 :: List.replicate (n - (p.length + 1)) (Value.int .u8 0)) p.length (bcell b) (by simp)
    rw [this]; simp
  simp only [List.map_append, List.map_cons, List.map_nil, List.length_append, List.length_cons, List.length_nil, List.append_assoc, List.cons_append, List.nil_append]
  exact e2
theorem rowN_get {n : Nat} {p : List UInt8} (j : Nat) (h : j < p.length) : (rowN n p)[j]? = some (bcell p[j]) := by
  simp [rowN, List.getElem?_append_left, h]
theorem rowN_zero (n : Nat) : rowN n [] = Array.replicate n (.int .u8 0) := by
  apply Array.ext'; simp [rowN]

/-- the call's own array of type T -/
structure ArrMem (W : World) (T : TypeId) (n : Nat) (p : List UInt8) (w : World) : Prop where
  own : w.heap[W.heap.size]? = some (.cells (rowN n p) T (0, 0))
  below : Below W.heap.size W w
variable {W w : World} {T : TypeId} {n : Nat} {p : List UInt8}
theorem ArrMem.set (h : ArrMem W T n p w) (hp : p.length < n) (b : UInt8) {v : Value} (hv : v = bcell b) : ArrMem W T n (p ++ [b]) (w.setCell ⟨W.heap.size, p.length, none⟩ v) :=
  ⟨by rw [heap_setCell_same _ _ _ _ _ _ h.own, rowN_set hp b hv], h.below.setCell (Nat.le_refl _) _⟩
theorem ArrMem.put (h : ArrMem W T n p w) (i : Nat) (hi : i = p.length) (hp : i < n) (b : UInt8) {v : Value} (hv : v = bcell b) : ArrMem W T n (p ++ [b]) (w.setCell ⟨W.heap.size, i, none⟩ v) := by
  subst hi; exact h.set hp b hv
theorem ArrMem.drew (h : ArrMem W T n p w) : ArrMem W T n p w.drew := ⟨h.own, h.below.drew⟩
theorem ArrMem.drewN (h : ArrMem W T n p w) (k : Nat) : ArrMem W T n p (w.drewN k) := ⟨h.own, h.below.trans ⟨rfl, rfl, rfl, Nat.le_refl _, fun _ _ => rfl⟩⟩
theorem ArrMem.cell (h : ArrMem W T n p w) (hp : p.length ≤ n) (i : Nat) (hi : i < n) : ∃ v, w.cell? ⟨W.heap.size, i, none⟩ = some v := by
  rw [cell_of_row _ _ _ _ _ _ h.own]; exact ⟨_, Array.getElem?_eq_getElem (by rw [rowN_size hp]; exact hi)⟩
theorem ArrMem.free (h : ArrMem W T n p w) (i : Nat) : w.frozen? ⟨W.heap.size, i, none⟩ = false := frozen_of_row _ _ _ _ _ h.own
theorem ArrMem.conv (h : ArrMem W T n p w) (k c : Nat) (hk : k = p.length) (D : TypeId) (hD : Tryd.prog.underlying D = some .string) : (convert 45 D (.slice (some ⟨W.heap.size, 0, none⟩) k c)).run Tryd.prog w = .ok (.string (str p)) w := by
  subst hk
  refine run_convert_bytes_back w _ _ _ ⟨W.heap.size, 0, none⟩ c p Tryd.underlying45 Tryd.underlying5 hD fun j hj => ?_
  have hadd : (⟨W.heap.size, 0, none⟩ : Addr).add j = ⟨W.heap.size, j, none⟩ := by unfold Addr.add; split <;> simp_all
  rw [hadd, cell_of_row _ _ _ _ _ _ h.own, rowN_get j hj]; rfl

theorem zero64b (w : World) : (zeroValue 73).run Tryd.prog w = .ok (.agg (Array.replicate 64 (.int .u8 0))) w := by kernel_rfl
theorem zero32b (w : World) : (zeroValue 71).run Tryd.prog w = .ok (.agg (Array.replicate 32 (.int .u8 0))) w := by kernel_rfl

theorem byt_at (s : ByteArray) (j : Nat) (hj : j < s.size) : s[j].toNat = Sha.byt s.data.toList j := by
  unfold Sha.byt
  rw [List.getD_eq_getElem?_getD, List.getElem?_eq_getElem (by rw [lenS]; exact hj)]
  show s.data[j].toNat = _
  rw [← Array.getElem_toList]; rfl
theorem idx_byt {b : ByteArray} (T : TypeId) (hT : Tryd.prog.underlying T = some .string) (o : Nat) (ho : o < b.size) (i : Int) (hi : i = o) (w : World) : (Instr.index T (.string b) (.int .i64 i)).run Tryd.prog w = .ok (.int .u8 (Sha.byt b.data.toList o : Nat)) w := by
  subst hi
  rw [run_index_string w _ b .i64 _ hT, dif_pos (by omega)]
  rw [← byt_at b o ho]; rfl
theorem digits_at (m : Nat) (hm : m < 16) (w : World) : (Instr.index 9 (.string ⟨#[48, 49, 50, 51, 52, 53, 54, 55, 56, 57, 97, 98, 99, 100, 101, 102]⟩) (.int .u8 (m : Int))).run Tryd.prog w = .ok (.int .u8 ((Sha.dig m).toNat : Int)) w := by
  rw [run_index_string w _ _ .u8 _ Tryd.underlying9, dif_pos ⟨by omega, by rw [show ByteArray.size ⟨#[48, 49, 50, 51, 52, 53, 54, 55, 56, 57, 97, 98, 99, 100, 101, 102]⟩ = 16 from rfl]; omega⟩]
  have : ∀ k : Fin 16, ((⟨#[48, 49, 50, 51, 52, 53, 54, 55, 56, 57, 97, 98, 99, 100, 101, 102]⟩ : ByteArray)[k.val]'(by exact k.isLt)).toNat = (Sha.dig k.val).toNat := by decide
  have h := this ⟨m, hm⟩
  rw [← h]; rfl
theorem hex_no (d : ByteArray) (w : World) (h : d.size ≠ 32) : Calls Tryd.prog 24 #[.string d] w fun e w' => e = .returned (.string (str (Sha.hexL d.data.toList))) ∧ Below w.heap.size w w' := by
  have HV := Lib.hid h; clear h
  go_enter Tryd.func24, Tryd.ntmps24
  go_wp2_with (go_at_call 26; (with_reducible refine (valid_no _ _ HV.out).mono ?_); rintro e w' ⟨rfl, rfl⟩)
  go_ret
  exact ⟨ret_str (by unfold Sha.hexL; rw [if_neg (by rw [lenS]; exact HV.out)]; rfl), Below.refl _ _⟩

set_option maxHeartbeats 1000000 in
set_option maxRecDepth 100000 in
theorem hex_yes (d : ByteArray) (w : World) (h : d.size = 32) : Calls Tryd.prog 24 #[.string d] w fun e w' => e = .returned (.string (str (Sha.hexL d.data.toList))) ∧ Below w.heap.size w w' := by
  have HV := Lib.hid h; clear h
  have hz := zero64b
  go_enter Tryd.func24, Tryd.ntmps24
  go_wp2_with (go_at_call 26; (with_reducible refine (valid_yes _ _ HV.out).mono ?_); rintro e w' ⟨rfl, rfl⟩)
  have HM0 : Hid (ArrMem w 73 64 [] (w.alloc (.cells (Array.replicate 64 (.int .u8 0)) 73))) := ⟨by rw [rowN_zero]; exact heap_alloc_new _ _, (Below.refl _ _).alloc (Nat.le_refl _) _⟩
  clear hz
  go_loopw [8, 4] (fun i _ wr => ∃ k : Nat, k ≤ 32 ∧ i = .int .i64 k ∧ Hid (ArrMem w 73 64 (Sha.hexTo d.data.toList k) wr)) (fun i _ _ => 32 - (intOf i).toNat)
  case atStart => exact ⟨0, by omega, rfl, HM0⟩
  case round =>
    clear HM0
    obtain ⟨k, hk, rfl, HM⟩ := hrel
    have hlen := Sha.hexTo_len d.data.toList k
    by_cases hlt : k < 32
    · have ix := fun w => idx_byt (b := d) 24 Tryd.underlying24 k (by rw [HV.out]; exact hlt) (k : Int) rfl w
      have hb := Sha.byt_lt d.data.toList k
      have HT : Hid (Sha.hexTo d.data.toList (k + 1) = Sha.hexTo d.data.toList k ++ [Sha.dig (Sha.byt d.data.toList k / 16)] ++ [Sha.dig (Sha.byt d.data.toList k % 16)]) := by unfold Hid; rw [List.append_assoc]; rfl
      generalize Sha.byt d.data.toList k = b at ix hb HT
      have i1 : ∀ w, (Instr.index 9 (.string ⟨#[48, 49, 50, 51, 52, 53, 54, 55, 56, 57, 97, 98, 99, 100, 101, 102]⟩) (.int .u8 ((b : Int) / 16))).run Tryd.prog w = .ok (.int .u8 ((Sha.dig (b / 16)).toNat : Int)) w := fun w => digits_at (b / 16) (by omega) w
      have i2 : ∀ w, (Instr.index 9 (.string ⟨#[48, 49, 50, 51, 52, 53, 54, 55, 56, 57, 97, 98, 99, 100, 101, 102]⟩) (.int .u8 ((b : Int) % 16))).run Tryd.prog w = .ok (.int .u8 ((Sha.dig (b % 16)).toNat : Int)) w := fun w => digits_at (b % 16) (by omega) w
      generalize Sha.dig (b / 16) = x at i1 HT
      generalize Sha.dig (b % 16) = y at i2 HT
      obtain ⟨v0, c0⟩ := HM.out.cell (by omega) (2 * k) (by omega)
      obtain ⟨v1, c1⟩ := HM.out.cell (by omega) (2 * k + 1) (by omega)
      have f0 := HM.out.free (2 * k)
      have f1 := HM.out.free (2 * k + 1)
      go_wp2
      go_roundw
      case rel =>
        refine ⟨k + 1, by omega, by go_num, ?_⟩
        rw [HT.out]
        exact (HM.out.put (2 * k) hlen.symm (by omega) x rfl).put (2 * k + 1) (by simp; omega) (by omega) y rfl
      case measure => simp [intOf]; omega
    · obtain rfl : k = 32 := by omega
      have hcv := HM.out.conv 64 64 (by rw [hlen]) 9 Tryd.underlying9
      go_wp2
      go_ret
      exact ⟨ret_str (by unfold Sha.hexL; rw [if_pos (by rw [lenS]; exact HV.out)]), HM.out.below⟩

theorem hex_any (d : ByteArray) (w : World) : Calls Tryd.prog 24 #[.string d] w fun e w' => e = .returned (.string (str (Sha.hexL d.data.toList))) ∧ Below w.heap.size w w' := by
  by_cases h : d.size = 32
  · exact hex_yes d w h
  · exact hex_no d w h

theorem value_is {c : UInt8} {x : Int} (h : Sha.nib c = x) (w : World) : Calls Tryd.prog 38 #[.int .u8 (c.toNat : Int)] w fun e w' => e = .returned (.int .i64 x) ∧ w = w' := h ▸ value_any c w
theorem nib_or {x y : Nat} (hx : x < 16) (hy : y < 16) : bits BinOp.or IntKind.i64 ((x : Int) * 16) (y : Int) = ((16 * x + y : Nat) : Int) := by
  have : ∀ a b : Fin 16, bits BinOp.or IntKind.i64 ((a.val : Int) * 16) (b.val : Int) = ((16 * a.val + b.val : Nat) : Int) := by decide +kernel
  exact this ⟨x, hx⟩ ⟨y, hy⟩
theorem nib_cases (c d : UInt8) : (Sha.nib c < 0 ∨ Sha.nib d < 0) ∨ (∃ x y : Nat, Sha.nib c = x ∧ Sha.nib d = y ∧ x < 16 ∧ y < 16 ∧ Sha.byteOf c d = UInt8.ofNat (16 * x + y)) := by
  have h1 := Sha.nib_bd c
  have h2 := Sha.nib_bd d
  by_cases h : Sha.nib c < 0 ∨ Sha.nib d < 0
  · exact Or.inl h
  · exact Or.inr ⟨(Sha.nib c).toNat, (Sha.nib d).toNat, by omega, by omega, by omega, by omega, rfl⟩

set_option maxHeartbeats 1000000 in
set_option maxRecDepth 100000 in
theorem parse_any (s : ByteArray) (w : World) : Calls Tryd.prog 22 #[.string s] w fun e w' => e = .returned (.tuple #[.string (str (Sha.parD s.data.toList)), .int .i64 (Sha.parE s.data.toList)]) ∧ Below w.heap.size w w' := by
  have hz := zero32b
  by_cases h : s.size = 64
  · have HV := Lib.hid h
    have h0 : s.size ≤ 64 := by omega
    clear h
    go_enter Tryd.func22, Tryd.ntmps22
    have hne : ((s.size : Int) != 64) = false := by rw [HV.out]; rfl
    go_wp2
    have HM0 : Hid (ArrMem w 71 32 [] (w.alloc (.cells (Array.replicate 32 (.int .u8 0)) 71))) := ⟨by rw [rowN_zero]; exact heap_alloc_new _ _, (Below.refl _ _).alloc (Nat.le_refl _) _⟩
    clear hz hne
    go_loopw [11, 5, 6, 7] (fun i _ _ _ wr => ∃ (k : Nat) (p : List UInt8), k ≤ 32 ∧ i = .int .i64 k ∧ Hid (Sha.parTo s.data.toList k = some p) ∧ Hid (ArrMem w 71 32 p wr)) (fun i _ _ _ _ => 32 - (intOf i).toNat)
    case atStart => exact ⟨0, [], by omega, rfl, rfl, HM0⟩
    case round =>
      clear HM0
      obtain ⟨k, p, hk, rfl, HP, HM⟩ := hrel
      have hlen := Sha.parTo_len HP.out
      by_cases hlt : k < 32
      · have i0 : ∀ w, (Instr.index 9 (.string s) (.int .i64 (2 * (k : Int)))).run Tryd.prog w = .ok (.int .u8 ((s.data.toList.getD (2 * k) 0).toNat : Int)) w := fun w => idx_byt (b := s) 9 Tryd.underlying9 (2 * k) (by rw [HV.out]; omega) _ (by omega) w
        have i1 : ∀ w, (Instr.index 9 (.string s) (.int .i64 (2 * (k : Int) + 1))).run Tryd.prog w = .ok (.int .u8 ((s.data.toList.getD (2 * k + 1) 0).toNat : Int)) w := fun w => idx_byt (b := s) 9 Tryd.underlying9 (2 * k + 1) (by rw [HV.out]; omega) _ (by omega) w
        have HS : Hid (Sha.parTo s.data.toList (k + 1) = if Sha.nib (s.data.toList.getD (2 * k) 0) < 0 ∨ Sha.nib (s.data.toList.getD (2 * k + 1) 0) < 0 then none else some (p ++ [Sha.byteOf (s.data.toList.getD (2 * k) 0) (s.data.toList.getD (2 * k + 1) 0)])) := by
          unfold Hid; rw [Sha.parTo, HP.out]; rfl
        have HL : Hid (Sha.parTo s.data.toList (k + 1) = none → Sha.parL s.data.toList = none) := fun h => by
          unfold Sha.parL; rw [if_pos (by rw [lenS]; exact HV.out)]; exact Sha.parTo_none h (by omega)
        generalize s.data.toList.getD (2 * k) 0 = c at i0 HS
        generalize s.data.toList.getD (2 * k + 1) 0 = d at i1 HS
        obtain ⟨v0, c0⟩ := HM.out.cell (by omega) k hlt
        have f0 := HM.out.free k
        rcases nib_cases c d with hbad | ⟨x, y, hx, hy, hx16, hy16, hby⟩
        · have HB : Hid (Sha.parL s.data.toList = none) := HL.out (by rw [HS.out, if_pos hbad])
          have HV2 := Lib.hid (fun w => value_any c w)
          have HV3 := Lib.hid (fun w => value_any d w)
          clear HS HL
          generalize Sha.nib c = x at hbad HV2
          generalize Sha.nib d = y at hbad HV3
          go_upto_region 7 with fail
          have r0 : IntKind.i64.wrap (2 * (k : Int)) = 2 * (k : Int) := IntWalk.i64_in _ (by omega)
          have r1 : IntKind.i64.wrap (2 * (k : Int) + 1) = 2 * (k : Int) + 1 := IntWalk.i64_in _ (by omega)
          go_quiet ((first
            | (go_at_call 38; with_reducible exact quiet_same (HV2.out _))
            | (go_at_call 38; with_reducible exact quiet_same (HV3.out _))))
          clear r0 r1
          by_cases hx : x < 0
          · go_wp2
            go_ret2
            exact ⟨by unfold Sha.parD Sha.parE; rw [HB.out]; rfl, (HM.out.drewN _).below⟩
          · have hy : y < 0 := by omega
            have hx0 : decide (x < 0) = false := by simpa using hx
            go_wp2
            go_ret2
            exact ⟨by unfold Sha.parD Sha.parE; rw [HB.out]; rfl, (HM.out.drewN _).below⟩
        · have HS2 : Hid (Sha.parTo s.data.toList (k + 1) = some (p ++ [UInt8.ofNat (16 * x + y)])) := by unfold Hid; rw [HS.out, if_neg (by omega), hby]
          have HV2 := Lib.hid (fun w => value_is hx w)
          have HV3 := Lib.hid (fun w => value_is hy w)
          clear HS HL hby hx hy
          have HO := Lib.hid (nib_or hx16 hy16)
          go_upto_region 7 with fail
          have r0 : IntKind.i64.wrap (2 * (k : Int)) = 2 * (k : Int) := IntWalk.i64_in _ (by omega)
          have r1 : IntKind.i64.wrap (2 * (k : Int) + 1) = 2 * (k : Int) + 1 := IntWalk.i64_in _ (by omega)
          go_quiet ((first
            | (go_at_call 38; with_reducible exact quiet_same (HV2.out _))
            | (go_at_call 38; with_reducible exact quiet_same (HV3.out _))))
          clear r0 r1
          go_wp2
          go_roundw
          case rel =>
            refine ⟨k + 1, _, by omega, by go_num, HS2, (HM.out.drewN nq).put k hlen.symm (by omega) _ (val_int ?_)⟩
            rw [HO.out, nat_u8 (by omega)]; omega
          case measure => simp [intOf]; omega
      · obtain rfl : k = 32 := by omega
        have HD : Hid (Sha.parL s.data.toList = some p) := by unfold Hid Sha.parL; rw [if_pos (by rw [lenS]; exact HV.out)]; exact HP.out
        have hcv := HM.out.conv 32 32 hlen.symm 24 Tryd.underlying24
        go_wp2
        go_ret2
        exact ⟨by unfold Sha.parD Sha.parE; rw [HD.out]; rfl, HM.out.below⟩
  · have h1 : ((s.size : Int) != 64) = true := by simp; omega
    have HV := Lib.hid h
    clear h
    go_enter Tryd.func22, Tryd.ntmps22
    go_wp2
    go_ret2
    have e : Sha.parL s.data.toList = none := by unfold Sha.parL; rw [if_neg (by rw [lenS]; exact HV.out)]
    exact ⟨by unfold Sha.parD Sha.parE; rw [e]; rfl, Below.refl _ _⟩
end Go.Proofs.YtcpbadldplpedaaDoor
