/-
  OctetBurst: if a string is changed only within four consecutive bytes, its checksum changes. No conditions.
-/
import Derived.Test.YtgalkcfcpkkjgaaLaw
import Derived.Test.YtgalkcfcpkkjgaaSane
import Derived.Test.YtgalkcfcpkkjgaaTab
import Derived.Laws.IdiomArrays
import Derived.Lib.SmallJoins
namespace Go.Proofs.Ytgalkcfcpkkjgaa.Burst
open Go.ChangeShapes Go.WideShapes Go.ChangeAt Go.RowKit
open Go.ChangeMaps (open_string shut_string)

/-- S, its bytes from k on combined with those of l by exclusive or -/
def mods (S : List UInt8) (k : Nat) (l : List UInt8) : List UInt8 := S.take k ++ List.zipWith (· ^^^ ·) (S.drop k) l ++ S.drop (k + l.length)

theorem mods_nil (S : List UInt8) (k : Nat) : mods S k [] = S := by simp [mods]
theorem mods_len {S : List UInt8} {k : Nat} {l : List UInt8} (h : k + l.length ≤ S.length) : (mods S k l).length = S.length := by
  simp [mods]; omega
theorem mods_at {S : List UInt8} {k : Nat} {l : List UInt8} (h : k + l.length < S.length) : (mods S k l)[k + l.length]? = S[k + l.length]? := by
  unfold mods
  rw [List.getElem?_append_right (by simp; omega)]
  simp
  congr 1; omega
theorem mods_set {S : List UInt8} {k : Nat} {l : List UInt8} (h : k + l.length < S.length) (b : UInt8) : (mods S k l).set (k + l.length) (S[k + l.length] ^^^ b) = mods S k (l ++ [b]) := by
  apply List.ext_getElem?
  intro i
  have hL : (mods S k l).length = S.length := mods_len (by omega)
  have key : ∀ (l' : List UInt8) (i : Nat), k + l'.length ≤ S.length → (mods S k l')[i]? = if i < k then S[i]? else if h : i - k < l'.length then (S[i]?).map (· ^^^ l'[i - k]) else S[i]? := by
    intro l' i hl'
    unfold mods
    by_cases h1 : i < k
    · rw [if_pos h1, List.append_assoc, List.getElem?_append_left (by simp; omega), List.getElem?_take_of_lt h1]
    · rw [if_neg h1]
      by_cases h2 : i - k < l'.length
      · rw [dif_pos h2, List.getElem?_append_left (by simp; omega), List.getElem?_append_right (by simp; omega)]
        have e1 : i - (List.take k S).length = i - k := by simp; omega
        rw [e1, List.getElem?_zipWith, List.getElem?_drop, show k + (i - k) = i from by omega, List.getElem?_eq_getElem h2]
        cases S[i]? <;> rfl
      · rw [dif_neg h2, List.getElem?_append_right (by simp; omega), List.getElem?_drop]
        congr 1; simp; omega
  rw [key (l ++ [b]) i (by simp; omega), List.getElem?_set]
  by_cases h1 : k + l.length = i
  · subst h1
    rw [if_pos rfl, if_pos (by rw [hL]; exact h), if_neg (by omega), dif_pos (by simp)]
    simp [List.getElem?_eq_getElem h, show k + l.length - k = l.length from by omega]
  · rw [if_neg h1, key l i (by omega)]
    by_cases h2 : i < k
    · rw [if_pos h2, if_pos h2]
    · rw [if_neg h2, if_neg h2]
      by_cases h3 : i - k < l.length
      · rw [dif_pos h3, dif_pos (by simp; omega), List.getElem_append_left h3]
      · rw [dif_neg h3, dif_neg (by simp; omega)]

theorem crc_inj {S T : List UInt8} (h : Crc.crc S = Crc.crc T) : Crc.crcFrom Crc.ones S = Crc.crcFrom Crc.ones T := by
  have h1 := Crc.crcFrom_lt (r := Crc.ones) (by decide) S
  have h2 := Crc.crcFrom_lt (r := Crc.ones) (by decide) T
  unfold Crc.crc at h
  have : Crc.ones = 4294967295 := rfl
  omega
theorem four {S : List UInt8} {k : Nat} (h : k + 4 ≤ S.length) : ∃ a b c d r, S.drop k = a :: b :: c :: d :: r := by
  match hS : S.drop k with
  | a :: b :: c :: d :: r => exact ⟨a, b, c, d, r, rfl⟩
  | [] | [_] | [_, _] | [_, _, _] => have := congrArg List.length hS; simp at this; omega
theorem burst {S : List UInt8} {k : Nat} (h : k + 4 ≤ S.length) (x y z t : UInt8) : Crc.crc S = Crc.crc (mods S k [x, y, z, t]) ↔ mods S k [x, y, z, t] = S := by
  obtain ⟨a, b, c, d, r, hd⟩ := four h
  have e1 : S = S.take k ++ a :: b :: c :: d :: r := by rw [← hd, List.take_append_drop]
  have e3 : S.drop (k + 4) = r := by rw [← List.drop_drop, hd]; rfl
  have e2 : mods S k [x, y, z, t] = S.take k ++ (a ^^^ x) :: (b ^^^ y) :: (c ^^^ z) :: (d ^^^ t) :: r := by
    unfold mods; rw [hd]; simp [e3]
  constructor
  · intro hc
    have h1 := crc_inj hc
    rw [e2] at h1
    have h2 : Crc.crcFrom Crc.ones (S.take k ++ a :: b :: c :: d :: r) = Crc.crcFrom Crc.ones (S.take k ++ (a ^^^ x) :: (b ^^^ y) :: (c ^^^ z) :: (d ^^^ t) :: r) := by rw [← e1]; exact h1
    rw [Crc.crcFrom_append, Crc.crcFrom_append] at h2
    obtain ⟨p1, p2, p3, p4⟩ := Crc.crc4_inj (Crc.crcFrom_lt (by decide) _) r h2
    rw [e2, ← p1, ← p2, ← p3, ← p4, ← e1]
  · intro hc; rw [hc]

/-- the array in block bb, the bytes T (of c room) in block g -/
structure BurMem (W : World) (bb g c : Nat) (x y z t : UInt8) (T : List UInt8) (w : World) : Prop where
  box : w.heap[bb]? = some (.cells #[bcell x, bcell y, bcell z, bcell t] 53 (0, 0))
  own : w.heap[g]? = some (.cells (bytesRow (str T) c) 5 ((bytesRow (str T) c).size, (bytesRow (str T) c).size + 1))
  ne : bb ≠ g
  at1 : W.heap.size ≤ bb
  at2 : W.heap.size ≤ g
  below : Below W.heap.size W w

theorem tmod_bd (n m : Int) (hm : 0 < m) : -m < n.tmod m ∧ n.tmod m < m := by
  refine ⟨?_, Int.tmod_lt_of_pos n hm⟩
  by_cases h : 0 ≤ n
  · have := Int.tmod_nonneg m h; omega
  · have h2 := Int.tmod_lt_of_pos (-n) hm
    rw [Int.neg_tmod] at h2; omega
theorem pick_at (n : Int) (z : Nat) (h4 : 4 ≤ z) (hz : z ≤ 140737488351232) : ∃ k : Nat, (wrap64 (wrap64 (n.tmod ((z : Int) - 3) + z) - 3)).tmod ((z : Int) - 3) = (k : Int) ∧ k + 4 ≤ z := by
  obtain ⟨h1, h2⟩ := tmod_bd n ((z : Int) - 3) (by omega)
  generalize n.tmod ((z : Int) - 3) = r at h1 h2
  rw [IntWalk.wrap64_in (r + z) ⟨by omega, by omega⟩, IntWalk.wrap64_in (r + z - 3) ⟨by omega, by omega⟩, Int.tmod_eq_emod_of_nonneg (by omega)]
  have h3 := Int.emod_nonneg (r + z - 3) (show (z : Int) - 3 ≠ 0 by omega)
  have h4 := Int.emod_lt_of_pos (r + z - 3) (show (0 : Int) < (z : Int) - 3 by omega)
  exact ⟨((r + z - 3) % ((z : Int) - 3)).toNat, by omega, by omega⟩

theorem BurMem.drew {W w : World} {bb g c : Nat} {x y z t : UInt8} {T : List UInt8} (h : BurMem W bb g c x y z t T w) : BurMem W bb g c x y z t T w.drew := ⟨h.box, h.own, h.ne, h.at1, h.at2, h.below.drew⟩
theorem BurMem.cell {W w : World} {bb g c : Nat} {x y z t : UInt8} {T : List UInt8} (h : BurMem W bb g c x y z t T w) (i : Nat) (hi : i < T.length) : w.cell? ⟨g, i, none⟩ = some (bcell T[i]) := by
  rw [cell_of_row _ _ _ _ _ _ h.own, bytesRow_at (str T) c i (by simpa [str] using hi)]; rfl
theorem row_size (T : List UInt8) (c : Nat) : T.length ≤ (bytesRow (str T) c).size := by simp [bytesRow, str]
theorem BurMem.free {W w : World} {bb g c : Nat} {x y z t : UInt8} {T : List UInt8} (h : BurMem W bb g c x y z t T w) (i : Nat) (hi : i < T.length) : w.frozen? ⟨g, i, none⟩ = false := by
  have := row_size T c
  simp only [World.frozen?, h.own]; simp; omega
theorem bytesRow_set (T : List UInt8) (c i : Nat) (hi : i < T.length) (b : UInt8) : (bytesRow (str T) c).setIfInBounds i (bcell b) = bytesRow (str (T.set i b)) c := by
  apply Array.ext'
  rw [Array.toList_setIfInBounds]
  simp only [bytesRow, str, Array.toList_append, Array.toList_map, Array.toList_replicate, ByteArray.size, List.size_toArray, List.length_set]
  have e : (fun b : UInt8 => Value.int .u8 (b.toNat : Int)) = bcell := rfl
  rw [List.set_append_left _ _ (by simpa using hi), e, ← List.map_set]
theorem heap_setCell_mark (w : World) (g i : Nat) (cs : Array Value) (t : TypeId) (fr : Nat × Nat) (v : Value) (hg : w.heap[g]? = some (.cells cs t fr)) :
    (w.setCell ⟨g, i, none⟩ v).heap[g]? = some (.cells (cs.setIfInBounds i v) t fr) := by
  rw [setCell_eq_setRow w g i cs t fr v hg]
  exact setRow_heap w g cs _ t _ hg
theorem BurMem.set {W w : World} {bb g c : Nat} {x y z t : UInt8} {T T' : List UInt8} (h : BurMem W bb g c x y z t T w) (i : Nat) (hi : i < T.length) (b : UInt8) {v : Value} (hv : v = bcell b) (hT : T.set i b = T') : BurMem W bb g c x y z t T' (w.setCell ⟨g, i, none⟩ v) := by
  subst hv hT
  have e : (bytesRow (str (T.set i b)) c).size = (bytesRow (str T) c).size := by rw [← bytesRow_set T c i hi b]; simp
  refine ⟨by rw [heap_setCell_other _ _ _ _ (by simpa using h.ne)]; exact h.box, ?_, h.ne, h.at1, h.at2, h.below.setCell h.at2 _⟩
  have := heap_setCell_mark w g i _ _ _ (bcell b) h.own
  rw [this, bytesRow_set T c i hi b, e]
theorem BurMem.later {W w w' : World} {bb g c : Nat} {x y z t : UInt8} {T : List UInt8} (h : BurMem W bb g c x y z t T w) (hb : Below w.heap.size w w') : BurMem W bb g c x y z t T w' :=
  ⟨by rw [hb.block bb (Array.getElem?_eq_some_iff.1 h.box).1]; exact h.box, by rw [hb.block g (Array.getElem?_eq_some_iff.1 h.own).1]; exact h.own, h.ne, h.at1, h.at2, h.below.trans (hb.mono h.below.size)⟩
theorem BurMem.call {P : Program} {f : FuncId} {args : Array Value} {v : Value} {W w : World} {bb g c : Nat} {x y z t : UInt8} {T : List UInt8} (h : BurMem W bb g c x y z t T w)
    (hc : Calls P f args w fun e w' => e = .returned v ∧ Below w.heap.size w w') : Calls P f args w fun e w' => e = .returned v ∧ BurMem W bb g c x y z t T w' :=
  hc.mono fun _ _ ⟨h1, h2⟩ => ⟨h1, h.later h2⟩
theorem BurMem.conv {W w : World} {bb g c : Nat} {x y z t : UInt8} {T : List UInt8} (h : BurMem W bb g c x y z t T w) (n cp : Nat) (hn : n = T.length) : (convert 49 9 (.slice (some ⟨g, 0, none⟩) n cp)).run Try.prog w = .ok (.string (str T)) w := by
  subst hn
  refine run_convert_bytes_back w _ _ _ ⟨g, 0, none⟩ cp T Try.underlying49 Try.underlying5 Try.underlying9 fun j hj => ?_
  have hadd : (⟨g, 0, none⟩ : Addr).add j = ⟨g, j, none⟩ := by unfold Addr.add; split <;> simp_all
  rw [hadd, h.cell j hj]; rfl

set_option maxHeartbeats 1000000 in
set_option maxRecDepth 100000 in
theorem walk (s : ByteArray) (n : Int) (x y z t : UInt8) (w : World) (hs : s.size ≤ 140737488351232) (h4 : 4 ≤ s.size) (_hn1 : -9223372036854775808 ≤ n) (_hn2 : n ≤ 9223372036854775807) :
    Calls Try.prog 11 #[.string s, .int .i64 n, .agg #[bcell x, bcell y, bcell z, bcell t]] w fun e w' => e = .returned (.bool true) ∧ Below w.heap.size w w' := by
  obtain ⟨k, hk, hk4⟩ := pick_at n s.size h4 hs
  have HA : Hid (Below w.heap.size w (w.alloc (Obj.cells #[bcell x, bcell y, bcell z, bcell t] 53)) ∧ (w.alloc (Obj.cells #[bcell x, bcell y, bcell z, bcell t] 53)).heap[w.heap.size]? = some (.cells #[bcell x, bcell y, bcell z, bcell t] 53 (0, 0))) :=
    ⟨(Below.refl _ _).alloc (Nat.le_refl _) _, heap_alloc_new _ _⟩
  go_enter Try.func11, Try.ntmps11
  go_wp2_with (first
    | (go_at_call 13; (with_reducible refine (sane_any _).mono ?_); rintro e w1 ⟨rfl, hb1⟩; have hcb := run_bytes_of_string w1 9 49 5 s Try.underlying9 Try.underlying49 Try.underlying5))
  have HM0 : Hid (BurMem w w.heap.size w1.heap.size (grownCap w1 s.size 0 5) x y z t (mods s.data.toList k ([x, y, z, t].take 0)) (w1.alloc (Obj.cells (bytesRow s (grownCap w1 s.size 0 5)) 5 ((bytesRow s (grownCap w1 s.size 0 5)).size, (bytesRow s (grownCap w1 s.size 0 5)).size + 1))).drew) := by
    have hb2 : Below w.heap.size w w1 := HA.out.1.trans (hb1.mono (by simp))
    have hsz : (w.alloc (Obj.cells #[bcell x, bcell y, bcell z, bcell t] 53)).heap.size = w.heap.size + 1 := by simp
    rw [hsz] at hb1
    have hle : w.heap.size + 1 ≤ w1.heap.size := by have := hb1.size; rw [hsz] at this; exact this
    have hbx := hb1.block w.heap.size (by omega)
    rw [HA.out.2] at hbx
    refine ⟨?_, ?_, by omega, Nat.le_refl _, hb2.size, (hb2.alloc hb2.size _).drew⟩
    · show (w1.alloc _).heap[_]? = _
      rw [Below.heap_alloc _ _ _ (by omega)]; exact hbx
    · rw [List.take_zero, mods_nil, toList_str]; exact heap_alloc_new _ _
  clear hcb hb1 HA hk
  generalize (w1.alloc (Obj.cells (bytesRow s (grownCap w1 s.size 0 5)) 5 ((bytesRow s (grownCap w1 s.size 0 5)).size, (bytesRow s (grownCap w1 s.size 0 5)).size + 1))).drew = w2 at HM0 ⊢
  generalize grownCap w1 s.size 0 5 = c at HM0 ⊢
  generalize w1.heap.size = g at HM0 ⊢
  generalize hbb : w.heap.size = bb at HM0 ⊢
  have HBB := Lib.hid hbb; clear hbb
  have hlen : s.data.toList.length = s.size := Array.length_toList
  go_loopw [10] (fun i wr => ∃ j : Nat, j ≤ 4 ∧ i = .int .i64 j ∧ Hid (BurMem w bb g c x y z t (mods s.data.toList k ([x, y, z, t].take j)) wr)) (fun i _ => 4 - (intOf i).toNat)
  case atStart => exact ⟨0, by omega, rfl, HM0⟩
  case round =>
    obtain ⟨j, hj, rfl, HM⟩ := hrel
    clear HM0
    by_cases hlt : j < 4
    · have hlj : ([x, y, z, t].take j).length = j := by simp; omega
      have HLJ := Lib.hid hlj; clear hlj
      have hkj : k + j < s.data.toList.length := by rw [hlen]; omega
      have hcx : wr.cell? ⟨g, k + j, none⟩ = some (.int .u8 ((s.data.toList[k + j]).toNat : Int)) := by
        have h1 := HM.out.cell (k + j) (by rw [mods_len (by rw [HLJ.out]; omega)]; exact hkj)
        have h2 := mods_at (S := s.data.toList) (k := k) (l := [x, y, z, t].take j) (by rw [HLJ.out]; exact hkj)
        rw [HLJ.out, List.getElem?_eq_getElem hkj] at h2
        have h3 := (List.getElem?_eq_some_iff.1 h2).2
        rw [h1, h3]; rfl
      have hfx := HM.out.free (k + j) (by rw [mods_len (by rw [HLJ.out]; omega)]; exact hkj)
      obtain ⟨b, hbv, hcb, hnext⟩ : ∃ b : UInt8, wr.cell? ⟨bb, j, none⟩ = some (.int .u8 (b.toNat : Int)) ∧ True ∧ [x, y, z, t].take (j + 1) = [x, y, z, t].take j ++ [b] := by
        rw [cell_of_row _ _ _ _ _ _ HM.out.box]
        match j, hlt with
        | 0, _ => exact ⟨x, rfl, trivial, rfl⟩
        | 1, _ => exact ⟨y, rfl, trivial, rfl⟩
        | 2, _ => exact ⟨z, rfl, trivial, rfl⟩
        | 3, _ => exact ⟨t, rfl, trivial, rfl⟩
      have HN := Lib.hid hnext; clear hnext hcb
      have hx : bits BinOp.xor IntKind.u8 ((s.data.toList[k + j]).toNat : Int) (b.toNat : Int) = ((s.data.toList[k + j] ^^^ b).toNat : Int) := by
        rw [u8_xor_nat _ _ (Leb.u8lt _) (Leb.u8lt _), ← UInt8.toNat_xor]
      have HX := Lib.hid hx; clear hx
      have j0 : (0 : Int) ≤ j := by omega
      have j4 : (j : Int) < 4 := by omega
      have hw : IntKind.i64.wrap ((k : Int) + j) = (k : Int) + j := IntWalk.i64_in _ ⟨by omega, by omega⟩
      have kj0 : (0 : Int) ≤ (k : Int) + j := by omega
      have kj1 : (k : Int) + j < s.size := by omega
      have HLEN := Lib.hid hlen; clear hlen
      go_wp2
      go_region
      all_goals go_wp2
      all_goals go_roundw
      case rel =>
        refine ⟨j + 1, by omega, by go_num, ?_⟩
        rw [HN.out]
        refine HM.out.drew.set (k + j) (by rw [mods_len (by rw [HLJ.out]; omega)]; exact hkj) _ (val_int HX.out) ?_
        have := mods_set (S := s.data.toList) (k := k) (l := [x, y, z, t].take j) (by rw [HLJ.out]; exact hkj) b
        simp only [HLJ.out] at this
        exact this
      case measure => simp [intOf]; omega
    · obtain rfl : j = 4 := by omega
      have hT : (mods s.data.toList k [x, y, z, t]).length = s.size := by rw [mods_len (by rw [hlen]; exact hk4), hlen]
      have hcv : ∀ W, BurMem w bb g c x y z t (mods s.data.toList k [x, y, z, t]) W → (convert 49 9 (.slice (some ⟨g, 0, none⟩) s.size c)).run Try.prog W = .ok (.string (str (mods s.data.toList k [x, y, z, t]))) W := fun W h => h.conv s.size c hT.symm
      have HBU := Lib.hid (burst (S := s.data.toList) (k := k) (by rw [hlen]; exact hk4) x y z t)
      have H1 : Hid (s.size ≤ maxLen) := by unfold Hid maxLen; omega
      have H2 : Hid ((str (mods s.data.toList k [x, y, z, t])).size ≤ maxLen) := by unfold Hid maxLen; rw [str_size, hT]; omega
      have hm : BurMem w bb g c x y z t (mods s.data.toList k [x, y, z, t]) wr := HM.out
      clear HM hT hlen
      generalize mods s.data.toList k [x, y, z, t] = T at hcv HBU H2 hm
      go_wp2_with fail
      go_region_held3 (fun w' => BurMem w bb g c x y z t T w') (repeat (first | assumption | apply BurMem.drew)) (first
        | (go_at_call 20; (with_reducible refine (BurMem.call (W := w) (bb := bb) (g := g) (c := c) (x := x) (y := y) (z := z) (t := t) (T := T) ?_ (sum_any _ _ H1.out)).mono ?_); (focus (repeat (first | assumption | apply BurMem.drew))); rintro e w' ⟨rfl, hm'⟩)
        | (go_at_call 20; (with_reducible refine (BurMem.call (W := w) (bb := bb) (g := g) (c := c) (x := x) (y := y) (z := z) (t := t) (T := T) ?_ (sum_any _ _ H2.out)).mono ?_); (focus (repeat (first | assumption | apply BurMem.drew))); rintro e w' ⟨rfl, hm'⟩))
      go_wp2
      go_ret
      refine ⟨congrArg (fun x => Ending.returned (.bool x)) ?_, hm'.below⟩
      rw [str_toList, ByteArray.toList_eq, ByteArray.toList_eq, str_toList, Bool.eq_iff_iff]
      simp only [beq_iff_eq, iff_true]
      rw [Bool.eq_iff_iff]
      simp only [beq_iff_eq]
      rw [← HBU.out]
      constructor
      · intro h; omega
      · intro h; rw [h]

set_option maxHeartbeats 400000 in
theorem walk0 (s : ByteArray) (n : Int) (x y z t : UInt8) (w : World) (h4 : s.size < 4) :
    Calls Try.prog 11 #[.string s, .int .i64 n, .agg #[bcell x, bcell y, bcell z, bcell t]] w fun e w' => e = .returned (.bool true) ∧ Below w.heap.size w w' := by
  have HA : Hid (Below w.heap.size w (w.alloc (Obj.cells #[bcell x, bcell y, bcell z, bcell t] 53))) := (Below.refl _ _).alloc (Nat.le_refl _) _
  go_enter Try.func11, Try.ntmps11
  go_wp2_with (go_at_call 13; (with_reducible refine (sane_any _).mono ?_); rintro e w1 ⟨rfl, hb1⟩)
  go_ret
  exact ⟨rfl, HA.out.trans (hb1.mono HA.out.size)⟩

theorem open4 {H : Type} {enc : TypeId × Value → H} {W : World} {base b0 : Nat} {r : Reach} {spare : Nat → Bool} {held : Bool} {v : Value} {d : DataW H} {p : List MemPlace}
    (hv : Value.okWide Try.prog W r b0 53 v) (h : DataW.Trod enc Try.prog W base spare held 53 v d p) : ∃ x y z t : UInt8, v = .agg #[bcell x, bcell y, bcell z, bcell t] := by
  have hcs : Try.prog.cellsOf 53 = 4 := by kernel_rfl
  have hce : Try.prog.cellsOf 5 = 1 := by kernel_rfl
  simp only [Value.okWide, Try.underlying53] at hv
  obtain ⟨cs, rfl, hsz, _⟩ := hv
  obtain ⟨c0, c1, c2, c3, rfl⟩ := Go.Joins.array4 (hsz.trans hcs)
  obtain ⟨fuel, hf⟩ := h
  obtain ⟨y0, y1, y2, y3, m, _, e0, e1, e2, e3⟩ := trod_array4 Try.underlying53 hce hf
  have key : ∀ {c : Value} {y : DataW H × List MemPlace}, DataW.trod enc Try.prog W base spare held m 5 [c] = some y → ∃ b : UInt8, c = bcell b := by
    intro c y hc
    obtain ⟨n, h1, _, hw⟩ := DataW.trod_int Try.underlying5 hc
    have hn : 0 ≤ n ∧ n ≤ 255 := by simpa [Lit.wf, IntKind.min, IntKind.max, IntKind.signed, IntKind.bits] using hw
    refine ⟨UInt8.ofNat n.toNat, ?_⟩
    have : c = .int .u8 n := by simpa using h1
    rw [this]; unfold bcell; rw [Leb.nat_u8 (by omega)]; congr 1; omega
  obtain ⟨x, rfl⟩ := key e0
  obtain ⟨y, rfl⟩ := key e1
  obtain ⟨z, rfl⟩ := key e2
  obtain ⟨t, rfl⟩ := key e3
  exact ⟨x, y, z, t, rfl⟩

set_option maxRecDepth 100000 in
theorem lifted (os : Os) (started : os.Started) (H : Type) (enc : TypeId × Value → H) :
    ReturnsInHanded {} Try.checked os 11 .any (Rows.octetBurstSpec.pre6 enc Try.prog Try.f11 Rows.octetBurstRow.domain false) (Rows.octetBurstSpec.post enc Try.prog Try.f11 false true false false) := by
  refine returnsInHanded_of_change_sized (C := Try.checked) own started (by kernel_rfl) Try.func11
    (ChangeSpec.witness6 (enc := enc) (C := Try.checked) false ⟨#[], #[.string ByteArray.empty, .int .i64 0, .agg #[.int .u8 0, .int .u8 0, .int .u8 0, .int .u8 0]], []⟩ 8 (by kernel_rfl) (by kernel_rfl) (by kernel_rfl) (by kernel_rfl)) ?_
  intro W base args ds gs before hval0 hW _ hsz0 _
  have hval : ∀ (j : Nat) t v, Try.f11.params[j]? = some t → args[j]? = some v → Value.okWide Try.prog W .any base t v := hval0
  have hsz : (DataW.weightsEach Try.prog (Try.f11.params.toList ++ Rows.octetBurstSpec.plain.varTypes Try.prog) (ds ++ gs)).all (· ≤ reachBytes) = true := hsz0
  have hW' := hW
  obtain ⟨p, q, hA0, hV, rfl, hfz, hnd⟩ := hW
  have hA : DataW.TrodAll enc Try.prog W 0 (fun _ => true) true Try.f11.params.toList args.toList ds p := hA0
  rw [Try.params11] at hA hval hsz
  obtain ⟨v0, v1, v2, d0, d1, d2, p0, p1, p2, rfl, rfl, rfl, h0, h1, h2⟩ := trodAll_three hA
  obtain ⟨rfl, rfl⟩ := trodVars_none hV
  obtain ⟨s, rfl, rfl, rfl, ws⟩ := open_string Try.underlying9 (hval 0 9 v0 rfl rfl) h0
  obtain ⟨n, rfl, rfl, rfl, wn⟩ := open_int Try.underlying3 (hval 1 3 v1 rfl rfl) h1
  obtain ⟨x, y, z, t, rfl⟩ := open4 (hval 2 53 v2 rfl rfl) h2
  have hn : -9223372036854775808 ≤ n ∧ n ≤ 9223372036854775807 := by simpa [Lit.wf, IntKind.min, IntKind.max, IntKind.signed, IntKind.bits] using wn
  have hss : s.data.toList.length ≤ reachBytes := sized_string hsz (j := 0) (t := 9) rfl rfl
  rw [Array.length_toList] at hss
  have hwalk : Calls Try.prog 11 #[.string s, .int .i64 n, .agg #[bcell x, bcell y, bcell z, bcell t]] W fun e w' => e = .returned (.bool true) ∧ Below W.heap.size W w' := by
    by_cases h4 : 4 ≤ s.size
    · exact walk s n x y z t W hss h4 hn.1 hn.2
    · exact walk0 s n x y z t W (by omega)
  refine hwalk.mono fun e W' ⟨he, hb⟩ => ?_
  subst he
  exact ⟨_, rfl, law_post hW' rfl (by kernel_rfl) rfl (by intro t ht; rw [Try.params11] at ht; simp at ht; rcases ht with rfl | rfl | rfl <;> exact ⟨by kernel_rfl, of_decide_eq_true (by kernel_rfl)⟩) hb⟩

theorem holds : Rows.OctetBurstSaid :=
  OpenClaim.holds_of_wide 11 Try.f11 rfl rfl rfl rfl rfl rfl rfl ⟨rfl, rfl, rfl, rfl, rfl⟩ rfl rfl rfl rfl rfl (by kernel_rfl) Try.func11 (by kernel_rfl)
    (of_decide_eq_true (by kernel_rfl)) (by unfold Func.isWrapper; first | (rw [if_pos (by decide +kernel)]; kernel_rfl) | (rw [if_neg (by decide +kernel)]; exact ⟨rfl, rfl⟩))
    (fun os started H enc _ => lifted os started H enc)
end Go.Proofs.Ytgalkcfcpkkjgaa.Burst
