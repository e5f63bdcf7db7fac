/-
  The statements' helpers some, list and valid.
-/
import Derived.Test.YtcpbadldplpedaaDoorJoin
import Derived.Test.YtcpbadldplpedaaDoorOwn
import Derived.Test.YtcpbadldplpedaaDoorHexL
namespace Go.Proofs.YtcpbadldplpedaaDoor
open Go.RowKit
variable {W w w' : World}

theorem i64_mask (k : Nat) (hk : k ≤ 62) (n : Int) : bits .and .i64 n ((2 ^ k - 1 : Nat) : Int) = n % ((2 ^ k : Nat) : Int) := by
  have hp : 2 ^ k ≤ 2 ^ 62 := Nat.pow_le_pow_right (by omega) hk
  have hp0 := Nat.two_pow_pos k
  have hm : (BitVec.ofInt 64 ((2 ^ k - 1 : Nat) : Int)).toNat = 2 ^ k - 1 := by
    rw [BitVec.ofInt_natCast, BitVec.toNat_ofNat]; exact Nat.mod_eq_of_lt (by omega)
  have key : (BitVec.ofInt 64 n &&& BitVec.ofInt 64 ((2 ^ k - 1 : Nat) : Int)).toNat = (n % ((2 ^ 64 : Nat) : Int)).toNat % 2 ^ k := by
    rw [BitVec.toNat_and, BitVec.toNat_ofInt, hm, Nat.and_two_pow_sub_one_eq_mod]
  have hn : (((n % ((2 ^ 64 : Nat) : Int)).toNat % 2 ^ k : Nat) : Int) = n % ((2 ^ k : Nat) : Int) := by
    rw [Int.natCast_emod, Int.toNat_of_nonneg (by omega)]
    exact Int.emod_emod_of_dvd n (Int.natCast_dvd_natCast.2 (Nat.pow_dvd_pow 2 (by omega)))
  show IntKind.i64.wrap ((BitVec.ofInt 64 n &&& BitVec.ofInt 64 ((2 ^ k - 1 : Nat) : Int)).toNat : Nat) = _
  rw [key, hn]
  have h1 : 0 ≤ n % ((2 ^ k : Nat) : Int) := Int.emod_nonneg _ (by omega)
  have h2 : n % ((2 ^ k : Nat) : Int) < ((2 ^ k : Nat) : Int) := Int.emod_lt_of_pos _ (by omega)
  exact IntWalk.i64_in _ ⟨by omega, by omega⟩

theorem take_str (s : ByteArray) (k : Nat) : s.extract 0 k = str (s.data.toList.take k) := by
  apply ByteArray.ext; apply Array.ext'; rw [take_ext, str_toList]
theorem some_any (s : ByteArray) (k : Nat) (w : World) (hs : s.size ≤ 9223372036854775807) (hk : k ≤ 1000) : Calls Tryd.prog 14 #[.string s, .int .i64 k] w fun e w' => e = .returned (.string (str (s.data.toList.take k))) ∧ w = w' := by
  go_enter Tryd.func14, Tryd.ntmps14
  go_wp2
  go_ret
  refine ⟨ret_str ?_, rfl⟩
  have e : (min (s.size : Int) (k : Int)).toNat = min s.size k := by omega
  rw [e, take_str]
  by_cases h : s.size ≤ k
  · rw [show min s.size k = s.size from by omega, List.take_of_length_le (by rw [lenS]; exact Nat.le_refl _), List.take_of_length_le (by rw [lenS]; exact h)]
  · rw [show min s.size k = k from by omega]

theorem some_20 (s : ByteArray) (w : World) (hs : s.size ≤ 9223372036854775807) : Calls Tryd.prog 14 #[.string s, .int .i64 20] w fun e w' => e = .returned (.string (str (s.data.toList.take 20))) ∧ w = w' := some_any s 20 w hs (by omega)
theorem some_40 (s : ByteArray) (w : World) (hs : s.size ≤ 9223372036854775807) : Calls Tryd.prog 14 #[.string s, .int .i64 40] w fun e w' => e = .returned (.string (str (s.data.toList.take 40))) ∧ w = w' := some_any s 40 w hs (by omega)
theorem some_60 (s : ByteArray) (w : World) (hs : s.size ≤ 9223372036854775807) : Calls Tryd.prog 14 #[.string s, .int .i64 60] w fun e w' => e = .returned (.string (str (s.data.toList.take 60))) ∧ w = w' := some_any s 60 w hs (by omega)
theorem some_80 (s : ByteArray) (w : World) (hs : s.size ≤ 9223372036854775807) : Calls Tryd.prog 14 #[.string s, .int .i64 80] w fun e w' => e = .returned (.string (str (s.data.toList.take 80))) ∧ w = w' := some_any s 80 w hs (by omega)
theorem some_100 (s : ByteArray) (w : World) (hs : s.size ≤ 9223372036854775807) : Calls Tryd.prog 14 #[.string s, .int .i64 100] w fun e w' => e = .returned (.string (str (s.data.toList.take 100))) ∧ w = w' := some_any s 100 w hs (by omega)
theorem some_400 (s : ByteArray) (w : World) (hs : s.size ≤ 9223372036854775807) : Calls Tryd.prog 14 #[.string s, .int .i64 400] w fun e w' => e = .returned (.string (str (s.data.toList.take 400))) ∧ w = w' := some_any s 400 w hs (by omega)

/-- the first eight strings, cut -/
def fewL (ts : List ByteArray) (n : Nat) : List (List UInt8) := (List.range (min n 8)).map fun i => (ts.getD i ByteArray.empty).data.toList.take 60
theorem fewL_len (ts : List ByteArray) (n : Nat) : (fewL ts n).length = min n 8 := by simp [fewL]
theorem fewL_getD (ts : List ByteArray) (n i : Nat) (hi : i < min n 8) : (fewL ts n).getD i [] = (ts.getD i ByteArray.empty).data.toList.take 60 := by
  unfold fewL
  rw [List.getD_eq_getElem?_getD, List.getElem?_map, List.getElem?_range hi]; rfl
theorem fewL_le (ts : List ByteArray) (n i : Nat) : ((fewL ts n).getD i []).length ≤ 60 := by
  by_cases hi : i < min n 8
  · rw [fewL_getD ts n i hi, List.length_take]; omega
  · rw [List.getD_eq_getElem?_getD, List.getElem?_eq_none (by rw [fewL_len]; omega)]; simp
theorem preTo_few (ts : List ByteArray) (n i : Nat) : (preTo (fewL ts n) i).length ≤ 68 * i := by
  induction i with
  | zero => simp [preTo]
  | succ i ih =>
    have := fewL_le ts n i
    rw [preTo, List.length_append, piece_len]; omega
theorem pre_few (ts : List ByteArray) (n : Nat) : (pre (fewL ts n)).length ≤ 544 := by
  have := preTo_few ts n (fewL ts n).length
  have h := fewL_len ts n
  unfold pre; omega

theorem fewL_mem (ts : List ByteArray) (n : Nat) : ∀ l ∈ fewL ts n, l.length < 1000000 := by
  intro l hl
  obtain ⟨i, hi, rfl⟩ := List.mem_iff_getElem.1 hl
  have := fewL_le ts n i
  rw [List.getD_eq_getElem?_getD, List.getElem?_eq_getElem hi] at this
  simp at this ⊢; omega

def scell (l : List UInt8) : Value := .string (str l)
/-- the strings ls lie at the head of the slice v, which the call owns -/
def OwnsS (B : Nat) (w : World) (v : Value) (ls : List (List UInt8)) : Prop := w.ownsRow B 9 1 v ls.length (ls.map scell)
theorem OwnsS.later {B : Nat} {v : Value} {ls : List (List UInt8)} (h : OwnsS B w v ls) (hb : Below w.heap.size w w') : OwnsS B w' v ls := by
  obtain ⟨hl, h | ⟨g, cap, cur, hv, hg, hh, h⟩⟩ := h
  · exact ⟨hl, Or.inl h⟩
  · exact ⟨hl, Or.inr ⟨g, cap, cur, hv, hg, by rw [hb.block g (Array.getElem?_eq_some_iff.1 hh).1]; exact hh, h⟩⟩
theorem Tryd.infoS : (Tryd.prog.info? 9).map (fun i => (i.zero, i.size, i.bytes)) = some (some (.string ByteArray.empty), 1, 16) := by kernel_rfl
theorem OwnsS.own_lt {B : Nat} {v : Value} {p : List (List UInt8)} (h : OwnsS B w v p) : ∀ k, v.ownBlock = some k → B ≤ k := by
  intro k hk
  obtain ⟨_, ⟨rfl, _⟩ | ⟨g, cap, cur, rfl, hg, _⟩⟩ := h
  · simp [Value.ownBlock] at hk
  · simp [Value.ownBlock] at hk; omega
theorem one_cellS (w : World) (v : Value) (T : TypeId) : ∀ j u, [v][j]? = some u → (w.alloc (.cells #[v] T)).cell? ((⟨w.heap.size, 0, none⟩ : Addr).add j) = some u := by
  intro j u hj
  match j, hj with
  | 0, hj => simp at hj; subst hj; simp [Addr.add]
/-- 'append(v, s)': one string behind what the call owns -/
theorem wp_appS {ops : Array Oper} {rest : List Oper} {o : Oper} {a : Act} {Q : Exit → Act → World → Prop} (hgd : o.guard = none) (s x : Operand)
    (ho : o.op = .call { callee := .builtin .append, args := #[s, x], argTypes := #[28, 28] }) (B : Nat) (W : World) (v : Value) (p : List (List UInt8)) (l : List UInt8) (xv : ByteArray)
    (hs : a.eval s = v) (hown : OwnsS B W v p) (hx : a.eval x = .slice (some ⟨W.heap.size, 0, none⟩) 1 1) (hb : xv = str l) (hp : p.length < 1000) (hB : B ≤ W.heap.size)
    (h : ∀ v' w', OwnsS B w' v' (p ++ [l]) → Below B W w' → wpList Tryd.prog ops Q rest (a.put o.dst v') w') : wpList Tryd.prog ops Q (o :: rest) a (W.alloc (.cells #[.string xv] 9)) := by
  subst hb
  obtain ⟨i0, hi, hz0, hz1, hz2⟩ := info_parts Tryd.infoS
  refine wpList_append_own _ hgd s x 28 ho B 9 i0 (.string ByteArray.empty) 1 16 Tryd.underlying28 hi hz0 hz1 hz2 rfl (by decide) v _ _ hs (World.ownsRow.alloc hown _) ⟨W.heap.size, 0, none⟩ 1 1 [scell l] hx rfl (one_cellS W _ _)
    (by intro u hu; simp at hu; subst hu; rfl) (by unfold maxLen; omega) (by omega) (by simp; omega) ?_
  intro v' w' h1 h2 _
  refine h v' w' (by simpa [OwnsS] using h1) (((Below.refl B W).alloc hB _).grown h2 (by simp; omega) ?_)
  intro k hk
  obtain ⟨_, ⟨rfl, _⟩ | ⟨g, cap, cur, rfl, hg, _⟩⟩ := hown
  · simp [Value.ownBlock] at hk
  · simp [Value.ownBlock] at hk; omega
theorem OwnsS.strs {B : Nat} {v : Value} {ls : List (List UInt8)} (h : OwnsS B w v ls) : StrsAt w v ls := by
  have h0 := h
  obtain ⟨hl, ⟨rfl, hz⟩ | ⟨g, cap, cur, rfl, hg, hh, hn, hc, hs, ht⟩⟩ := h
  · have : ls = [] := List.eq_nil_of_length_eq_zero hz
    subst this
    exact strs_nil w
  · refine ⟨some ⟨g, 0, none⟩, cap, rfl, hn, by unfold maxLen at hc; omega, fun i hi => ⟨g, 0, rfl, (Array.getElem?_eq_some_iff.1 hh).1, ?_⟩⟩
    have := World.ownsRow.cellAt h0 i (by omega)
    rw [Nat.zero_add, this, List.getD_eq_getElem?_getD, List.getElem?_eq_getElem hi]; simp [hi, scell]

/-- the parts that a statement is handed -/
def Args (w : World) (po : Option Addr) (n : Nat) (ts : List ByteArray) : Prop :=
  n ≤ 9223372036854775807 ∧ Hid (∀ i, i < n → ∃ b off, po = some ⟨b, off, none⟩ ∧ b < w.heap.size ∧ w.cell? ⟨b, off + i, none⟩ = some (.string (ts.getD i ByteArray.empty)) ∧ (ts.getD i ByteArray.empty).size ≤ 9223372036854775807)
theorem Args.later {po : Option Addr} {n : Nat} {ts : List ByteArray} (h : Args w po n ts) (hb : Below w.heap.size w w') : Args w' po n ts := by
  obtain ⟨h3, h4⟩ := h
  refine ⟨h3, fun i hi => ?_⟩
  obtain ⟨b, off, h5, h6, h7, h8⟩ := h4.out i hi
  exact ⟨b, off, h5, Nat.lt_of_lt_of_le h6 hb.size, by rw [hb.cell (p := ⟨b, off + i, none⟩) h6]; exact h7, h8⟩
/-- what list returns -/
def Listed (W : World) (B : Nat) (ls : List (List UInt8)) (e : Ending) (w' : World) : Prop := ∃ v, e = .returned v ∧ OwnsS B w' v ls ∧ Below W.heap.size W w'

set_option maxHeartbeats 1000000 in
set_option maxRecDepth 100000 in
theorem list_any (ts : List ByteArray) (po : Option Addr) (n c : Nat) (w : World) (h : Args w po n ts) : Calls Tryd.prog 17 #[.slice po n c] w (Listed w w.heap.size (fewL ts n)) := by
  obtain ⟨hn, HI⟩ := h
  go_enter Tryd.func17, Tryd.ntmps17
  go_wp2
  have HO0 : Hid (OwnsS w.heap.size (w.alloc (Obj.cells #[] 9)) (.slice (some ⟨w.heap.size, 0, none⟩) 0 0) []) := World.ownsRow_lit w #[] 0 (Nat.le_refl _) (by decide) rfl
  have HB0 : Hid (Below w.heap.size w (w.alloc (Obj.cells #[] 9))) := (Below.refl _ _).alloc (Nat.le_refl _) _
  go_loopw [3, 4] (fun v i wr => ∃ k : Nat, k ≤ min n 8 ∧ i = .int .i64 k ∧ Hid (OwnsS w.heap.size wr v ((fewL ts n).take k)) ∧ Hid (Below w.heap.size w wr)) (fun _ i _ => 8 - (intOf i).toNat)
  case atStart => exact ⟨0, Nat.zero_le _, rfl, HO0, HB0⟩
  case round =>
    clear HO0 HB0
    obtain ⟨k, hk, rfl, HO, HB⟩ := hrel
    have k8 : k ≤ 8 := by omega
    go_upto_region 3 with fail
    go_cut [13] (fun r wx => r = .bool (decide (k < min n 8)) ∧ wx = wr)
    case first =>
      by_cases h1 : (k : Int) < n
      · by_cases h2 : (k : Int) < 8
        · go_wp2_with fail
          go_meet
          exact ⟨by rw [decide_eq_true (by omega)], rfl⟩
        · go_wp2_with fail
          go_meet
          exact ⟨by rw [decide_eq_false (by omega)], rfl⟩
      · go_wp2_with fail
        go_meet
        exact ⟨by rw [decide_eq_false (by omega)], rfl⟩
    case rest =>
    obtain ⟨rfl, rfl⟩ := hcut
    by_cases hlt : k < min n 8
    · rw [decide_eq_true hlt]
      obtain ⟨b, off, rfl, hb, hcell, hz⟩ := HI.out k (by omega)
      have hcw : wc.cell? ⟨b, off + k, none⟩ = some (.string (ts.getD k ByteArray.empty)) := by rw [HB.out.cell (p := ⟨b, off + k, none⟩) hb]; exact hcell
      have HT : Hid ((fewL ts n).take (k + 1) = (fewL ts n).take k ++ [(ts.getD k ByteArray.empty).data.toList.take 60]) := by
        unfold Hid
        rw [List.take_succ_eq_append_getElem (by rw [fewL_len]; exact hlt)]
        congr 2
        have := fewL_getD ts n k hlt
        rw [List.getD_eq_getElem?_getD, List.getElem?_eq_getElem (by rw [fewL_len]; exact hlt)] at this
        exact this
      have kn : (k : Int) < n := by omega
      have hbs := HB.out.size
      generalize ts.getD k ByteArray.empty = t at hcell hcw hz HT
      go_wp2_with (first
        | (go_at_call 14; (with_reducible refine (some_60 t _ hz).mono ?_); rintro e w1 ⟨rfl, rfl⟩)
        | (at_builtin; refine wp_appS rfl (.tmp 16) (.tmp 22) rfl w.heap.size wc _ ((fewL ts n).take k) (t.data.toList.take 60) _ (by rfl) HO.out (by rfl) ?e1 ?e2 ?e3 ?_; rotate_right; intro v' w' ho' hb'))
      case e1 => rfl
      case e2 => rw [List.length_take]; omega
      case e3 => exact hbs
      go_roundw
      case rel => exact ⟨k + 1, by omega, by go_num, by rw [HT.out]; exact ho', HB.out.trans hb'⟩
      case measure => simp [intOf]; omega
    · obtain rfl : k = min n 8 := by omega
      rw [decide_eq_false hlt]
      have HF : Hid ((fewL ts n).take (min n 8) = fewL ts n) := by unfold Hid; rw [List.take_of_length_le (by rw [fewL_len]; exact Nat.le_refl _)]
      rw [HF.out] at HO
      go_wp2_with fail
      go_ret
      exact ⟨_, rfl, HO.out, HB.out⟩
end Go.Proofs.YtcpbadldplpedaaDoor
