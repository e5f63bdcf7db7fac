/-
  OctetTruncated: of a cut encoding the whole integers are decoded, and every later call fails. No conditions.
-/
import Derived.Test.YtgalkcfcpkkjgaaState
import Derived.Deep.DeepCutAuto
import Derived.Deep.AppendLies
import Derived.ChangeSlices
namespace Go.Proofs.Ytgalkcfcpkkjgaa.Trunc
open Go.ChangeShapes Go.WideShapes Go.ChangeAt Go.RowKit
open Go.ChangeMaps (open_string shut_string)

def encV (zs : List Int) : Nat → List UInt8
  | 0 => []
  | j + 1 => encV zs j ++ Leb.varN (u64of (zs.getD j 0))
theorem encV_le (zs : List Int) {i k : Nat} (h : i ≤ k) : ∃ r, encV zs k = encV zs i ++ r := by
  induction k with
  | zero => exact ⟨[], by rw [Nat.le_zero.1 h]; simp⟩
  | succ k ih =>
    by_cases he : i = k + 1
    · exact ⟨[], by rw [he]; simp⟩
    · obtain ⟨r, hr⟩ := ih (by omega)
      exact ⟨_, by rw [encV, hr, List.append_assoc]⟩
theorem encV_len (zs : List Int) (j : Nat) : (encV zs j).length ≤ 10 * j := by
  induction j with
  | zero => simp [encV]
  | succ j ih =>
    have h1 := Leb.varN_len64 (u64of_lt (zs.getD j 0))
    rw [encV, List.length_append]; omega
theorem take_behind {A B : List UInt8} {c : Nat} (h : A.length ≤ c) : (A ++ B).take c = A ++ B.take (c - A.length) := by
  rw [List.take_append, List.take_of_length_le h]
/-- Var at a form that is whole -/
theorem vr_whole {A R : List UInt8} {u c : Nat} (hu : u < 2 ^ 64) (hc : A.length + (Leb.varN u).length ≤ c) :
    vr ((A ++ (Leb.varN u ++ R)).take c) A.length false = (i64of u, A.length + (Leb.varN u).length, false) := by
  rw [take_behind (by omega), take_behind (by omega)]
  unfold vr
  rw [if_neg (by simp), List.drop_left, Leb.dec_var hu]; rfl
/-- Var at a form that is cut -/
theorem vr_cut {A R : List UInt8} {u c : Nat} (hu : u < 2 ^ 64) (h1 : A.length ≤ c) (h2 : c < A.length + (Leb.varN u).length) :
    vr ((A ++ (Leb.varN u ++ R)).take c) A.length false = (0, A.length, true) := by
  rw [take_behind h1, List.take_append_of_le_length (by omega)]
  unfold vr
  rw [if_neg (by simp), List.drop_left, Leb.dec_cut hu (by omega)]; rfl
/-- Text at a text that is cut -/
theorem tx_cut {A t : List UInt8} {c : Nat} (ht : t.length ≤ 300) (h1 : A.length ≤ c) (h2 : c < (A ++ (Leb.varN t.length ++ t)).length) :
    tx ((A ++ (Leb.varN t.length ++ t)).take c) A.length false = ([], A.length, true) := by
  rw [List.length_append, List.length_append] at h2
  unfold tx
  by_cases hc : c < A.length + (Leb.varN t.length).length
  · rw [vr_cut (by omega) h1 hc]
    simp only
    rw [tk_done, if_pos rfl]
  · rw [vr_whole (by omega) (by omega)]
    have hi : i64of t.length = t.length := by unfold i64of; rw [if_pos (by omega)]
    have hl : ((A ++ (Leb.varN t.length ++ t)).take c).length = c := by rw [List.length_take, List.length_append, List.length_append]; omega
    simp only [hi]
    rw [tk_big (by rw [hl]; omega), if_pos rfl]

def icell (x : Nat) : Value := .int .i64 (x : Int)
def endsL (zs : List Int) : Nat → List Nat
  | 0 => []
  | j + 1 => endsL zs j ++ [(encV zs (j + 1)).length]
theorem endsL_len (zs : List Int) (j : Nat) : (endsL zs j).length = j := by
  induction j with
  | zero => rfl
  | succ j ih => rw [endsL, List.length_append, ih]; rfl
theorem endsL_at (zs : List Int) {i j : Nat} (h : i < j) : (endsL zs j)[i]? = some (encV zs (i + 1)).length := by
  induction j with
  | zero => omega
  | succ j ih =>
    rw [endsL]
    by_cases he : i < j
    · rw [List.getElem?_append_left (by rw [endsL_len]; exact he)]; exact ih he
    · obtain rfl : i = j := by omega
      rw [List.getElem?_append_right (by rw [endsL_len]; exact Nat.le_refl _), endsL_len]; simp
/-- the numbers p lie at the head of the slice v, which the call owns -/
def OwnsI (B : Nat) (w : World) (v : Value) (p : List Nat) : Prop := w.ownsRow B 3 1 v p.length (p.map icell)
theorem OwnsI.later {B : Nat} {w w' : World} {v : Value} {p : List Nat} (h : OwnsI B w v p) (hb : Below w.heap.size w w') : OwnsI B w' v p := by
  obtain ⟨hl, h | ⟨g, cap, cur, hv, hg, hh, h⟩⟩ := h
  · exact ⟨hl, Or.inl h⟩
  · exact ⟨hl, Or.inr ⟨g, cap, cur, hv, hg, by rw [hb.block g (Array.getElem?_eq_some_iff.1 hh).1]; exact hh, h⟩⟩
theorem Try.infoI : (Try.prog.info? 3).map (fun i => (i.zero, i.size, i.bytes)) = some (some (.int .i64 0), 1, 8) := by kernel_rfl
/-- 'append(v, x)': one number behind what the call owns -/
theorem wp_appI {ops : Array Oper} {rest : List Oper} {o : Oper} {a : Act} {Q : Exit → Act → World → Prop} (hgd : o.guard = none) (s x : Operand)
    (ho : o.op = .call { callee := .builtin .append, args := #[s, x], argTypes := #[43, 43] }) (B : Nat) (W : World) (v : Value) (p : List Nat) (b : Nat) (xv : Int)
    (hs : a.eval s = v) (hown : OwnsI B W v p) (hx : a.eval x = .slice (some ⟨W.heap.size, 0, none⟩) 1 1) (hb : xv = b) (hp : p.length < 140737488355) (hB : B ≤ W.heap.size)
    (h : ∀ v' w', OwnsI B w' v' (p ++ [b]) → Below B W w' → wpList Try.prog ops Q rest (a.put o.dst v') w') : wpList Try.prog ops Q (o :: rest) a (W.alloc (.cells #[.int .i64 xv] 3)) := by
  subst hb
  obtain ⟨i0, hi, hz0, hz1, hz2⟩ := info_parts Try.infoI
  refine wpList_append_own _ hgd s x 43 ho B 3 i0 (.int .i64 0) 1 8 Try.underlying43 hi hz0 hz1 hz2 rfl (by decide) v _ _ hs (World.ownsRow.alloc hown _) ⟨W.heap.size, 0, none⟩ 1 1 [icell b] hx rfl (one_cell W _ _)
    (by intro u hu; simp at hu; subst hu; rfl) (by unfold maxLen; omega) (by omega) (by simp; omega) ?_
  intro v' w' h1 h2 _
  refine h v' w' (by simpa [OwnsI] using h1) (((Below.refl B W).alloc hB _).grown h2 (by simp; omega) ?_)
  intro k hk
  obtain ⟨_, ⟨rfl, _⟩ | ⟨g, cap, cur, rfl, hg, _⟩⟩ := hown
  · simp [Value.ownBlock] at hk
  · simp [Value.ownBlock] at hk; omega

def few (s : ByteArray) : List UInt8 := s.data.toList.take 300
theorem few_len (s : ByteArray) : (few s).length ≤ 300 := by unfold few; rw [List.length_take]; omega
theorem text_few {t x : ByteArray} (h : x = str (few t)) (w : World) : Calls Try.prog 18 #[.string x] w fun e w' => e = .returned (.string (str (Leb.varN (few t).length ++ few t))) ∧ Below w.heap.size w w' := by
  subst h
  have hl := few_len t
  have h := text_any (str (few t)) w (by rw [str_size]; omega)
  rw [str_size, str_toList] at h; exact h
theorem few_short {t : ByteArray} (h : t.size ≤ 300) : t = str (few t) := by
  apply ByteArray.ext; apply Array.ext'
  unfold few str
  rw [List.take_of_length_le (by rw [Array.length_toList]; exact h)]
theorem few_all {t : ByteArray} (h : t.size ≤ 300) : t.extract 0 t.size = str (few t) := by
  rw [← few_short h]; apply ByteArray.ext; simp
theorem few_cut (t : ByteArray) : t.extract 0 300 = str (few t) := by
  have := extract_str t 0 300
  rw [Nat.zero_add, List.drop_zero] at this; exact this

theorem full (z : Int) (h1 : -9223372036854775808 ≤ z) (h2 : z ≤ 9223372036854775807) : i64of (u64of z) = z := by unfold i64of u64of; split <;> omega
theorem step {zs : List Int} {k v c : Nat} {X : List UInt8} {P : Nat} {f : Bool} (hv : v < k) (h1 : -9223372036854775808 ≤ zs.getD v 0) (h2 : zs.getD v 0 ≤ 9223372036854775807)
    (h : (f = false ∧ P = (encV zs v).length ∧ P ≤ c) ∨ (f = true ∧ c < (encV zs v).length)) :
    (vr ((encV zs k ++ X).take c) P f = (zs.getD v 0, (encV zs (v + 1)).length, false) ∧ (encV zs (v + 1)).length ≤ c) ∨ (∃ P', vr ((encV zs k ++ X).take c) P f = (0, P', true) ∧ c < (encV zs (v + 1)).length) := by
  have hl : (encV zs (v + 1)).length = (encV zs v).length + (Leb.varN (u64of (zs.getD v 0))).length := by rw [encV, List.length_append]
  rcases h with ⟨rfl, rfl, hP⟩ | ⟨rfl, hP⟩
  · obtain ⟨r, hr⟩ := encV_le zs (show v + 1 ≤ k by omega)
    rw [encV, List.append_assoc] at hr
    have e : encV zs k ++ X = encV zs v ++ (Leb.varN (u64of (zs.getD v 0)) ++ (r ++ X)) := by rw [hr]; simp only [List.append_assoc]
    by_cases hc : (encV zs (v + 1)).length ≤ c
    · left
      refine ⟨?_, hc⟩
      rw [e, vr_whole (u64of_lt _) (by omega), full _ h1 h2, hl]
    · right
      exact ⟨_, by rw [e, vr_cut (u64of_lt _) hP (by omega)], by omega⟩
  · right
    exact ⟨P, vr_done _ _, by omega⟩
theorem last {zs : List Int} {k c : Nat} {t : List UInt8} {P : Nat} {f : Bool} (ht : t.length ≤ 300) (hc : c < (encV zs k ++ (Leb.varN t.length ++ t)).length)
    (h : (f = false ∧ P = (encV zs k).length ∧ P ≤ c) ∨ (f = true ∧ c < (encV zs k).length)) : tx ((encV zs k ++ (Leb.varN t.length ++ t)).take c) P f = ([], P, true) := by
  rcases h with ⟨rfl, rfl, hP⟩ | ⟨rfl, _⟩
  · exact tx_cut ht hP hc
  · exact tx_done _ _
theorem OwnsI.kept {B g : Nat} {w w' : World} {v : Value} {p : List Nat} (h : OwnsI B w v p) (hg : w.grownBy w' (some g)) (hne : ∀ k, v.ownBlock = some k → k < g) : OwnsI B w' v p :=
  World.ownsRow.kept h hg (Or.inr fun e => Nat.lt_irrefl _ (hne g e))
theorem OwnsI.at_ {B g n cap : Nat} {w : World} {p : List Nat} (h : OwnsI B w (.slice (some ⟨g, 0, none⟩) n cap) p) (hn : n = p.length) (j : Nat) (hj : j < p.length) : w.cell? ⟨g, j, none⟩ = some (.int .i64 (p[j] : Nat)) := by
  subst hn
  have := World.ownsRow.cellAt h j (by omega)
  rw [this]; simp [hj, icell]
theorem pick (z : Int) (L : Nat) (h : 0 < L) (hL : L ≤ 1000) : ∃ c : Nat, (wrap64 (z.tmod L + L)).tmod L = (c : Int) ∧ c < L := by
  have h1 := Int.tmod_lt_of_pos z (show (0 : Int) < L by omega)
  have h2 : -(L : Int) < z.tmod L := by
    by_cases hz : 0 ≤ z
    · have := Int.tmod_nonneg (L : Int) hz; omega
    · have h2 := Int.tmod_lt_of_pos (-z) (show (0 : Int) < L by omega)
      rw [Int.neg_tmod] at h2; omega
  generalize z.tmod L = r at h1 h2
  rw [IntWalk.wrap64_in (r + L) ⟨by omega, by omega⟩, Int.tmod_eq_emod_of_nonneg (by omega)]
  have h3 := Int.emod_nonneg (r + L) (show (L : Int) ≠ 0 by omega)
  have h4 := Int.emod_lt_of_pos (r + L) (show (0 : Int) < L by omega)
  exact ⟨((r + L) % L).toNat, by omega, by omega⟩

set_option maxHeartbeats 4000000 in
set_option maxRecDepth 100000 in
theorem walk (zs : List Int) (text : ByteArray) (z : Int) (po : Option Addr) (n c1 k : Nat) (w : World) (hk : k = min n 10) (hn : n ≤ c1) (hc1 : c1 ≤ 9223372036854775807) (hp : po = none → n = 0)
    (HI : Hid (∀ i, i < n → ∃ b off, po = some ⟨b, off, none⟩ ∧ b < w.heap.size ∧ w.cell? ⟨b, off + i, none⟩ = some (.int .i64 (zs.getD i 0)) ∧ -9223372036854775808 ≤ zs.getD i 0 ∧ zs.getD i 0 ≤ 9223372036854775807)) :
    Calls Try.prog 10 #[.slice po n c1, .string text, .int .i64 z] w fun e w' => e = .returned (.bool true) ∧ Below w.heap.size w w' := by
  have HK := Lib.hid hk; clear hk
  go_enter Try.func10, Try.ntmps10
  go_upto_region 2 with (go_at_call 13; (with_reducible refine (sane_any _).mono ?_); rintro e w1 ⟨rfl, hb⟩)
  go_cut [8] (fun v wx => v = .slice po k c1 ∧ wx = w1)
  case first =>
    by_cases h10 : n ≤ 10
    · have hkn : k = n := by have := HK.out; omega
      have y3 : ((10 : Int) < n) = False := by simp; omega
      cases po with
      | none =>
        obtain rfl := hp rfl
        go_wp2_with fail
        go_meet
        exact ⟨by rw [hkn], rfl⟩
      | some a =>
        go_wp2_with fail
        go_meet
        exact ⟨by rw [hkn], rfl⟩
    · have hkn : k = 10 := by have := HK.out; omega
      have y3 : ((10 : Int) < n) = True := by simp; omega
      have y5 : (10 : Int) ≤ n := by omega
      have y6 : (10 : Int) ≤ c1 := by omega
      cases po with
      | none => have := hp rfl; omega
      | some a =>
        go_wp2_with fail
        go_meet
        exact ⟨by rw [hkn], rfl⟩
  case rest =>
  obtain ⟨rfl, rfl⟩ := hcut
  have HB0 := Lib.hid hb; clear hb
  have HO0 : Hid (OwnsI w.heap.size (wc.alloc (Obj.cells #[] 3)) (.slice (some ⟨wc.heap.size, 0, none⟩) 0 0) []) := World.ownsRow_lit wc #[] 0 HB0.out.size (by decide) rfl
  go_wp2_with fail
  go_loopw [11, 9, 10] (fun i s e wr => ∃ j : Nat, Hid (j ≤ k) ∧ i = .int .i64 j ∧ s = .string (str (encV zs j)) ∧ Hid (OwnsI w.heap.size wr e (endsL zs j)) ∧ Hid (Below w.heap.size w wr)) (fun i _ _ _ => 10 - (intOf i).toNat)
  case atStart => exact ⟨0, Nat.zero_le _, rfl, rfl, HO0, HB0.out.alloc HB0.out.size _⟩
  case round =>
    clear HB0 HO0
    obtain ⟨j, HJ, rfl, rfl, HO, HB⟩ := hrel
    have hj2 := HJ.out
    have j0 : (0 : Int) ≤ j := by omega
    have k63 : (k : Int) ≤ 10 := by have := HK.out; omega
    by_cases hjk : j < k
    · obtain ⟨b, off, rfl, hbs, hc, hz1, hz2⟩ := HI.out j (by have := HK.out; omega)
      have hcw : wr.cell? ⟨b, off + j, none⟩ = some (.int .i64 (zs.getD j 0)) := by rw [HB.out.cell (p := ⟨b, off + j, none⟩) hbs]; exact hc
      have HE : Hid (encV zs (j + 1) = encV zs j ++ Leb.varN (u64of (zs.getD j 0))) := rfl
      have hA := encV_len zs j
      have hV : (str (Leb.varN (u64of (zs.getD j 0)))).size ≤ 10 := var_size _
      have hs1 : ¬ 9223372036854775807 < (str (encV zs j)).size + (str (Leb.varN (u64of (zs.getD j 0)))).size := by rw [str_size (encV zs j)]; omega
      have hjz : (j : Int) < k := by omega
      have hbs' := HB.out.size
      clear hA hV
      generalize zs.getD j 0 = x at hc hcw hz1 hz2 HE hs1
      go_wp2_with (first
        | (go_at_call 16; (with_reducible refine (var_any _ _).mono ?_); rintro e w2 ⟨rfl, hb2⟩)
        | (at_builtin; refine wp_appI rfl (.tmp 37) (.tmp 40) rfl w.heap.size w2 _ (endsL zs j) (encV zs (j + 1)).length _ (by rfl) (HO.out.later hb2) (by rfl) ?e1 ?e2 ?e3 ?_; rotate_right; intro v' w' ho' hb'))
      case e1 => rw [HE.out, List.length_append, str_size, str_size]; omega
      case e2 => rw [endsL_len]; omega
      case e3 => exact Nat.le_trans hbs' hb2.size
      go_roundw
      case rel => exact ⟨j + 1, by unfold Hid; omega, by go_num, by rw [HE.out, ← str_append], ho', HB.out.trans ((hb2.mono hbs').trans hb')⟩
      case measure => have := HK.out; simp [intOf]; omega
    · obtain rfl : j = k := by omega
      clear hjk hj2 HJ
      have hf := few_len text
      have hX := Leb.varN_len64 (u := (few text).length) (by omega)
      have hX1 := Leb.varN_pos (few text).length
      have hA := encV_len zs j
      have hs1 : ¬ 9223372036854775807 < (str (encV zs j)).size + (str (Leb.varN (few text).length ++ few text)).size := by rw [str_size, str_size, List.length_append]; have := HK.out; omega
      have HS : Hid (0 < (encV zs j ++ (Leb.varN (few text).length ++ few text)).length ∧ (encV zs j ++ (Leb.varN (few text).length ++ few text)).length ≤ 1000) := by
        unfold Hid; rw [List.length_append, List.length_append]; have := HK.out; omega
      clear hf hX hX1 hA
      go_upto_region 10 with fail
      go_cut [9] (fun v wx => v = .string (str (encV zs j ++ (Leb.varN (few text).length ++ few text))) ∧ Below wr.heap.size wr wx)
      case first =>
        by_cases hy : text.size ≤ 300
        · have hx1 := Lib.hid (few_short hy)
          have hx2 := Lib.hid (few_all hy)
          have HY := Lib.hid hy; clear hy
          have y3 : ((300 : Int) < text.size) = False := by have := HY.out; simp; omega
          go_wp2_with (go_at_call 18; (with_reducible refine (text_few (t := text) (by first | exact hx1.out | exact hx2.out) _).mono ?_); rintro e w2 ⟨rfl, hb2⟩)
          all_goals first | go_meet | skip
          all_goals first | exact ⟨by rw [str_append], hb2⟩ | (exfalso; have := HY.out; omega)
        · have hx3 := Lib.hid (few_cut text)
          have HY := Lib.hid hy; clear hy
          have y5 : (300 : Int) ≤ text.size := by have := HY.out; omega
          have y3 : ((300 : Int) < text.size) = True := by have := HY.out; simp; omega
          go_wp2_with (go_at_call 18; (with_reducible refine (text_few (t := text) hx3.out _).mono ?_); rintro e w2 ⟨rfl, hb2⟩)
          all_goals first | go_meet | skip
          all_goals first | exact ⟨by rw [str_append], hb2⟩ | (exfalso; have := HY.out; omega)
      case rest =>
      obtain ⟨rfl, hbc⟩ := hcut
      clear hs1
      have HO1 : Hid (OwnsI w.heap.size wc u10 (endsL zs j)) := HO.out.later hbc
      have HB1 : Hid (Below w.heap.size w wc) := HB.out.trans (hbc.mono HB.out.size)
      clear HO HB hbc
      have HX : ∃ X, X = Leb.varN (few text).length ++ few text := ⟨_, rfl⟩
      obtain ⟨X, hX⟩ := HX
      rw [← hX] at HS ⊢
      have HXX := Lib.hid hX; clear hX
      have HLS : Hid ((str (encV zs j ++ X)).size = (encV zs j ++ X).length) := str_size _
      obtain ⟨L, hL⟩ : ∃ L, (encV zs j ++ X).length = L := ⟨_, rfl⟩
      have hsz : (str (encV zs j ++ X)).size = L := by rw [HLS.out, hL]
      have hL0 : 0 < L := by have := HS.out.1; omega
      have hL1 : L ≤ 1000 := by have := HS.out.2; omega
      obtain ⟨c, hc, hcL⟩ := pick z L hL0 hL1
      have hx : (str (encV zs j ++ X)).extract 0 c = str ((encV zs j ++ X).take c) := by
        have := extract_str (str (encV zs j ++ X)) 0 c
        rw [Nat.zero_add, List.drop_zero, str_toList] at this; exact this
      have HX := Lib.hid hx; clear hx
      have HSZ : Hid (((str (encV zs j ++ X)).extract 0 c).size ≤ 9223372036854775807) := by unfold Hid; rw [HX.out, str_size, List.length_take]; omega
      have HLL := Lib.hid hL; clear hL HLS
      have l0 : ((L : Int) == 0) = false := by simp; omega
      have l1 : (L : Int) ≠ 0 := by omega
      have c0 : (0 : Int) ≤ c := by omega
      have cL : (c : Int) ≤ L := by omega
      go_upto_region 15 with (go_at_call 22; (with_reducible refine (RSt.read (W := w) HB1.out _ HSZ.out).mono ?_); rintro e w2 ⟨rfl, hr, hbr⟩)
      rw [HX.out] at hr
      have hlt : ∀ k, u10.ownBlock = some k → k < wc.heap.size := fun k hk => (World.ownsRow.lt HO1.out k hk).2
      have HO2 : Hid (OwnsI w.heap.size w2 u10 (endsL zs j)) := HO1.out.later hbr
      have HR := Lib.hid hr
      have HN := Lib.hid hlt
      clear hr hbr HO1 HB1 HX HSZ l0 l1 hL1 hL0 cL hlt
      generalize wc.heap.size = g at HR HN ⊢
      have HC : Hid (c < (encV zs j ++ X).length) := by unfold Hid; rw [HLL.out]; exact hcL
      clear hc hsz HLL hcL HS
      go_wp2_with fail
      go_loopw [14] (fun i wr' => ∃ (v P : Nat) (f : Bool), Hid (v ≤ j) ∧ i = .int .i64 v ∧ Hid (OwnsI w.heap.size wr' u10 (endsL zs j)) ∧ Hid (RSt w g (str ((encV zs j ++ X).take c)) P f wr') ∧ Hid ((f = false ∧ P = (encV zs v).length ∧ P ≤ c) ∨ (f = true ∧ c < (encV zs v).length))) (fun i _ => 10 - (intOf i).toNat)
      case atStart => exact ⟨0, 0, false, Nat.zero_le _, rfl, HO2, HR, Or.inl ⟨rfl, rfl, Nat.zero_le _⟩⟩
      case round =>
        clear HO2 HR
        obtain ⟨v, P, f, HJ, rfl, HO, HR, HH⟩ := hrel
        have hj2 := HJ.out
        have v0 : (0 : Int) ≤ v := by omega
        by_cases hjk : v < j
        · obtain ⟨b, off, rfl, hbs, hcw, hz1, hz2⟩ := HI.out v (by have := HK.out; omega)
          have vj : (v : Int) < j := by omega
          have hst := step (X := X) hjk hz1 hz2 HH.out
          have hjn : 0 < (endsL zs j).length := by rw [endsL_len]; omega
          obtain ⟨q, cq, rfl, hq1, hq2⟩ := World.ownsRow.form HO.out hjn
          have hlj := endsL_len zs j
          have hE : (endsL zs j)[v]'(by omega) = (encV zs (v + 1)).length := (List.getElem?_eq_some_iff.1 (endsL_at zs hjk)).2
          have hb0 := HR.out.below
          have hend : ∀ w', OwnsI w.heap.size w' (.slice (some ⟨q, 0, none⟩) (endsL zs j).length cq) (endsL zs j) → w'.cell? ⟨q, v, none⟩ = some (.int .i64 ((encV zs (v + 1)).length : Nat)) := fun w' h => by
            have := OwnsI.at_ h rfl v (by omega)
            rw [hE] at this; exact this
          have HRR := HR.out
          have HOO := HO.out
          clear hE hb0 HH HI hq1 hq2
          have HEND := Lib.hid hend; clear hend
          have HOH := Lib.hid HOO; clear HOO HO
          rw [hlj] at HOH HEND ⊢
          clear hjn hlj HR
          generalize hEl : (encV zs (v + 1)).length = E at hst HEND
          have HEl := Lib.hid hEl; clear hEl
          generalize zs.getD v 0 = x at hcw hz1 hz2 hst
          rcases hst with ⟨T, hEc⟩ | ⟨P', T, hEc⟩
          · have T1 : Hid (vr (str ((encV zs j ++ X).take c)).data.toList P f = (x, E, false)) := by unfold Hid; rw [str_toList]; exact T
            clear T
            have e1 : (E : Int) ≤ c := by omega
            go_wp2_with (first
              | (go_at_call 25; (with_reducible refine (RSt.var (W := w) HRR T1.out).mono ?_); rintro e w3 ⟨rfl, hr3, hg3⟩; have ho3 := Lib.hid (HOH.out.kept hg3 HN.out); have hc3 := HEND.out _ ho3.out; have hd3 := (hr3.below.cell (p := ⟨b, off + v, none⟩) hbs).trans hcw)
              | (go_at_call 33; (with_reducible refine (RSt.failed (W := w) hr3).mono ?_); rintro e w4 ⟨rfl, rfl⟩))
            go_roundw
            case rel => exact ⟨v + 1, E, false, by unfold Hid; omega, by go_num, ho3.out, hr3, Or.inl ⟨rfl, HEl.out.symm, hEc⟩⟩
            case measure => have := HK.out; simp [intOf]; omega
          · have T1 : Hid (vr (str ((encV zs j ++ X).take c)).data.toList P f = (0, P', true)) := by unfold Hid; rw [str_toList]; exact T
            clear T
            have e1 : (c : Int) < E := by omega
            have e2 : ((E : Int) ≤ c) = False := by simp; omega
            go_wp2_with (first
              | (go_at_call 25; (with_reducible refine (RSt.var (W := w) HRR T1.out).mono ?_); rintro e w3 ⟨rfl, hr3, hg3⟩; have ho3 := Lib.hid (HOH.out.kept hg3 HN.out); have hc3 := HEND.out _ ho3.out; have hd3 := (hr3.below.cell (p := ⟨b, off + v, none⟩) hbs).trans hcw)
              | (go_at_call 33; (with_reducible refine (RSt.failed (W := w) hr3).mono ?_); rintro e w4 ⟨rfl, rfl⟩))
            go_roundw
            case rel => exact ⟨v + 1, P', true, by unfold Hid; omega, by go_num, ho3.out, hr3, Or.inr ⟨rfl, by rw [HEl.out]; exact hEc⟩⟩
            case measure => have := HK.out; simp [intOf]; omega
        · obtain rfl : v = j := by omega
          have hrs := HR.out
          have T : Hid (tx (str ((encV zs v ++ X).take c)).data.toList P f = ([], P, true)) := by
            have h1 := HC.out
            rw [HXX.out] at h1
            unfold Hid; rw [str_toList, HXX.out]; exact last (few_len text) h1 HH.out
          clear HR HH HO hjk hj2 HJ v0
          have hnil : (str []).toList = [] := by rw [ByteArray.toList_eq, str_toList]
          go_wp2_with (first
            | (go_at_call 27; (with_reducible refine (RSt.text (W := w) ?_ T.out).mono ?_); (focus assumption); rintro e w3 ⟨rfl, hr3, hg3⟩)
            | (go_at_call 33; (with_reducible refine (RSt.failed (W := w) hr3).mono ?_); rintro e w4 ⟨rfl, rfl⟩))
          go_ret
          exact ⟨rfl, hr3.below⟩

theorem opened_ints {H : Type} {enc : TypeId × Value → H} {W : World} {b0 : Nat} {r : Reach} {v : Value} {d : DataW H} {p : List MemPlace} (hv : Value.okWide Try.prog W r b0 43 v) (h : DataW.Trod enc Try.prog W 0 (fun _ => true) true 43 v d p) :
    ∃ (po : Option Addr) (n c : Nat) (zs : List Int), v = .slice po n c ∧ n ≤ c ∧ c ≤ 9223372036854775807 ∧ (po = none → n = 0) ∧
      Hid (∀ i, i < n → ∃ b off, po = some ⟨b, off, none⟩ ∧ b < W.heap.size ∧ W.cell? ⟨b, off + i, none⟩ = some (.int .i64 (zs.getD i 0)) ∧ -9223372036854775808 ≤ zs.getD i 0 ∧ zs.getD i 0 ≤ 9223372036854775807) := by
  obtain ⟨a0, len, cap, rfl⟩ := okWide_slice Try.underlying43 hv
  obtain ⟨fuel, hf⟩ := h
  rcases open_ints Try.underlying43 Try.underlying3 (by kernel_rfl) hf with ⟨hcs, _⟩ | ⟨a, len', cap', zs, hcs, _, hl, hm, hz, _, hcell, hwz⟩
  · simp [Value.cells] at hcs
    obtain ⟨rfl, rfl, rfl⟩ := hcs
    exact ⟨none, 0, 0, [], rfl, by omega, by omega, fun _ => rfl, fun i hi => by omega⟩
  · simp [Value.cells] at hcs
    obtain ⟨rfl, rfl, rfl⟩ := hcs
    simp only [if_true] at hz
    refine ⟨some a, len, cap, zs, rfl, hl, by unfold maxLen at hm; omega, fun h => (by cases h), fun i hi => ?_⟩
    obtain ⟨b, off, spot⟩ := a
    have hc := hcell i (by omega)
    have hspot : spot = none := by simpa [Addr.add] using World.cell?_spot (hcell 0 (by omega))
    subst hspot
    have hadd : (⟨b, off, none⟩ : Addr).add i = ⟨b, off + i, none⟩ := by unfold Addr.add; split <;> simp_all
    rw [hadd] at hc
    have hw : (Lit.int .i64 (zs.getD i 0)).wf = true := hwz _ (by rw [List.getD_eq_getElem?_getD, List.getElem?_eq_getElem (by omega)]; exact List.getElem_mem _)
    have hb : -9223372036854775808 ≤ zs.getD i 0 ∧ zs.getD i 0 ≤ 9223372036854775807 := by simpa [Lit.wf, IntKind.min, IntKind.max, IntKind.signed, IntKind.bits] using hw
    exact ⟨b, off, rfl, block_lt_of_cell hc, hc, hb.1, hb.2⟩
set_option maxRecDepth 100000 in
theorem lifted (os : Os) (started : os.Started) (H : Type) (enc : TypeId × Value → H) :
    ReturnsInHanded {} Try.checked os 10 .any (Rows.octetTruncatedSpec.pre6 enc Try.prog Try.f10 Rows.octetTruncatedRow.domain false) (Rows.octetTruncatedSpec.post enc Try.prog Try.f10 false true false false) := by
  refine returnsInHanded_of_change_sized (C := Try.checked) own started (by kernel_rfl) Try.func10
    (ChangeSpec.witness6 (enc := enc) (C := Try.checked) false ⟨#[], #[.slice none 0 0, .string ByteArray.empty, .int .i64 0], []⟩ 8 (by kernel_rfl) (by kernel_rfl) (by kernel_rfl) (by kernel_rfl)) ?_
  intro W base args ds gs before hval0 hW _ _ _
  have hval : ∀ (j : Nat) t v, Try.f10.params[j]? = some t → args[j]? = some v → Value.okWide Try.prog W .any base t v := hval0
  have hW' := hW
  obtain ⟨p, q, hA0, hV, rfl, hfz, hnd⟩ := hW
  have hA : DataW.TrodAll enc Try.prog W 0 (fun _ => true) true Try.f10.params.toList args.toList ds p := hA0
  rw [Try.params10] at hA hval
  obtain ⟨v0, v1, v2, d0, d1, d2, p0, p1, p2, rfl, rfl, rfl, h0, h1, h2⟩ := trodAll_three hA
  obtain ⟨rfl, rfl⟩ := trodVars_none hV
  obtain ⟨po, n, c1, zs, rfl, hn, hc1, hp, HI⟩ := opened_ints (hval 0 43 v0 rfl rfl) h0
  obtain ⟨s, rfl, rfl, rfl, ws⟩ := open_string Try.underlying9 (hval 1 9 v1 rfl rfl) h1
  obtain ⟨m, rfl, rfl, rfl, wm⟩ := open_int Try.underlying3 (hval 2 3 v2 rfl rfl) h2
  refine (walk zs s m po n c1 _ W rfl hn hc1 hp HI).mono fun e W' ⟨he, hb⟩ => ?_
  subst he
  exact ⟨_, rfl, law_post hW' rfl (by kernel_rfl) rfl (by intro t ht; rw [Try.params10] at ht; simp at ht; rcases ht with rfl | rfl | rfl <;> exact ⟨by kernel_rfl, of_decide_eq_true (by kernel_rfl)⟩) hb⟩

theorem holds : Rows.OctetTruncatedSaid :=
  OpenClaim.holds_of_wide 10 Try.f10 rfl rfl rfl rfl rfl rfl rfl ⟨rfl, rfl, rfl, rfl, rfl⟩ rfl rfl rfl rfl rfl (by kernel_rfl) Try.func10 (by kernel_rfl)
    (of_decide_eq_true (by kernel_rfl)) (by unfold Func.isWrapper; first | (rw [if_pos (by decide +kernel)]; kernel_rfl) | (rw [if_neg (by decide +kernel)]; exact ⟨rfl, rfl⟩))
    (fun os started H enc _ => lifted os started H enc)
end Go.Proofs.Ytgalkcfcpkkjgaa.Trunc
