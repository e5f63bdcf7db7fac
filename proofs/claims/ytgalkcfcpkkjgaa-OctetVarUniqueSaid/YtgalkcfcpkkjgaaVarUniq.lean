/-
  OctetVarUnique: of all byte strings Var accepts only the forms that it returns; a form with a redundant group is rejected. No conditions.
-/
import Derived.Test.YtgalkcfcpkkjgaaState
import Derived.ArgAppend
import Derived.Deep.DeepCutAuto
namespace Go.Proofs.Ytgalkcfcpkkjgaa.VarUniq
open Go.ChangeShapes Go.WideShapes Go.ChangeAt Go.RowKit
open Go.ChangeMaps (open_string shut_string)

/-- all bytes from 128 on, then 0: no form -/
theorem decG_zero : ∀ (l : List UInt8) (i acc : Nat), (∀ b ∈ l, 128 ≤ b.toNat) → 0 < i + l.length → Leb.decG i acc (l ++ [0]) = none
  | [], i, acc, _, h => by
    have : 0 < i := by simpa using h
    simp [Leb.decG, this]
  | b :: l, i, acc, hb, _ => by
    have h1 := hb b (by simp)
    simp only [List.cons_append, Leb.decG]
    split
    · rfl
    · rw [if_neg (by omega)]
      exact decG_zero l (i + 1) _ (fun c hc => hb c (by simp [hc])) (by omega)
theorem high_init (u : Nat) : ∀ b ∈ (Leb.varN u).dropLast, 128 ≤ b.toNat := by
  induction u using Nat.strongRecOn with
  | ind u ih =>
    by_cases h : u < 128
    · rw [Leb.varN_small h]; simp
    · rw [Leb.varN_big (by omega)]
      have hne : Leb.varN (u / 128) ≠ [] := by have := Leb.varN_pos (u / 128); intro e; rw [e] at this; simp at this
      rw [List.dropLast_cons_of_ne_nil hne]
      intro b hb
      rcases List.mem_cons.1 hb with rfl | hb
      · rw [Leb.nat_u8 (by omega)]; omega
      · exact ih (u / 128) (by omega) b hb
/-- the form with its last byte's high bit set, and a byte 0 behind -/
theorem dec_long (u : Nat) (b : UInt8) : Leb.dec (((Leb.varN u).dropLast ++ [b ||| 128]) ++ [0]) = none := by
  refine decG_zero _ 0 0 ?_ (by simp)
  intro c hc
  rcases List.mem_append.1 hc with h | h
  · exact high_init u c h
  · simp at h; subst h
    rw [UInt8.toNat_or]
    exact Nat.right_le_or

theorem or_byte (b : UInt8) : bits BinOp.or IntKind.u8 (b.toNat : Int) 128 = ((b ||| 128).toNat : Int) := by
  have := u8_or_nat b.toNat 128 (Leb.u8lt b) (by omega)
  rw [UInt8.toNat_or]; exact this

/-- the bytes T in a marked block (of a conversion), c room -/
structure Mkd (W : World) (g c : Nat) (T : List UInt8) (w : World) : Prop where
  own : w.heap[g]? = some (.cells (bytesRow (str T) c) 5 ((bytesRow (str T) c).size, (bytesRow (str T) c).size + 1))
  at_ : W.heap.size ≤ g
  below : Below W.heap.size W w
theorem row_size (T : List UInt8) (c : Nat) : T.length ≤ (bytesRow (str T) c).size ∧ c ≤ (bytesRow (str T) c).size := by
  have e : (str T).size = T.length := str_size T
  have e2 : (bytesRow (str T) c).size = T.length + (c - T.length) := by
    unfold bytesRow; rw [Array.size_append, Array.size_map, Array.size_replicate, e]; simp [str]
  omega
theorem heap_setCell_mark (w : World) (g i : Nat) (cs : Array Value) (t : TypeId) (fr : Nat × Nat) (v : Value) (hg : w.heap[g]? = some (.cells cs t fr)) :
    (w.setCell ⟨g, i, none⟩ v).heap[g]? = some (.cells (cs.setIfInBounds i v) t fr) := by
  rw [setCell_eq_setRow w g i cs t fr v hg]
  exact setRow_heap w g cs _ t _ hg
theorem bytesRow_set (T : List UInt8) (c i : Nat) (hi : i < T.length) (b : UInt8) : (bytesRow (str T) c).setIfInBounds i (bcell b) = bytesRow (str (T.set i b)) c := by
  apply Array.ext'
  rw [Array.toList_setIfInBounds]
  simp only [bytesRow, str, Array.toList_append, Array.toList_map, Array.toList_replicate, ByteArray.size, List.size_toArray, List.length_set]
  have e : (fun b : UInt8 => Value.int .u8 (b.toNat : Int)) = bcell := rfl
  rw [List.set_append_left _ _ (by simpa using hi), e, ← List.map_set]
theorem Mkd.cell {W w : World} {g c : Nat} {T : List UInt8} (h : Mkd W g c T w) (i : Nat) (hi : i < T.length) : w.cell? ⟨g, i, none⟩ = some (bcell T[i]) := by
  rw [cell_of_row _ _ _ _ _ _ h.own, bytesRow_at (str T) c i (by simpa [str] using hi)]; rfl
theorem Mkd.free {W w : World} {g c : Nat} {T : List UInt8} (h : Mkd W g c T w) (i : Nat) (hi : i < (bytesRow (str T) c).size) : w.frozen? ⟨g, i, none⟩ = false := by
  simp only [World.frozen?, h.own]; simp; omega
theorem Mkd.set {W w : World} {g c : Nat} {T : List UInt8} (h : Mkd W g c T w) (i : Nat) (hi : i < T.length) (b : UInt8) {v : Value} (hv : v = bcell b) : Mkd W g c (T.set i b) (w.setCell ⟨g, i, none⟩ v) := by
  subst hv
  have e : (bytesRow (str (T.set i b)) c).size = (bytesRow (str T) c).size := by rw [← bytesRow_set T c i hi b]; simp
  refine ⟨?_, h.at_, h.below.setCell h.at_ _⟩
  rw [heap_setCell_mark w g i _ _ _ (bcell b) h.own, bytesRow_set T c i hi b, e]

theorem wp_appM {ops : Array Oper} {rest : List Oper} {o : Oper} {a : Act} {Q : Exit → Act → World → Prop} (hgd : o.guard = none) (s x : Operand)
    (ho : o.op = .call { callee := .builtin .append, args := #[s, x], argTypes := #[49, 49] }) (W0 W : World) (g c : Nat) (T : List UInt8) (b : UInt8) (xv : Int)
    (hown : Mkd W0 g c T W) (n : Nat) (hn : n = T.length) (hs : a.eval s = .slice (some ⟨g, 0, none⟩) n c) (hx : a.eval x = .slice (some ⟨W.heap.size, 0, none⟩) 1 1) (hb : xv = b.toNat) (hp : T.length < 1000)
    (h : ∀ v' w', (convert 49 9 v').run Try.prog w' = .ok (.string (str (T ++ [b]))) w' → Below W0.heap.size W0 w' → wpList Try.prog ops Q rest (a.put o.dst v') w') : wpList Try.prog ops Q (o :: rest) a (W.alloc (.cells #[.int .u8 xv] 5)) := by
  subst hb hn
  obtain ⟨i0, hi, hz0, hz1, hz2⟩ := info_parts Try.infoB
  have hlt : g < W.heap.size := (Array.getElem?_eq_some_iff.1 hown.own).1
  have hbel : Below W0.heap.size W0 (W.alloc (.cells #[.int .u8 (b.toNat : Int)] 5)) := hown.below.alloc hown.below.size _
  have hM : Mkd W0 g c T (W.alloc (.cells #[.int .u8 (b.toNat : Int)] 5)) := ⟨by rw [Below.heap_alloc _ _ _ hlt]; exact hown.own, hown.at_, hbel⟩
  have hrs := row_size T c
  refine wpList_append_arg _ hgd s x 49 ho 5 i0 (.int .u8 0) 1 1 Try.underlying49 hi hz0 hz1 hz2 rfl (by decide) g 0 T.length c (T.map bcell) hs (by simp)
    (fun j u hj => ?_) ⟨W.heap.size, 0, none⟩ 1 1 [bcell b] hx rfl (one_cell W _ _) (by intro u hu; simp at hu; subst hu; rfl) (fun hr j hj => ?_) (by unfold maxLen; omega) (by omega) (fun hr => ?_) (fun _ v' w' h1 h2 => ?_)
  · have hj' := (List.getElem?_eq_some_iff.1 hj).1
    rw [List.length_map] at hj'
    rw [Nat.zero_add, hM.cell j hj']
    simp [hj'] at hj; rw [hj]
  · have : j = 0 := by simpa using hj
    subst this
    rw [show 0 + T.length * 1 + 0 = T.length from by omega]
    refine ⟨?_, hM.free _ (by omega)⟩
    rw [cell_of_row _ _ _ _ _ _ hM.own, Array.getElem?_eq_getElem (by omega)]; rfl
  · refine h _ _ ?_ ?_
    · rw [show 0 + T.length * 1 = T.length from by omega]
      have hcells : ∀ j (hj : j < (T ++ [b]).length), ((W.alloc (.cells #[.int .u8 (b.toNat : Int)] 5)).setCells g T.length [bcell b]).cell? ((⟨g, 0, none⟩ : Addr).add j) = some (.int .u8 (((T ++ [b])[j]).toNat : Int)) := by
        intro j hj
        have hadd : (⟨g, 0, none⟩ : Addr).add j = ⟨g, j, none⟩ := by unfold Addr.add; split <;> simp_all
        rw [hadd]
        show ((W.alloc (.cells #[.int .u8 (b.toNat : Int)] 5)).setCell ⟨g, T.length, none⟩ (bcell b)).cell? ⟨g, j, none⟩ = _
        rw [cell_of_row _ _ _ _ _ _ (heap_setCell_mark _ g T.length _ _ _ (bcell b) hM.own)]
        by_cases hjl : j < T.length
        · rw [Array.getElem?_setIfInBounds_ne (by omega), bytesRow_at (str T) c j (by simpa [str] using hjl), List.getElem_append_left hjl]; rfl
        · have hj2 : j = T.length := by simp at hj; omega
          subst hj2
          rw [Array.getElem?_setIfInBounds_self_of_lt (by omega)]; simp [bcell]
      have := run_convert_bytes_back (P := Try.prog) _ 49 9 5 ⟨g, 0, none⟩ c (T ++ [b]) Try.underlying49 Try.underlying5 Try.underlying9 hcells
      rw [List.length_append] at this; exact this
    · exact hbel.setCell (p := ⟨g, 0 + T.length * 1, none⟩) hown.at_ _
  · refine h v' w' (owns_conv (B := (W.alloc (.cells #[.int .u8 (b.toNat : Int)] 5)).heap.size) ?_) (hbel.grown h2 hbel.size (by intro k hk; cases hk))
    simpa [OwnsB] using h1

/-- what Var reads at the front: nothing, or a form -/
theorem front (s : ByteArray) : ∃ (v : Int) (p : Nat) (f : Bool), vr s.data.toList 0 false = (v, p, f) ∧
    ((v = 0 ∧ p = 0 ∧ f = true) ∨ (f = false ∧ p ≤ s.size ∧ ((s.extract 0 p).toList == (str (Leb.varN (u64of v))).toList) = true)) := by
  cases hd : Leb.dec s.data.toList with
  | none => exact ⟨0, 0, true, by unfold vr; rw [if_neg (by simp), List.drop_zero, hd]; rfl, Or.inl ⟨rfl, rfl, rfl⟩⟩
  | some ng =>
    obtain ⟨n', p⟩ := ng
    obtain ⟨hn64, hp, rest, hrest⟩ := Leb.dec_some hd
    have hps : p ≤ s.size := by
      have := congrArg List.length hrest
      rw [lenS, List.length_append] at this; omega
    have hU : u64of (i64of n') = n' := by
      have : n' < 18446744073709551616 := hn64
      unfold i64of u64of; split <;> omega
    have hcut : ((s.extract 0 p).toList == (str (Leb.varN (u64of (i64of n')))).toList) = true := by
      have h := extract_str s 0 p
      rw [Nat.zero_add, List.drop_zero] at h
      rw [h, hU, hrest, hp]; simp
    exact ⟨i64of n', p, false, by unfold vr; rw [if_neg (by simp), List.drop_zero, hd]; simp [vrGo], Or.inr ⟨rfl, hps, hcut⟩⟩

set_option maxHeartbeats 2000000 in
set_option maxRecDepth 100000 in
theorem walk (s : ByteArray) (n : Int) (w : World) (hs : s.size ≤ 140737488351232) :
    Calls Try.prog 8 #[.string s, .int .i64 n] w fun e w' => e = .returned (.bool true) ∧ Below w.heap.size w w' := by
  have hs' : s.size ≤ 9223372036854775807 := by omega
  obtain ⟨v, p, f, T1, hdec⟩ := front s
  have T1 := Lib.hid T1
  go_enter Try.func8, Try.ntmps8
  go_wp2_with (first
    | (go_at_call 13; (with_reducible refine (sane_any _).mono ?_); rintro e w1 ⟨rfl, hb⟩)
    | (go_at_call 22; (with_reducible refine (RSt.read (W := w) ?_ s hs').mono ?_); (focus assumption); rintro e w2 ⟨rfl, hr, hbr⟩))
  generalize w1.heap.size = g at hr ⊢
  go_wp2_with (go_at_call 25; (with_reducible refine (RSt.var (W := w) ?_ T1.out).mono ?_); (focus assumption); rintro e w3 ⟨rfl, hr3, hg3⟩)
  clear hb hbr hr hg3
  go_cut [8] (fun v wx => v = .bool true ∧ Below w.heap.size w wx)
  case first =>
    rcases hdec with ⟨rfl, rfl, rfl⟩ | ⟨rfl, hps, hcut⟩
    · go_quiet ((first
        | (go_at_call 33; exact quiet_same (RSt.failed (W := w) (g := g) (s := s) (p := 0) (f := true) (hr3.drewN _)))
        | (go_at_call 31; exact quiet_same (RSt.pos (W := w) (g := g) (s := s) (p := 0) (f := true) (hr3.drewN _)))))
      go_wp2_with fail
      go_meet
      exact ⟨rfl, (hr3.drewN _).below⟩
    · have hp0 : (0 : Int) ≤ p := by omega
      have hp1 : (p : Int) ≤ s.size := by omega
      first
      | (go_region_with (first
        | (go_at_call 33; (with_reducible refine (RSt.failed (W := w) (g := g) (s := s) (p := p) (f := false) ?_).mono ?_); (focus (repeat (first | assumption | apply RSt.drew))); rintro e w' ⟨rfl, rfl⟩)
        | (go_at_call 31; (with_reducible refine (RSt.pos (W := w) (g := g) (s := s) (p := p) (f := false) ?_).mono ?_); (focus (repeat (first | assumption | apply RSt.drew))); rintro e w' ⟨rfl, rfl⟩)
        | (go_at_call 16; (with_reducible refine (RSt.pure (W := w) (g := g) (s := s) (p := p) (f := false) ?_ (var_any _ _)).mono ?_); (focus (repeat (first | assumption | apply RSt.drew))); rintro e w' ⟨rfl, hr'⟩)))
      | fail
      all_goals go_wp2_with fail
      all_goals go_meet
      all_goals exact ⟨rfl, hr'.below⟩
  case rest =>
  obtain ⟨rfl, hbc⟩ := hcut
  clear hr3 hdec T1
  have hpos := Leb.varN_pos (u64of n)
  have hlen := Leb.varN_len64 (u64of_lt n)
  have HD : Hid (∀ b, Leb.dec (((Leb.varN (u64of n)).dropLast ++ [b ||| 128]) ++ [0]) = none) := fun b => dec_long (u64of n) b
  go_upto_region 7 with (go_at_call 16; (with_reducible refine (var_any _ _).mono ?_); rintro e w4 ⟨rfl, hb4⟩; have hcb := run_bytes_of_string w4 9 49 5 (str (Leb.varN (u64of n))) Try.underlying9 Try.underlying49 Try.underlying5; rw [str_size] at hcb)
  have HM : Hid (Mkd w w4.heap.size (grownCap w4 (Leb.varN (u64of n)).length 0 5) (Leb.varN (u64of n)) (w4.alloc (Obj.cells (bytesRow (str (Leb.varN (u64of n))) (grownCap w4 (Leb.varN (u64of n)).length 0 5)) 5 ((bytesRow (str (Leb.varN (u64of n))) (grownCap w4 (Leb.varN (u64of n)).length 0 5)).size, (bytesRow (str (Leb.varN (u64of n))) (grownCap w4 (Leb.varN (u64of n)).length 0 5)).size + 1))).drew) := by
    have hb2 : Below w.heap.size w w4 := hbc.trans (hb4.mono hbc.size)
    exact ⟨heap_alloc_new _ _, hb2.size, (hb2.alloc hb2.size _).drew⟩
  clear hcb hbc hb4
  generalize (w4.alloc (Obj.cells (bytesRow (str (Leb.varN (u64of n))) (grownCap w4 (Leb.varN (u64of n)).length 0 5)) 5 ((bytesRow (str (Leb.varN (u64of n))) (grownCap w4 (Leb.varN (u64of n)).length 0 5)).size, (bytesRow (str (Leb.varN (u64of n))) (grownCap w4 (Leb.varN (u64of n)).length 0 5)).size + 1))).drew = w5 at HM ⊢
  generalize grownCap w4 (Leb.varN (u64of n)).length 0 5 = c at HM ⊢
  generalize w4.heap.size = g at HM ⊢
  generalize Leb.varN (u64of n) = T at HM HD hpos hlen ⊢
  obtain ⟨m, hm⟩ : ∃ m, T.length = m + 1 := ⟨T.length - 1, by omega⟩
  rw [hm] at hlen ⊢
  have hmT : m < T.length := by omega
  have hcell : w5.cell? ⟨g, m, none⟩ = some (.int .u8 ((T[m]'hmT).toNat : Int)) := HM.out.cell m hmT
  have hfree := HM.out.free m (Nat.lt_of_lt_of_le hmT (row_size T c).1)
  have hor := or_byte (T[m]'hmT)
  have HDD := Lib.hid (HD.out (T[m]'hmT))
  generalize (T[m]'hmT ||| 128) = y at hor HDD
  have HS : Hid (T.set m y = T.dropLast ++ [y]) := by
    unfold Hid
    have hne : T ≠ [] := by intro e; rw [e] at hmT; simp at hmT
    have hm' : m = T.length - 1 := by omega
    have e0 : T.getLast hne = T[m]'hmT := by rw [List.getLast_eq_getElem]; exact getElem_congr_idx hm'.symm
    have e1 : T = T.dropLast ++ [T[m]'hmT] := by rw [← e0]; exact (List.dropLast_concat_getLast hne).symm
    have e2 : T.dropLast.length = m := by rw [List.length_dropLast]; omega
    generalize hx : T[m]'hmT = x at e1 ⊢
    generalize T.dropLast = D at e1 e2 ⊢
    subst e1 e2
    simp
  go_upto_region 10 with fail
  have HM6 : Hid (Mkd w g c (T.dropLast ++ [y]) (w5.setCell ⟨g, m, none⟩ (.int .u8 (y.toNat : Int)))) := by
    have := HM.out.set m hmT y rfl
    rw [HS.out] at this; exact this
  have HL : Hid ((T.dropLast ++ [y]).length = m + 1) := by unfold Hid; simp; omega
  clear hcell hfree hor HS HD HM
  generalize (w5.setCell ⟨g, m, none⟩ (.int .u8 (y.toNat : Int))) = w6 at HM6 ⊢
  generalize T.dropLast ++ [y] = U at HM6 HDD HL
  have HZ : Hid ((str (U ++ [0])).size ≤ 9223372036854775807) := by
    have := HL.out
    unfold Hid; rw [str_size, List.length_append, this]; simp; omega
  have HV : Hid (vr (str (U ++ [0])).data.toList 0 false = (0, 0, true)) := by
    unfold Hid vr; rw [if_neg (by simp), List.drop_zero, str_toList, HDD.out]; rfl
  go_upto_region 11 with (first
    | (go_at_call 22; (with_reducible refine (RSt.read (W := w) ?_ _ HZ.out).mono ?_); (focus assumption); rintro e w7 ⟨rfl, hr, hbr⟩)
    | (at_builtin; (refine wp_appM rfl (.tmp 64) (.tmp 65) rfl w w6 g c U 0 _ HM6.out (m + 1) ?e1 (by rfl) (by rfl) ?e2 ?e3 ?_; rotate_right; intro v' w' hcv hb')))
  case e1 => exact HL.out.symm
  case e2 => rfl
  case e3 => have := HL.out; omega
  generalize w'.heap.size = q at hr ⊢
  go_wp2_with (first
    | (go_at_call 25; (with_reducible refine (RSt.var (W := w) ?_ HV.out).mono ?_); (focus assumption); rintro e w8 ⟨rfl, hr8, hg8⟩)
    | (go_at_call 33; (with_reducible refine (RSt.failed (W := w) (g := q) (s := str (U ++ [0])) (p := 0) (f := true) ?_).mono ?_); (focus (repeat (first | assumption | apply RSt.drew))); rintro e w9 ⟨rfl, rfl⟩))
  go_ret
  exact ⟨rfl, hr8.below⟩

set_option maxRecDepth 100000 in
theorem lifted (os : Os) (started : os.Started) (H : Type) (enc : TypeId × Value → H) :
    ReturnsInHanded {} Try.checked os 8 .any (Rows.octetVarUniqueSpec.pre6 enc Try.prog Try.f8 Rows.octetVarUniqueRow.domain false) (Rows.octetVarUniqueSpec.post enc Try.prog Try.f8 false true false false) := by
  refine returnsInHanded_of_change_sized (C := Try.checked) own started (by kernel_rfl) Try.func8
    (ChangeSpec.witness6 (enc := enc) (C := Try.checked) false ⟨#[], #[.string ByteArray.empty, .int .i64 0], []⟩ 8 (by kernel_rfl) (by kernel_rfl) (by kernel_rfl) (by kernel_rfl)) ?_
  intro W base args ds gs before hval0 hW _ hsz0 _
  have hval : ∀ (j : Nat) t v, Try.f8.params[j]? = some t → args[j]? = some v → Value.okWide Try.prog W .any base t v := hval0
  have hsz : (DataW.weightsEach Try.prog (Try.f8.params.toList ++ Rows.octetVarUniqueSpec.plain.varTypes Try.prog) (ds ++ gs)).all (· ≤ reachBytes) = true := hsz0
  have hW' := hW
  obtain ⟨p, q, hA0, hV, rfl, hfz, hnd⟩ := hW
  have hA : DataW.TrodAll enc Try.prog W 0 (fun _ => true) true Try.f8.params.toList args.toList ds p := hA0
  rw [Try.params8] at hA hval hsz
  obtain ⟨v0, v1, d0, d1, p0, p1, rfl, rfl, rfl, h0, h1⟩ := trodAll_two hA
  obtain ⟨rfl, rfl⟩ := trodVars_none hV
  obtain ⟨s, rfl, rfl, rfl, ws⟩ := open_string Try.underlying9 (hval 0 9 v0 rfl rfl) h0
  obtain ⟨n, rfl, rfl, rfl, wn⟩ := open_int Try.underlying3 (hval 1 3 v1 rfl rfl) h1
  have hss : s.data.toList.length ≤ reachBytes := sized_string hsz (j := 0) (t := 9) rfl rfl
  rw [Array.length_toList] at hss
  refine (walk s n W hss).mono fun e W' ⟨he, hb⟩ => ?_
  subst he
  exact ⟨_, rfl, law_post hW' rfl (by kernel_rfl) rfl (by intro t ht; rw [Try.params8] at ht; simp at ht; rcases ht with rfl | rfl <;> exact ⟨by kernel_rfl, of_decide_eq_true (by kernel_rfl)⟩) hb⟩

theorem holds : Rows.OctetVarUniqueSaid :=
  OpenClaim.holds_of_wide 8 Try.f8 rfl rfl rfl rfl rfl rfl rfl ⟨rfl, rfl, rfl, rfl, rfl⟩ rfl rfl rfl rfl rfl (by kernel_rfl) Try.func8 (by kernel_rfl)
    (of_decide_eq_true (by kernel_rfl)) (by unfold Func.isWrapper; first | (rw [if_pos (by decide +kernel)]; kernel_rfl) | (rw [if_neg (by decide +kernel)]; exact ⟨rfl, rfl⟩))
    (fun os started H enc _ => lifted os started H enc)
end Go.Proofs.Ytgalkcfcpkkjgaa.VarUniq
