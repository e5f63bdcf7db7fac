/-
  PredictCost: Cost agrees with the reference on every string, is additive, does not depend on the order of the bytes, and is 0 only for noughts.
-/
import Derived.Test.YtjaipjgnchpjcaaPLaw
namespace Go.Proofs.Ytjaipjgnchpjcaa.P.PLCost
open Go.ChangeShapes Go.WideShapes Go.ChangeAt Go.RowKit Go.Shelf T
open Go.ChangeMaps (open_string)
set_option maxRecDepth 100000

/-- are the bytes from m on noughts? -/
def zz (l : List UInt8) (m : Nat) : Bool := decide (∀ b ∈ l.drop m, b = 0)
theorem zz_end (l : List UInt8) : zz l l.length = true := by unfold zz; rw [List.drop_length]; simp
theorem zz_all (l : List UInt8) : zz l 0 = decide (cst l = 0) := by unfold zz; rw [List.drop_zero]; exact decide_eq_decide.2 (cst_zero l).symm
theorem zz_succ (s : ByteArray) (j : Nat) (h : j < s.size) : zz s.data.toList j = (zz s.data.toList (j + 1) && decide (s[j] = 0)) := by
  have hl : s.data.toList.length = s.size := Array.length_toList
  unfold zz
  rw [List.drop_eq_getElem_cons (by omega), Bool.eq_iff_iff]
  have e : s.data.toList[j] = s[j] := by rw [Array.getElem_toList]; rfl
  rw [e]
  simp [and_comm]
/-- the bytes from m on, turned around -/
def rv (l : List UInt8) (m : Nat) : List UInt8 := (l.drop m).reverse
theorem rv_end (l : List UInt8) : rv l l.length = [] := by unfold rv; rw [List.drop_length]; rfl
theorem rv_succ (s : ByteArray) (j : Nat) (h : j < s.size) : rv s.data.toList (j + 1) ++ [s[j]] = rv s.data.toList j := by
  have hl : s.data.toList.length = s.size := Array.length_toList
  unfold rv
  rw [List.drop_eq_getElem_cons (i := j) (by omega), List.reverse_cons]
  have e : s.data.toList[j] = s[j] := by rw [Array.getElem_toList]; rfl
  rw [e]
theorem rv_len (s : ByteArray) (m : Nat) : (rv s.data.toList m).length = s.size - m := by
  have hl : s.data.toList.length = s.size := Array.length_toList
  unfold rv; rw [List.length_reverse, List.length_drop, hl]
/-- 'append(v, b)': a byte behind what the call owns -/
theorem wpList_app1 {ops : Array Oper} {rest : List Oper} {o : Oper} {a : Act} {w : World} {Q : Exit → Act → World → Prop} (hg : o.guard = none) (s x : Operand)
    (ho : o.op = .call { callee := .builtin .append, args := #[s, x], argTypes := #[28, 28] }) (B : Nat) (v : Value) (l : List UInt8) (q : Nat) (b : UInt8)
    (hs : a.eval s = v) (hown : OwnsB B w v l) (hx : a.eval x = .slice (some ⟨q, 0, none⟩) 1 1) (hq : w.heap[q]? = some (.cells #[.int .u8 (b.toNat : Int)] 5)) (hl : l.length < 140737488355328) (hB : B ≤ w.heap.size)
    (h : ∀ v' w', OwnsB B w' v' (l ++ [b]) → Below B w w' → wpList Try.prog ops Q rest (a.put o.dst v') w') : wpList Try.prog ops Q (o :: rest) a w := by
  obtain ⟨i0, hi, hz0, hz1, hz2⟩ := info_parts infoB
  refine wpList_plain hg fun K hK => ?_
  refine wp_append_own _ s x 28 ho B 5 i0 (.int .u8 0) 1 1 Try.underlying28 hi hz0 hz1 hz2 rfl (by decide) v _ _ hs hown ⟨q, 0, none⟩ 1 1 ([b].map bcell) hx rfl ?_
    (by intro u hu; simp at hu; subst hu; rfl) (by unfold maxLen; omega) (by omega) hB ?_
  · intro j u hj
    have hadd : (⟨q, 0, none⟩ : Addr).add j = ⟨q, j, none⟩ := by unfold Addr.add; split <;> simp_all
    rw [hadd, cell_of_row _ _ j _ _ (0, 0) hq]
    rw [← hj]; exact List.getElem?_toArray
  intro v' w' h1 h2 _
  refine hK _ _ (h v' w' (by simpa [OwnsB] using h1) ((Below.refl B w).grown h2 hB ?_))
  intro k hk
  obtain ⟨_, ⟨rfl, _⟩ | ⟨g, cap, cur, rfl, hg, _⟩⟩ := hown
  · simp [Value.ownBlock] at hk
  · simp [Value.ownBlock] at hk; omega

set_option maxHeartbeats 8000000 in
set_option maxRecDepth 100000 in
theorem walk (s : ByteArray) (t : ByteArray) (w : World) (hs : s.size ≤ 140737488355328) (ht : t.size ≤ 140737488355328) : Calls Try.prog 5 #[.string s, .string t] w fun e w' => e = .returned (.bool true) ∧ Below w.heap.size w w' := by
  have hl : s.data.toList.length = s.size := Array.length_toList
  have hlt : t.data.toList.length = t.size := Array.length_toList
  obtain ⟨x, hx⟩ : ∃ x, x = cst s.data.toList := ⟨_, rfl⟩
  obtain ⟨y, hy⟩ : ∃ y, y = cst t.data.toList := ⟨_, rfl⟩
  have bx := cst_bd s.data.toList
  have bt := cst_bd t.data.toList
  rw [← hx, hl] at bx
  rw [← hy, hlt] at bt
  have HS : Hid (∀ V, Calls Try.prog 17 #[.string s] V fun e w' => e = .returned (.int .i64 x) ∧ V = w') := fun V => by
    rw [hx]; exact cost_any s V (by omega)
  have HT : Hid (∀ V, Calls Try.prog 17 #[.string t] V fun e w' => e = .returned (.int .i64 y) ∧ V = w') := fun V => by
    rw [hy]; exact cost_any t V (by omega)
  have HU : Hid (∀ V, Calls Try.prog 17 #[.string (s ++ t)] V fun e w' => e = .returned (.int .i64 (x + y)) ∧ V = w') := fun V => by
    have h := cost_any (s ++ t) V (by rw [ByteArray.size_append]; omega)
    have e : (s ++ t).data.toList = s.data.toList ++ t.data.toList := by rw [ByteArray.data_append, Array.toList_append]
    rw [e, cst_app, ← hx, ← hy] at h; exact h
  have HV : Hid (∀ V, Calls Try.prog 17 #[.string (str (rv s.data.toList 0))] V fun e w' => e = .returned (.int .i64 x) ∧ V = w') := fun V => by
    have h := cost_any (str (rv s.data.toList 0)) V (by rw [str_size, rv_len]; omega)
    have e : (str (rv s.data.toList 0)).data.toList = s.data.toList.reverse := by simp [str, rv]
    rw [e, cst_rev, ← hx] at h; exact h
  have HR : Hid (∀ V, Calls Try.prog 18 #[.string s] V fun e w' => e = .returned (.int .i64 x) ∧ Below V.heap.size V w') := fun V => by rw [hx]; exact refCost_any s V (by omega)
  have HX := Lib.hid hx
  have HL := Lib.hid hl
  clear hx hy hl hlt
  have h0 := St.start w
  go_enter Try.func5, Try.ntmps5
  go_upto_region 2 with (first | (go_at_call 10; (with_reducible refine (St.call h0 (sanity_any _)).mono ?_); rintro e w1 ⟨rfl, h1⟩))
  go_upto_region 4 with fail
  have hO := World.ownsRow_made (base := w.heap.size) (size := 1) (e := 5) w1 #[] 0 h1.below.size (by unfold maxLen; omega) rfl
  have h2 := (h1.alloc (.cells #[] 5)).below
  have HO : Hid (OwnsB w.heap.size (w1.alloc (.cells #[] 5)) (.slice (some ⟨w1.heap.size, 0, none⟩) 0 0) []) := Lib.hid hO
  have HB := Lib.hid h2
  clear hO h2 h1 h0
  generalize w1.alloc (.cells #[] 5) = w2 at HO HB ⊢
  go_wp2
  go_loopw [6, 7, 8] (fun v z i wr => ∃ m : Nat, m ≤ s.size ∧ i = .int .i64 ((m : Int) - 1) ∧ z = .bool (zz s.data.toList m) ∧ Hid (OwnsB w.heap.size wr v (rv s.data.toList m)) ∧ Hid (Below w.heap.size w wr)) (fun _ _ i _ => (intOf i + 1).toNat)
  case atStart => exact ⟨s.size, Nat.le_refl _, rfl, by rw [← HL.out, zz_end], by rw [← HL.out, rv_end]; exact HO.out, HB.out⟩
  case round =>
    clear HO HB
    obtain ⟨m, hm, rfl, rfl, HO, HB⟩ := hrel
    match m, hm with
    | 0, _ =>
      rw [show (((0 : Nat) : Int) - 1) = -1 from rfl, zz_all, ← HX.out]
      have h5 : St w [] wr := ⟨HB.out, by intro x hx; cases hx⟩
      by_cases hz : x = 0
      · rw [decide_eq_true hz]
        go_wp2_with (first | (go_at_call 17; (with_reducible refine (HS.out _).mono ?_); rintro e wq ⟨rfl, rfl⟩) | (go_at_call 17; (with_reducible refine (HU.out _).mono ?_); rintro e wq ⟨rfl, rfl⟩) | (go_at_call 17; (with_reducible refine (HT.out _).mono ?_); rintro e wq ⟨rfl, rfl⟩) | (go_at_call 17; (with_reducible refine (HV.out _).mono ?_); rintro e wq ⟨rfl, rfl⟩) | (go_at_call 18; (with_reducible refine (HR.out _).mono ?_); rintro e w6 ⟨rfl, hb6⟩; have h6 := h5.later hb6; have hcv6 := owns_conv (HO.out.later hb6); clear hb6))
        go_ret
        exact ⟨rfl, h6.below⟩
      · rw [decide_eq_false hz]
        go_wp2_with (first | (go_at_call 17; (with_reducible refine (HS.out _).mono ?_); rintro e wq ⟨rfl, rfl⟩) | (go_at_call 17; (with_reducible refine (HU.out _).mono ?_); rintro e wq ⟨rfl, rfl⟩) | (go_at_call 17; (with_reducible refine (HT.out _).mono ?_); rintro e wq ⟨rfl, rfl⟩) | (go_at_call 17; (with_reducible refine (HV.out _).mono ?_); rintro e wq ⟨rfl, rfl⟩) | (go_at_call 18; (with_reducible refine (HR.out _).mono ?_); rintro e w6 ⟨rfl, hb6⟩; have h6 := h5.later hb6; have hcv6 := owns_conv (HO.out.later hb6); clear hb6))
        go_ret
        exact ⟨ret_bool (by simp [hz]), h6.below⟩
    | j + 1, hm =>
      have hj : j < s.size := hm
      rw [show (((j + 1 : Nat) : Int) - 1) = (j : Int) by omega]
      have ez := zz_succ s j hj
      generalize zz s.data.toList (j + 1) = z at ez ⊢
      have er := rv_succ s j hj
      have hle : (rv s.data.toList (j + 1)).length < 140737488355328 := by rw [rv_len]; omega
      have hq := World.alloc_heap_new wr (.cells #[.int .u8 (s[j].toNat : Int)] 5)
      have hq' : (wr.alloc (.cells #[.int .u8 (s[j].toNat : Int)] 5)).heap[wr.heap.size]? = some (.cells #[.int .u8 (s[j].toNat : Int)] 5) := hq
      have HQ := Lib.hid hq'
      have HO1 := Lib.hid (HO.out.later (below1 (o := .cells #[.int .u8 (s[j].toNat : Int)] 5)))
      have hB1 : Below w.heap.size w (wr.alloc (.cells #[.int .u8 (s[j].toNat : Int)] 5)) := HB.out.alloc HB.out.size _
      have HB1 := Lib.hid hB1
      have HE := Lib.hid er
      have HZ := Lib.hid ez
      have HLE := Lib.hid hle
      clear hq hq' hB1 er ez hle
      go_upto_region 8 with (first | (refine wpList_app1 rfl (.tmp 18) (.tmp 22) rfl w.heap.size _ _ wr.heap.size s[j] rfl HO1.out rfl HQ.out HLE.out HB1.out.size ?_; intro v3 w3 ho3 hb3; rw [HE.out] at ho3; have HO3 := Lib.hid ho3; have hb4 := HB1.out.trans hb3; have HB3 := Lib.hid hb4; clear ho3 hb3 hb4))
      clear HQ HO1 HB1 HE HLE HO HB
      cases z
      · go_wp2
        go_roundw
        case rel => exact ⟨j, by omega, rfl, by rw [HZ.out]; rfl, HO3.out, HB3.out⟩
        case measure => simp [intOf] <;> omega
      · by_cases hb : s[j] = 0
        · have hn : ((s[j]).toNat : Int) = 0 := by rw [hb]; rfl
          have hd : decide (s[j] = 0) = true := decide_eq_true hb
          rw [hd] at HZ
          clear hb hd
          go_wp2
          go_roundw
          case rel => exact ⟨j, by omega, rfl, by rw [HZ.out]; rfl, HO3.out, HB3.out⟩
          case measure => simp [intOf] <;> omega
        · have hn : ¬ ((s[j]).toNat : Int) = 0 := fun h => hb (UInt8.toNat_inj.1 (by rw [show (0 : UInt8).toNat = 0 from rfl]; omega))
          have hd : decide (s[j] = 0) = false := decide_eq_false hb
          rw [hd] at HZ
          clear hb hd
          go_wp2
          go_roundw
          case rel => exact ⟨j, by omega, rfl, by rw [HZ.out]; exact congrArg Value.bool (by simp; omega), HO3.out, HB3.out⟩
          case measure => simp [intOf] <;> omega

theorem okin (W : World) (base : Nat) : Input.okWide Try.checked.prog W .any base 5 ⟨#[], #[.string ByteArray.empty, .string ByteArray.empty], []⟩ := by
  refine ⟨by simp, by simp, by kernel_rfl, Try.f5, Try.func5, by kernel_rfl, by kernel_rfl, by kernel_rfl, by rw [Try.params5]; rfl, ?_⟩
  intro j t v ht hv
  rw [Try.params5] at ht
  match j with
  | 0 => cases (Option.some.inj ht); cases (Option.some.inj hv); exact ok_str W base
  | 1 => cases (Option.some.inj ht); cases (Option.some.inj hv); exact ok_str W base
  | j + 2 => simp at ht
theorem lifted (os : Os) (started : os.Started) (H : Type) (enc : TypeId × Value → H) :
    ReturnsInHanded {} Try.checked os 5 .any (Rows.predictCostSpec.pre6 enc Try.prog Try.f5 Rows.predictCostRow.domain false) (Rows.predictCostSpec.post enc Try.prog Try.f5 false true false false) := by
  refine returnsInHanded_of_change_sized (C := Try.checked) own started (by kernel_rfl) Try.func5
    (witness7 (enc := enc) (C := Try.checked) false ⟨#[], #[.string ByteArray.empty, .string ByteArray.empty], []⟩ 8 (by kernel_rfl) (by kernel_rfl) (fun W base => okin W base) (by kernel_rfl) (by kernel_rfl)) ?_
  intro W base args ds gs before hval0 hW _ hsz0 _
  have hval : ∀ (j : Nat) t v, Try.f5.params[j]? = some t → args[j]? = some v → Value.okWide Try.prog W .any base t v := hval0
  have hW' := hW
  obtain ⟨p, q, hA0, hV, rfl, hfz, hnd⟩ := hW
  have hA : DataW.TrodAll enc Try.prog W 0 (fun _ => true) true Try.f5.params.toList args.toList ds p := hA0
  have hsz : (DataW.weightsEach Try.prog (Try.f5.params.toList ++ Rows.predictCostSpec.plain.varTypes Try.prog) (ds ++ gs)).all (· ≤ reachBytes) = true := hsz0
  rw [Try.params5] at hA hval hsz
  obtain ⟨v0, v1, d0, d1, p0, p1, rfl, rfl, rfl, h0, h1⟩ := trodAll_two hA
  obtain ⟨rfl, rfl⟩ := trodVars_none hV
  obtain ⟨s, rfl, rfl, rfl, ws⟩ := open_string Try.underlying9 (hval 0 9 v0 rfl rfl) h0
  have hs : s.size ≤ 140737488355328 := by have h := sized_string hsz (j := 0) (t := 9) rfl rfl; rw [show s.data.toList.length = s.size from Array.length_toList] at h; exact Nat.le_trans h (by decide)
  obtain ⟨t, rfl, rfl, rfl, wt⟩ := open_string Try.underlying9 (hval 1 9 v1 rfl rfl) h1
  have ht : t.size ≤ 140737488355328 := by have h := sized_string hsz (j := 1) (t := 9) rfl rfl; rw [show t.data.toList.length = t.size from Array.length_toList] at h; exact Nat.le_trans h (by decide)
  refine (walk s t W hs ht).mono fun e W' ⟨he, hb⟩ => ?_
  subst he
  exact ⟨_, rfl, law_post hW' rfl (by kernel_rfl) rfl (by intro t ht; rw [Try.params5] at ht; simp at ht; subst ht; exact ⟨by kernel_rfl, of_decide_eq_true (by kernel_rfl)⟩) hb⟩

theorem holds : Rows.PredictCostSaid :=
  OpenClaim.holds_of_wide 5 Try.f5 rfl rfl rfl rfl rfl rfl rfl ⟨rfl, rfl, rfl, rfl, rfl⟩ rfl rfl rfl rfl rfl (by kernel_rfl) Try.func5 (by kernel_rfl)
    (of_decide_eq_true (by kernel_rfl)) (by unfold Func.isWrapper; first | (rw [if_pos (by decide +kernel)]; kernel_rfl) | (rw [if_neg (by decide +kernel)]; exact ⟨rfl, rfl⟩))
    (fun os started H enc _ => lifted os started H enc)
end Go.Proofs.Ytjaipjgnchpjcaa.P.PLCost
