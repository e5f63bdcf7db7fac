/-
  OctetLinear: for three strings of equal length (cut to the shortest one's), the checksum of their bytewise exclusive or is the exclusive or of their checksums. No conditions.
-/
import Derived.Test.YtgalkcfcpkkjgaaLaw
import Derived.Test.YtgalkcfcpkkjgaaSane
import Derived.Test.YtgalkcfcpkkjgaaTab
import Derived.Deep.DeepCutAuto
namespace Go.Proofs.Ytgalkcfcpkkjgaa.Linear
open Go.ChangeShapes Go.WideShapes Go.ChangeAt Go.RowKit
open Go.ChangeMaps (open_string shut_string)

def rowN (n : Nat) (p : List UInt8) : Array Value := (p.map bcell ++ List.replicate (n - p.length) (Value.int .u8 0)).toArray
theorem rowN_size {n : Nat} {p : List UInt8} (h : p.length ≤ n) : (rowN n p).size = n := by simp [rowN]; omega
theorem rowN_set {n : Nat} {p : List UInt8} (h : p.length < n) (b : UInt8) {v : Value} (hv : v = bcell b) : (rowN n p).setIfInBounds p.length v = rowN n (p ++ [b]) := by
  subst hv
  unfold rowN
  apply Array.ext'
  rw [Array.toList_setIfInBounds]
  have e : n - p.length = (n - (p.length + 1)) + 1 := by omega
  rw [e, List.replicate_succ]
  have e2 : (List.map bcell p ++ Value.int .u8 0 :: List.replicate (n - (p.length + 1)) (Value.int .u8 0)).set p.length (bcell b) = List.map bcell p ++ bcell b :: List.replicate (n - (p.length + 1)) (Value.int .u8 0) := by
    have := List.set_append_right (s := List.map bcell p) (t := Value.int .u8 0 :: List.replicate (n - (p.length + 1)) (Value.int .u8 0)) p.length (bcell b) (by simp)
    rw [this]; simp
  simp only [List.map_append, List.map_cons, List.map_nil, List.length_append, List.length_cons, List.length_nil, List.append_assoc, List.cons_append, List.nil_append]
  exact e2
structure LinMem (W : World) (g n : Nat) (p : List UInt8) (w : World) : Prop where
  own : w.heap[g]? = some (.cells (rowN n p) 5 (0, 0))
  at_ : W.heap.size ≤ g
  below : Below W.heap.size W w
theorem LinMem.cell {W w : World} {g n : Nat} {p : List UInt8} (h : LinMem W g n p w) (hp : p.length ≤ n) (i : Nat) (hi : i < n) : ∃ v, w.cell? ⟨g, i, none⟩ = some v := by
  rw [cell_of_row _ _ _ _ _ _ h.own]; exact ⟨_, Array.getElem?_eq_getElem (by rw [rowN_size hp]; exact hi)⟩
theorem LinMem.free {W w : World} {g n : Nat} {p : List UInt8} (h : LinMem W g n p w) (i : Nat) : w.frozen? ⟨g, i, none⟩ = false := frozen_of_row _ _ _ _ _ h.own
theorem LinMem.drew {W w : World} {g n : Nat} {p : List UInt8} (h : LinMem W g n p w) : LinMem W g n p w.drew := ⟨h.own, h.at_, h.below.drew⟩
theorem LinMem.set {W w : World} {g n : Nat} {p : List UInt8} (h : LinMem W g n p w) (hp : p.length < n) (b : UInt8) (k : Nat) (hk : k = p.length) {v : Value} (hv : v = bcell b) : LinMem W g n (p ++ [b]) (w.setCell ⟨g, k, none⟩ v) := by
  subst hk
  exact ⟨by rw [heap_setCell_same _ _ _ _ _ _ h.own, rowN_set hp b hv], h.at_, h.below.setCell h.at_ _⟩
theorem LinMem.conv {W w : World} {g n : Nat} {p : List UInt8} (h : LinMem W g n p w) (hn : n = p.length) : (convert 49 9 (.slice (some ⟨g, 0, none⟩) n n)).run Try.prog w = .ok (.string (str p)) w := by
  subst hn
  have e : rowN p.length p = (p.map bcell).toArray := by simp [rowN]
  exact conv_own h.own e p.length rfl
theorem LinMem.call {P : Program} {f : FuncId} {args : Array Value} {w : World} {v : Value} {W : World} {g n : Nat} {p : List UInt8} (hs : LinMem W g n p w)
    (h : Calls P f args w fun e w' => e = .returned v ∧ Below w.heap.size w w') : Calls P f args w fun e w' => e = .returned v ∧ LinMem W g n p w' :=
  h.mono fun _ w' ⟨h1, h2⟩ => ⟨h1, ⟨by rw [h2.block g (Array.getElem?_eq_some_iff.1 hs.own).1]; exact hs.own, hs.at_, hs.below.trans (h2.mono hs.below.size)⟩⟩
theorem linMem_start {W w0 w : World} {n : Nat} (hb : Below W.heap.size W w0) (h : w.ownsRow w0.heap.size 5 1 (.slice (some ⟨w0.heap.size, 0, none⟩) n n) n (madeCells (Value.int .u8 0).cells (n * 1)).toList) (hg : w0.grownBy w none) : LinMem W w0.heap.size n [] w := by
  refine ⟨?_, hb.size, hb.grown hg hb.size (by intro k hk; cases hk)⟩
  obtain ⟨hl, ⟨hv, _⟩ | ⟨g, cap, cur, hv, hb, hh, hn, hc, hs, ht⟩⟩ := h
  · simp at hv
  · simp only [Value.slice.injEq, Option.some.injEq, Addr.mk.injEq, and_true, true_and] at hv
    obtain ⟨rfl, rfl⟩ := hv
    rw [hh]
    have e : cur = rowN n [] := by
      apply Array.ext'
      rw [zeroB, List.take_of_length_le (by rw [Array.length_toList]; omega)] at ht
      rw [ht]; simp [rowN]
    rw [e]

theorem xor3_snoc : ∀ (us bs cs : List UInt8) (a b c : UInt8), bs.length = us.length → cs.length = us.length → Crc.xor3 (us ++ [a]) (bs ++ [b]) (cs ++ [c]) = Crc.xor3 us bs cs ++ [a ^^^ b ^^^ c]
  | [], [], [], _, _, _, _, _ => rfl
  | x :: us, y :: bs, z :: cs, a, b, c, h1, h2 => by
    have := xor3_snoc us bs cs a b c (by simpa using h1) (by simpa using h2)
    simp only [List.cons_append, Crc.xor3, this]
theorem xor3_len : ∀ (us bs cs : List UInt8), bs.length = us.length → cs.length = us.length → (Crc.xor3 us bs cs).length = us.length
  | [], [], [], _, _ => rfl
  | x :: us, y :: bs, z :: cs, h1, h2 => by
    have := xor3_len us bs cs (by simpa using h1) (by simpa using h2)
    simp only [Crc.xor3, List.length_cons, this]
/-- the first k bytes of the exclusive or -/
def xs (a b c : ByteArray) (k : Nat) : List UInt8 := Crc.xor3 (a.data.toList.take k) (b.data.toList.take k) (c.data.toList.take k)
theorem take_len {a : ByteArray} {k : Nat} (h : k ≤ a.size) : (a.data.toList.take k).length = k := by rw [List.length_take, Array.length_toList]; exact Nat.min_eq_left h
theorem take_next {a : ByteArray} {k : Nat} (h : k < a.size) : a.data.toList.take (k + 1) = a.data.toList.take k ++ [a[k]] := by
  rw [List.take_succ_eq_append_getElem (by simpa using h)]; rfl
theorem xs_len {a b c : ByteArray} {k : Nat} (ha : k ≤ a.size) (hb : k ≤ b.size) (hc : k ≤ c.size) : (xs a b c k).length = k := by
  unfold xs; rw [xor3_len _ _ _ (by rw [take_len ha, take_len hb]) (by rw [take_len ha, take_len hc]), take_len ha]
theorem xs_next {a b c : ByteArray} {k : Nat} (ha : k < a.size) (hb : k < b.size) (hc : k < c.size) : xs a b c (k + 1) = xs a b c k ++ [a[k] ^^^ b[k] ^^^ c[k]] := by
  unfold xs; rw [take_next ha, take_next hb, take_next hc, xor3_snoc _ _ _ _ _ _ (by rw [take_len (by omega), take_len (by omega)]) (by rw [take_len (by omega), take_len (by omega)])]
theorem xor_byte (x y z : UInt8) : bits BinOp.xor IntKind.u8 (bits BinOp.xor IntKind.u8 (x.toNat : Int) (y.toNat : Int)) (z.toNat : Int) = ((x ^^^ y ^^^ z).toNat : Int) := by
  have h1 := u8_xor_nat x.toNat y.toNat (Leb.u8lt x) (Leb.u8lt y)
  rw [h1, ← UInt8.toNat_xor, u8_xor_nat _ _ (Leb.u8lt _) (Leb.u8lt z), ← UInt8.toNat_xor]
theorem xor_sums {p q r : Nat} (hp : p < 4294967296) (hq : q < 4294967296) (hr : r < 4294967296) : bits BinOp.xor IntKind.u32 (bits BinOp.xor IntKind.u32 (p : Int) (q : Int)) (r : Int) = ((p ^^^ q ^^^ r : Nat) : Int) := by
  rw [u32_xor_nat p q hp hq, u32_xor_nat _ r (Nat.xor_lt_two_pow (n := 32) hp hq) hr]

set_option maxHeartbeats 1000000 in
set_option maxRecDepth 100000 in
theorem walk (a b c : ByteArray) (w : World) (ha : a.size ≤ 140737488351232) (_hb : b.size ≤ 140737488351232) (_hc : c.size ≤ 140737488351232) : Calls Try.prog 12 #[.string a, .string b, .string c] w fun e w' => e = .returned (.bool true) ∧ Below w.heap.size w w' := by
  obtain ⟨i0, hi, hz0, hz1, hz2⟩ := info_parts Try.infoB
  go_enter Try.func12, Try.ntmps12
  go_upto_region 2 with (go_at_call 13; (with_reducible refine (sane_any _).mono ?_); rintro e w1 ⟨rfl, hb1⟩)
  go_cut [8] (fun v wx => Below w.heap.size w wx ∧ ∃ n : Nat, v = .int .i64 n ∧ n ≤ a.size ∧ n ≤ b.size ∧ n ≤ c.size)
  case first =>
    by_cases h1 : b.size < a.size
    · by_cases h2 : c.size < b.size
      · go_wp2_with fail
        all_goals (go_meet; exact ⟨hb1, c.size, rfl, by omega, by omega, by omega⟩)
      · go_wp2_with fail
        all_goals (go_meet; exact ⟨hb1, b.size, rfl, by omega, by omega, by omega⟩)
    · by_cases h2 : c.size < a.size
      · go_wp2_with fail
        all_goals (go_meet; exact ⟨hb1, c.size, rfl, by omega, by omega, by omega⟩)
      · go_wp2_with fail
        all_goals (go_meet; exact ⟨hb1, a.size, rfl, by omega, by omega, by omega⟩)
  case rest =>
    obtain ⟨hb2, n, rfl, hna, hnb, hnc⟩ := hcut
    go_wp2_with (at_make; refine wpList_make_full _ rfl (.tmp 19) (.tmp 19) 49 rfl _ 5 i0 (.int .u8 0) 1 Try.underlying49 hi hz0 hz1 .i64 .i64 _ _ n rfl rfl ?c1 ?c2 ?c3 ?c4 (Nat.le_refl _) ?_; rotate_right; intro w3 hown hgrow)
    case c1 => rfl
    case c2 => rfl
    case c3 => rw [hz2]; omega
    case c4 => unfold maxLen; omega
    have HM0 : Hid (LinMem w wc.heap.size n [] w3) := linMem_start hb2 hown hgrow
    clear hi hz0 hz1 hz2 hown hgrow hb1 hb2
    generalize wc.heap.size = g at HM0 ⊢
    go_loopw [10] (fun i wr => ∃ k : Nat, k ≤ n ∧ i = .int .i64 k ∧ Hid (LinMem w g n (xs a b c k) wr)) (fun i _ => n - (intOf i).toNat)
    case atStart => exact ⟨0, Nat.zero_le _, rfl, HM0⟩
    case round =>
      obtain ⟨k, hk, rfl, HM⟩ := hrel
      clear HM0
      by_cases hlt : k < n
      · have hl := xs_len (a := a) (b := b) (c := c) (k := k) (by omega) (by omega) (by omega)
        have HL := Lib.hid hl; clear hl
        obtain ⟨v0, hc0⟩ := HM.out.cell (by rw [HL.out]; omega) k hlt
        have hf0 := HM.out.free k
        have hx := xor_byte (a[k]'(by omega)) (b[k]'(by omega)) (c[k]'(by omega))
        have HX := Lib.hid hx; clear hx
        have k0 : (0 : Int) ≤ k := by omega
        have k1 : (k : Int) < n := by omega
        have ka : k < a.size := by omega
        have kb : k < b.size := by omega
        have kc : k < c.size := by omega
        go_wp2
        go_region
        all_goals go_wp2
        all_goals go_roundw
        case rel =>
          refine ⟨k + 1, by omega, by go_num, ?_⟩
          rw [xs_next ka kb kc]
          exact HM.out.drew.set (by rw [HL.out]; exact hlt) _ k HL.out.symm (val_int HX.out)
        case measure => simp [intOf]; omega
      · obtain rfl : k = n := by omega
        have hl := xs_len (a := a) (b := b) (c := c) (k := k) hna hnb hnc
        have HL := Lib.hid hl; clear hl
        have hsx : (str (xs a b c k)).size ≤ maxLen := by rw [str_size, HL.out]; unfold maxLen; omega
        have hsa : (a.extract 0 k).size ≤ maxLen := by rw [ByteArray.size_extract]; unfold maxLen; omega
        have hsb : (b.extract 0 k).size ≤ maxLen := by rw [ByteArray.size_extract]; unfold maxLen; omega
        have hsc : (c.extract 0 k).size ≤ maxLen := by rw [ByteArray.size_extract]; unfold maxLen; omega
        have H1 := Lib.hid hsx; have H2 := Lib.hid hsa; have H3 := Lib.hid hsb; have H4 := Lib.hid hsc
        clear hsx hsa hsb hsc
        have hb := HM.out.below
        have hcv : ∀ W, LinMem w g k (xs a b c k) W → (convert 49 9 (.slice (some ⟨g, 0, none⟩) k k)).run Try.prog W = .ok (.string (str (xs a b c k))) W := fun W h => h.conv HL.out.symm
        have k0 : (0 : Int) ≤ k := by omega
        have ka : (k : Int) ≤ a.size := by omega
        have kb : (k : Int) ≤ b.size := by omega
        have kc : (k : Int) ≤ c.size := by omega
        have hfin : (((Crc.crc (str (xs a b c k)).data.toList : Nat) : Int) == bits BinOp.xor IntKind.u32 (bits BinOp.xor IntKind.u32 ((Crc.crc (List.take k a.data.toList) : Nat) : Int) ((Crc.crc (List.take k b.data.toList) : Nat) : Int)) ((Crc.crc (List.take k c.data.toList) : Nat) : Int)) = true := by
          rw [str_toList, xor_sums (Crc.crc_lt _) (Crc.crc_lt _) (Crc.crc_lt _)]
          unfold xs
          rw [Crc.crc_xor3 _ _ _ (by rw [take_len hna, take_len hnb]) (by rw [take_len hna, take_len hnc])]
          simp
        have HF := Lib.hid hfin; clear hfin hb
        have hm := HM.out
        go_wp2_with fail
        go_region_held3 (fun w' => LinMem w g k (xs a b c k) w') (repeat (first | assumption | apply LinMem.drew)) (first
          | (go_at_call 20; (with_reducible refine (LinMem.call (W := w) (g := g) (n := k) (p := xs a b c k) ?_ (sum_any _ _ H1.out)).mono ?_); (focus (repeat (first | assumption | apply LinMem.drew))); rintro e w' ⟨rfl, hm'⟩)
          | (go_at_call 20; (with_reducible refine (LinMem.call (W := w) (g := g) (n := k) (p := xs a b c k) ?_ (sum_any _ _ H2.out)).mono ?_); (focus (repeat (first | assumption | apply LinMem.drew))); rintro e w' ⟨rfl, hm'⟩)
          | (go_at_call 20; (with_reducible refine (LinMem.call (W := w) (g := g) (n := k) (p := xs a b c k) ?_ (sum_any _ _ H3.out)).mono ?_); (focus (repeat (first | assumption | apply LinMem.drew))); rintro e w' ⟨rfl, hm'⟩)
          | (go_at_call 20; (with_reducible refine (LinMem.call (W := w) (g := g) (n := k) (p := xs a b c k) ?_ (sum_any _ _ H4.out)).mono ?_); (focus (repeat (first | assumption | apply LinMem.drew))); rintro e w' ⟨rfl, hm'⟩))
        go_wp2
        go_ret
        exact ⟨congrArg (fun x => Ending.returned (.bool x)) HF.out, hm'.below⟩

set_option maxRecDepth 100000 in
theorem lifted (os : Os) (started : os.Started) (H : Type) (enc : TypeId × Value → H) :
    ReturnsInHanded {} Try.checked os 12 .any (Rows.octetLinearSpec.pre6 enc Try.prog Try.f12 Rows.octetLinearRow.domain false) (Rows.octetLinearSpec.post enc Try.prog Try.f12 false true false false) := by
  refine returnsInHanded_of_change_sized (C := Try.checked) own started (by kernel_rfl) Try.func12
    (ChangeSpec.witness6 (enc := enc) (C := Try.checked) false ⟨#[], #[.string ByteArray.empty, .string ByteArray.empty, .string ByteArray.empty], []⟩ 8 (by kernel_rfl) (by kernel_rfl) (by kernel_rfl) (by kernel_rfl)) ?_
  intro W base args ds gs before hval0 hW _ hsz0 _
  have hval : ∀ (j : Nat) t v, Try.f12.params[j]? = some t → args[j]? = some v → Value.okWide Try.prog W .any base t v := hval0
  have hsz : (DataW.weightsEach Try.prog (Try.f12.params.toList ++ Rows.octetLinearSpec.plain.varTypes Try.prog) (ds ++ gs)).all (· ≤ reachBytes) = true := hsz0
  have hW' := hW
  obtain ⟨p, q, hA0, hV, rfl, hfz, hnd⟩ := hW
  have hA : DataW.TrodAll enc Try.prog W 0 (fun _ => true) true Try.f12.params.toList args.toList ds p := hA0
  rw [Try.params12] at hA hval hsz
  obtain ⟨v0, v1, v2, d0, d1, d2, p0, p1, p2, rfl, rfl, rfl, h0, h1, h2⟩ := trodAll_three hA
  obtain ⟨rfl, rfl⟩ := trodVars_none hV
  obtain ⟨a, rfl, rfl, rfl, wa⟩ := open_string Try.underlying9 (hval 0 9 v0 rfl rfl) h0
  obtain ⟨b, rfl, rfl, rfl, wb⟩ := open_string Try.underlying9 (hval 1 9 v1 rfl rfl) h1
  obtain ⟨c, rfl, rfl, rfl, wc⟩ := open_string Try.underlying9 (hval 2 9 v2 rfl rfl) h2
  have hsa : a.data.toList.length ≤ reachBytes := sized_string hsz (j := 0) (t := 9) rfl rfl
  have hsb : b.data.toList.length ≤ reachBytes := sized_string hsz (j := 1) (t := 9) rfl rfl
  have hsc : c.data.toList.length ≤ reachBytes := sized_string hsz (j := 2) (t := 9) rfl rfl
  rw [Array.length_toList] at hsa hsb hsc
  refine (walk a b c W hsa hsb hsc).mono fun e W' ⟨he, hb⟩ => ?_
  subst he
  exact ⟨_, rfl, law_post hW' rfl (by kernel_rfl) rfl (by intro t ht; rw [Try.params12] at ht; simp at ht; subst ht; exact ⟨by kernel_rfl, of_decide_eq_true (by kernel_rfl)⟩) hb⟩

theorem holds : Rows.OctetLinearSaid :=
  OpenClaim.holds_of_wide 12 Try.f12 rfl rfl rfl rfl rfl rfl rfl ⟨rfl, rfl, rfl, rfl, rfl⟩ rfl rfl rfl rfl rfl (by kernel_rfl) Try.func12 (by kernel_rfl)
    (of_decide_eq_true (by kernel_rfl)) (by unfold Func.isWrapper; first | (rw [if_pos (by decide +kernel)]; kernel_rfl) | (rw [if_neg (by decide +kernel)]; exact ⟨rfl, rfl⟩))
    (fun os started H enc _ => lifted os started H enc)
end Go.Proofs.Ytgalkcfcpkkjgaa.Linear
