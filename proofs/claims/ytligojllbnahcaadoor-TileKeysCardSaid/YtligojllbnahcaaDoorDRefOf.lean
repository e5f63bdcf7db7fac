/-
  The reference's Of returns the SHA-256 digest.
-/
import Derived.Test.YtligojllbnahcaaDoorDComp
import Derived.Test.YtligojllbnahcaaDoorDAbs
import Derived.Test.YtligojllbnahcaaDoorDOwn
import Derived.Deep.RegionWith
import Derived.StillTailTactics
import Derived.Deep.DeepCutAuto
namespace Go.Proofs.YtligojllbnahcaaDoor.D
open Go.RowKit

theorem wpStill_load_row {P : Program} {ops : Array Oper} {w : World} {Q : Act → Prop} {rest : List Oper} {o : Oper} {a : Act} (hgd : o.guard = none) (ty : TypeId) (x : Operand) (ho : o.op = .load ty x)
    (g : Nat) (hx : a.eval x = .pointer (some ⟨g, 0, none⟩)) (t : TypeId) (cs : Array Value) (fr : Nat × Nat) (d : TypeDesc) (hg : w.heap[g]? = some (.cells cs t fr))
    (hu : P.underlying ty = some d) (hd : (match d with | .struct _ | .array _ _ => true | _ => false) = true) (hi : (P.info? ty).map (·.size) = some cs.size)
    (h : wpStill P ops w Q rest (a.put o.dst (.agg cs))) : wpStill P ops w Q (o :: rest) a := by
  unfold wpStill
  rw [if_pos (by simp [Region.wanted, hgd])]
  unfold Oper.still execOp
  simp only [ho, hx, Instr.loadAt, Instr.sureAddr, Sem.run_bind, Sem.run_pure, Result.andThen_ok, run_loadVar_row w g t ty cs fr d hg hu hd hi]
  exact ⟨rfl, h⟩

theorem pad_step (n j : Nat) (hj : j ≤ Sha.zeros n) : ((n + (1 + j)) % 64 = 56 ↔ j = Sha.zeros n) := by unfold Sha.zeros at *; omega
/-- the blocks of a call of Of: the hash value in g3, the table in g4 -/
structure RO (W : World) (g3 g4 : Nat) (s : Sha.St) (w : World) : Prop where
  below : Below W.heap.size W w
  at_ : W.heap.size ≤ g3
  hb : w.heap[g3]? = some (.cells (stA s) 51 (0, 0))
  kb : w.heap[g4]? = some (.cells kA 66 (0, 0))
  ne : g3 < g4
  ok : s.ok
variable {W w w' : World} {g3 g4 : Nat} {s : Sha.St}
theorem RO.lt (h : RO W g3 g4 s w) : g4 < w.heap.size := (Array.getElem?_eq_some_iff.1 h.kb).1
theorem RO.laterB (h : RO W g3 g4 s w) {B : Nat} (hb : Below B w w') (hB : g4 < B) : RO W g3 g4 s w' :=
  ⟨h.below.trans (hb.mono (by have := h.at_; have := h.ne; omega)), h.at_, by rw [hb.block g3 (by have := h.ne; omega)]; exact h.hb, by rw [hb.block g4 hB]; exact h.kb, h.ne, h.ok⟩
theorem RO.later (h : RO W g3 g4 s w) (hb : Below w.heap.size w w') : RO W g3 g4 s w' := h.laterB hb h.lt
theorem RO.drew (h : RO W g3 g4 s w) : RO W g3 g4 s w.drew := ⟨h.below.drew, h.at_, h.hb, h.kb, h.ne, h.ok⟩
theorem RO.call {P : Program} {f : FuncId} {args : Array Value} {v : Value} (h : RO W g3 g4 s w) (hc : Calls P f args w fun e w' => e = .returned v ∧ Below w.heap.size w w') : Calls P f args w fun e w' => e = .returned v ∧ RO W g3 g4 s w' :=
  hc.mono fun _ _ ⟨h1, h2⟩ => ⟨h1, h.later h2⟩
theorem RO.put (h : RO W g3 g4 s w) {t : Sha.St} (ht : t.ok) : RO W g3 g4 t (w.setRow g3 (stA t)) :=
  ⟨below_setRow h.below h.at_ _, h.at_, setRow_heap _ _ _ _ _ _ h.hb, by rw [setRow_other _ _ _ _ (by have := h.ne; omega)]; exact h.kb, h.ne, ht⟩

set_option maxHeartbeats 2000000 in
set_option maxRecDepth 100000 in
theorem refOf_any (m : ByteArray) (w : World) (hs : m.size ≤ 1000000) : Calls Tryd.prog 22 #[.string m] w fun e w' => e = .returned (.string (str (Sha.sha m.data.toList))) ∧ Below w.heap.size w w' := by
  have hz := zero64
  have hz8 := zero8a
  go_enter Tryd.func22, Tryd.ntmps22
  go_upto_region 2 with (first
    | (refine wpList_buildTo rfl 51 _ rfl (some 10) rfl (stA Sha.H0) (by kernel_rfl) ?_)
    | (refine wpList_store_row rfl 51 _ _ rfl _ _ rfl rfl _ _ (heap_alloc_new _ _) (by kernel_rfl) (by rfl) (by kernel_rfl) ?_))
  have HH : Hid (((w.alloc (Obj.cells (Array.replicate 8 (Value.int IntKind.u32 0)) 51)).setRow w.heap.size (stA Sha.H0)).heap[w.heap.size]? = some (.cells (stA Sha.H0) 51 (0, 0))) := setRow_heap _ _ _ _ _ _ (heap_alloc_new _ _)
  have HB : Hid (Below w.heap.size w ((w.alloc (Obj.cells (Array.replicate 8 (Value.int IntKind.u32 0)) 51)).setRow w.heap.size (stA Sha.H0))) := below_setRow ((Below.refl _ _).alloc (Nat.le_refl _) _) (Nat.le_refl _) _
  generalize (w.alloc (Obj.cells (Array.replicate 8 (Value.int IntKind.u32 0)) 51)).setRow w.heap.size (stA Sha.H0) = w1 at HH HB ⊢
  go_upto_region 3 with (first
    | (go_at_call 36; (with_reducible refine (constants_any _).mono ?_); rintro e w2 ⟨rfl, h2⟩)
    | (refine wpList_store_row rfl 66 _ _ rfl _ _ rfl rfl _ _ (heap_alloc_new _ _) (by kernel_rfl) (by simp only [kA_size, Array.size_replicate]) (by kernel_rfl) ?_))
  have HR : Hid (RO w w.heap.size w2.heap.size Sha.H0 ((w2.alloc (Obj.cells (Array.replicate 64 (Value.int IntKind.u32 0)) 66)).setRow w2.heap.size kA)) := by
    have l1 := (Array.getElem?_eq_some_iff.1 HH.out).1
    have l2 := h2.size
    have b2 : Below w1.heap.size w1 ((w2.alloc (Obj.cells (Array.replicate 64 (Value.int IntKind.u32 0)) 66)).setRow w2.heap.size kA) := below_setRow (h2.alloc l2 _) l2 _
    exact ⟨HB.out.trans (b2.mono HB.out.size), Nat.le_refl _, by rw [b2.block _ l1]; exact HH.out, setRow_heap _ _ _ _ _ _ (heap_alloc_new _ _), by omega, Sha.H0_ok⟩
  clear HH HB h2 hz hz8
  generalize (w2.alloc (Obj.cells (Array.replicate 64 (Value.int IntKind.u32 0)) 66)).setRow w2.heap.size kA = w3 at HR ⊢
  generalize w2.heap.size = g4 at HR ⊢
  obtain ⟨g3, hg3⟩ : ∃ g3, g3 = w.heap.size := ⟨_, rfl⟩
  rw [← hg3] at HR ⊢
  have HG := Lib.hid hg3; clear hg3
  have HL0 : Hid (OwnsB w3.heap.size (w3.alloc (Obj.cells #[Value.int IntKind.u8 128] 5)) (.slice (some ⟨w3.heap.size, 0, none⟩) 1 1) (128 :: List.replicate 0 0)) := World.ownsRow_lit w3 #[Value.int IntKind.u8 128] 1 (Nat.le_refl _) (by decide) rfl
  have HR0 : Hid (RO w g3 g4 Sha.H0 (w3.alloc (Obj.cells #[Value.int IntKind.u8 128] 5))) := HR.out.later ((Below.refl _ _).alloc (Nat.le_refl _) _)
  have hb3 : g4 < w3.heap.size := HR.out.lt
  have hs3 : w3.heap.size ≤ (w3.alloc (Obj.cells #[Value.int IntKind.u8 128] 5)).heap.size := by simp
  have HS3 := Lib.hid hs3; clear hs3 HR
  have hz := zeros_le m.size
  go_wp2
  generalize w3.alloc (Obj.cells #[Value.int IntKind.u8 128] 5) = w5 at HL0 HR0 HS3 ⊢
  generalize w3.heap.size = B at HL0 hb3 HS3 ⊢
  go_loopw [5] (fun v wr => ∃ (j : Nat) (po : Option Addr) (cap : Nat), Hid (j ≤ Sha.zeros m.size) ∧ v = .slice po (j + 1) cap ∧ Hid (OwnsB B wr (.slice po (j + 1) cap) (128 :: List.replicate j 0)) ∧ Hid (RO w g3 g4 Sha.H0 wr) ∧ Hid (B ≤ wr.heap.size)) (fun v _ => match v with | .slice _ n _ => 64 - n | _ => 0)
  case atStart => exact ⟨0, _, _, Nat.zero_le _, rfl, HL0, HR0, HS3⟩
  case round =>
    clear HL0 HR0 HS3
    obtain ⟨j, po, cap, HJ, rfl, HO, HR, HB⟩ := hrel
    have hj : j ≤ 63 := by have := HJ.out; omega
    by_cases hlt : j < Sha.zeros m.size
    · have ht : (((m.size : Int) + ((j : Int) + 1)) % 64 == 56) = false := by
        have := pad_step m.size j (by omega)
        simp; omega
      have HA : Hid ((128 :: List.replicate j (0 : UInt8)) ++ [0] = 128 :: List.replicate (j + 1) 0) := by unfold Hid; rw [List.replicate_succ']; rfl
      go_wp2_with (at_builtin; refine wp_app1 rfl (.tmp 20) (.tmp 21) rfl B wr _ (128 :: List.replicate j 0) 0 _ (by rfl) HO.out (by rfl) ?e1 ?e2 ?e3 ?_; rotate_right; intro v' w' ho' hg')
      case e1 => rfl
      case e2 => simp; omega
      case e3 => exact HB.out
      go_roundw
      case rel =>
        rw [HA.out] at ho'
        have hb' : Below B wr w' := (Below.refl _ _).grown hg' HB.out (HO.out.own_lt)
        obtain ⟨po', cap', hv'⟩ := ho'.shape
        rw [List.length_cons, List.length_replicate] at hv'
        refine ⟨j + 1, po', cap', hlt, hv', ?_, HR.out.laterB hb' hb3, Nat.le_trans HB.out hg'.size⟩
        rw [← hv']; exact ho'
      case measure =>
        obtain ⟨po', cap', hv'⟩ := ho'.shape
        rw [HA.out, List.length_cons, List.length_replicate] at hv'
        subst hv'
        simp; omega
    · obtain rfl : j = Sha.zeros m.size := by have := HJ.out; omega
      have ht : (((m.size : Int) + ((Sha.zeros m.size : Int) + 1)) % 64 == 56) = true := by
        have := pad_step m.size (Sha.zeros m.size) (Nat.le_refl _)
        simp; omega
      have ht2 : (((m.size : Int) + ((Sha.zeros m.size : Int) + 1)) % 64 != 56) = false := by
        simp only [bne, ht]; rfl
      have HP : Hid (m ++ str (128 :: List.replicate (Sha.zeros m.size) 0) ++ str (putN (8 * m.size) 8) = str (m.data.toList ++ Sha.pad m.data.toList)) := by
        have e : m ++ str (128 :: List.replicate (Sha.zeros m.size) 0) ++ str (putN (8 * m.size) 8) = str (m.data.toList ++ (128 :: List.replicate (Sha.zeros m.size) 0) ++ putN (8 * m.size) 8) := by rw [← str_append, ← str_append, toList_str]
        unfold Hid Sha.pad
        rw [e, lenS, List.append_assoc]; rfl
      have hx1 : (str (128 :: List.replicate (Sha.zeros m.size) 0)).size ≤ 64 := by rw [str_size, List.length_cons, List.length_replicate]; omega
      have hx2 : (str (putN (8 * m.size) 8)).size ≤ 8 := by rw [str_size, putN_len]; omega
      have hcv : ∀ w', Below wr.heap.size wr w' → (convert 44 9 (.slice po (Sha.zeros m.size + 1) cap)).run Tryd.prog w' = .ok (.string (str (128 :: List.replicate (Sha.zeros m.size) 0))) w' := fun w' hb => owns_conv (HO.out.later hb)
      have HCV := Lib.hid hcv; clear hcv
      have hcd : (convert 44 9 (.slice po (Sha.zeros m.size + 1) cap)).run Tryd.prog wr.drew = .ok (.string (str (128 :: List.replicate (Sha.zeros m.size) 0))) wr.drew := HCV.out _ (Below.refl _ _).drew
      have y1 : ((8 * m.size : Nat) : Int) = 8 * (m.size : Int) := by omega
      have HP8 : Hid (∀ v, Calls Tryd.prog 37 #[.int .u64 (8 * (m.size : Int)), .int .i64 8] v fun e w' => e = .returned (.string (str (putN (8 * m.size) 8))) ∧ Below v.heap.size v w') := by
        intro v; rw [← y1]; exact big8 _ (by omega) _
      clear y1
      go_upto_region 6 with fail
      go_cut [6] (fun v wx => v = .string (str (m.data.toList ++ Sha.pad m.data.toList)) ∧ Below wr.heap.size wr wx)
      case first =>
        have r1 : IntKind.u64.wrap (m.size : Int) = (m.size : Int) := by rw [IntKind.wrap_u64]; omega
        have r2 : IntKind.u64.wrap (8 * (m.size : Int)) = 8 * (m.size : Int) := by rw [IntKind.wrap_u64]; omega
        first
        | (go_region_with (go_at_call 37; (with_reducible refine (Below.call (w0 := wr) ?_ (HP8.out _)).mono ?_); (focus (repeat (first | exact Below.refl _ _ | apply Below.drew))); rintro e w1 ⟨rfl, h1⟩; have hc1 := HCV.out _ h1))
        | fail
        all_goals go_wp2_with fail
        all_goals go_meet
        all_goals exact ⟨by rw [HP.out], h1⟩
      case rest =>
      obtain ⟨rfl, hbc⟩ := hcut
      have HR1 : Hid (RO w g3 g4 Sha.H0 wc) := HR.out.later hbc
      have HM : Hid ((m.data.toList ++ Sha.pad m.data.toList).length % 64 = 0) := Sha.pad_div m.data.toList
      have HMZ : Hid ((m.data.toList ++ Sha.pad m.data.toList).length ≤ 1000072) := by
        have := Sha.pad_len m.data.toList
        have := zeros_le m.data.toList.length
        have := lenS m
        unfold Hid; rw [List.length_append]; omega
      have HSH : Hid (Sha.outTo (Sha.absTo Sha.H0 (m.data.toList ++ Sha.pad m.data.toList) ((m.data.toList ++ Sha.pad m.data.toList).length / 64)) 8 = Sha.sha m.data.toList) := rfl
      clear HR HB HJ HO hj hlt ht ht2 HP hx1 hx2 HCV hcd HP8 hbc hz hb3
      generalize m.data.toList ++ Sha.pad m.data.toList = P at HM HMZ HSH ⊢
      obtain ⟨n, hn⟩ : ∃ n, P.length = 64 * n := ⟨P.length / 64, by have := HM.out; omega⟩
      have HN := Lib.hid hn; clear hn
      have HN1 : Hid (P.length / 64 = n) := by have := HN.out; unfold Hid; omega
      have sz : (str P).size ≤ 1000072 := by rw [str_size]; exact HMZ.out
      have HSZ : Hid ((str P).size = 64 * n) := by unfold Hid; rw [str_size]; exact HN.out
      go_wp2_with fail
      go_loopw [7] (fun i wr => ∃ (k : Nat), Hid (k ≤ n) ∧ i = .int .i64 (64 * k : Nat) ∧ Hid (RO w g3 g4 (Sha.absTo Sha.H0 P k) wr)) (fun i _ => (str P).size - (intOf i).toNat)
      case atStart => exact ⟨0, Nat.zero_le _, rfl, HR1⟩
      case round =>
        clear HR1
        obtain ⟨k, HK, rfl, HR⟩ := hrel
        by_cases hlt : 64 * k < (str P).size
        · have hle : 64 * k + 64 ≤ (str P).size := by have := HSZ.out; omega
          have hk1 : k + 1 ≤ n := by have := HSZ.out; omega
          have HL : Hid (((str P).extract (64 * k) (64 * k + 64)).size = 64) := by unfold Hid; rw [ByteArray.size_extract]; omega
          have HE : Hid (((str P).extract (64 * k) (64 * k + 64)).data.toList = (P.drop (64 * k)).take 64) := by
            have := ext_list (str P) (64 * k) 64
            rw [str_toList] at this; exact this
          have HK1 := Lib.hid hk1; clear hk1
          go_upto_region 10 with fail
          have b0 : (0 : Int) ≤ 64 * (k : Int) + 64 := by omega
          have b1 : 64 * (k : Int) + 64 ≤ ((str P).size : Int) := by omega
          have b2 : (0 : Int) ≤ 64 * (k : Int) := by omega
          have b3 : 64 * (k : Int) ≤ 64 * (k : Int) + 64 := by omega
          have b4 : (64 * (k : Int)).toNat = 64 * k := by omega
          have b5 : (64 * (k : Int) + 64).toNat = 64 * k + 64 := by omega
          have b6 : IntKind.i64.wrap (64 * (k : Int) + 64) = 64 * (k : Int) + 64 := IntWalk.i64_in _ (by omega)
          refine wp_region_still_tail 7 (by kernel_rfl) (by kernel_rfl) ?_
          simp only [List.take_succ_cons, List.take_zero, List.drop_succ_cons, List.drop_zero]
          refine wpStill_load_row rfl 51 _ rfl _ rfl _ _ _ _ HR.out.hb Tryd.underlying51 rfl (by kernel_rfl) ?_
          still_step
          still_step
          still_step
          still_step
          still_step
          refine wpStill_load_row rfl 66 _ rfl _ rfl _ _ _ _ HR.out.kb Tryd.underlying66 rfl (by kernel_rfl) ?_
          refine wpStill_nil ?_
          change wpList _ _ _ _ _ wr.drew
          have HR2 : Hid (RO w g3 g4 (Sha.absTo Sha.H0 P k) wr.drew) := HR.out.drew
          clear HR b0 b1 b2 b3 b4 b5 b6
          generalize wr.drew = wr2 at HR2 ⊢
          go_wp2_with (first
            | (go_at_call 38; (with_reducible refine (RO.call (W := w) (g3 := g3) (g4 := g4) HR2.out (compress_any _ _ _ HR2.out.ok HL.out)).mono ?_); rintro e w8 ⟨rfl, h8⟩)
            | (refine wpList_store_row rfl 51 _ _ rfl _ _ rfl rfl _ _ h8.hb (by kernel_rfl) (by simp only [stA_size]) (by kernel_rfl) ?_))
          go_roundw
          case rel =>
            refine ⟨k + 1, HK1, by go_num, ?_⟩
            rw [str_toList]
            exact h8.put (t := Sha.absTo Sha.H0 P (k + 1)) (Sha.absTo_ok Sha.H0_ok P (k + 1))
          case measure => simp [intOf]; omega
        · obtain rfl : k = n := by have := HSZ.out; have := HK.out; omega
          have HS2 : Hid (Sha.outTo (Sha.absTo Sha.H0 P k) 8 = Sha.sha m.data.toList) := by have := HSH.out; rw [HN1.out] at this; exact this
          clear HSH
          generalize Sha.absTo Sha.H0 P k = t at HR HS2
          rw [show ((64 * k : Nat) : Int) = 64 * (k : Int) from by omega]
          go_wp2_with fail
          go_loopw [8, 9] (fun d i wr => ∃ (j : Nat), j ≤ 8 ∧ i = .int .i64 j ∧ d = .string (str (Sha.outTo t j)) ∧ Hid (RO w g3 g4 t wr)) (fun _ i _ => 8 - (intOf i).toNat)
          case atStart => exact ⟨0, Nat.zero_le _, rfl, rfl, HR⟩
          case round =>
            clear HR
            obtain ⟨j, hj, rfl, rfl, HR⟩ := hrel
            have hl := Sha.outTo_len t j
            have hsz : (str (Sha.outTo t j)).size ≤ 32 := by rw [str_size, hl]; omega
            by_cases hj8 : j < 8
            · have hc : wr.cell? ⟨g3, j, none⟩ = some (.int .u32 (t.toL.getD j 0 : Nat)) := by rw [cell_of_row _ _ _ _ _ _ HR.out.hb]; exact stA_get j hj8
              have hx := Sha.toL_lt HR.out.ok j
              have HO : Hid (str (Sha.outTo t j) ++ str (putN (t.toL.getD j 0) 4) = str (Sha.outTo t (j + 1))) := by unfold Hid; rw [str_append]; rfl
              have hs2 : (str (putN (t.toL.getD j 0) 4)).size ≤ 4 := by rw [str_size, putN_len]; omega
              have HRR := Lib.hid (big4 (t.toL.getD j 0) (by omega))
              clear hl
              generalize t.toL.getD j 0 = x at hc hx HO hs2 HRR
              go_wp2_with (go_at_call 37; (with_reducible refine (RO.call (W := w) (g3 := g3) (g4 := g4) HR.out (HRR.out _)).mono ?_); rintro e w9 ⟨rfl, h9⟩)
              go_roundw
              case rel => exact ⟨j + 1, by omega, by go_num, by rw [HO.out], h9⟩
              case measure => simp [intOf]; omega
            · obtain rfl : j = 8 := by omega
              clear hl
              go_wp2_with fail
              go_ret
              exact ⟨ret_str (by rw [HS2.out]), HR.out.below⟩
end Go.Proofs.YtligojllbnahcaaDoor.D
