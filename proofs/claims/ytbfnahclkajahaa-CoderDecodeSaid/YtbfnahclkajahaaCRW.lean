/-
  The reference's writer (contracts).
-/
import Derived.Test.YtbfnahclkajahaaCRNar
namespace Go.Proofs.Ytbfnahclkajahaa.C
open Go.RowKit Go.Shelf
set_option maxRecDepth 100000
variable {W w w' : World} {L : List (Nat × Obj)}

abbrev rwob (c : Cd) (v : Value) : Obj := mob 76 (pcs c.p) (cr c [v])
theorem buildW (w : World) : (Instr.build 76 #[(0, .agg (mc (pcs c0.p) (cr c0 [])))]).run Try.prog w = .ok (.agg (mc (pcs c0.p) (cr c0 [.slice none 0 0]))) w := by kernel_rfl
/-- the state of the reference's writer: the bytes removed so far -/
def RWS (W : World) (L : List (Nat × Obj)) (b : Nat) (c : Cd) (bs : List UInt8) (w : World) : Prop := ∃ v l, SL v bs l ∧ HS W ((b, rwob c v) :: (l ++ L)) w
theorem rnewW_any (w : World) (h : HS W L w) : Calls Try.prog 20 #[] w fun e w' => ∃ b, e = .returned (.pointer (some ⟨b, 0, none⟩)) ∧ RWS W L b c0 [] w' := by
  obtain ⟨z1, hz1⟩ : ∃ z, z = mc (pcs c0.p) (cr c0 []) := ⟨_, rfl⟩
  obtain ⟨z2, hz2⟩ : ∃ z, z = mc (pcs c0.p) (cr c0 [.slice none 0 0]) := ⟨_, rfl⟩
  have HB : Hid (∀ V, (Instr.build 76 #[(0, .agg z1)]).run Try.prog V = .ok (.agg z2) V) := fun V => by rw [hz1, hz2]; exact buildW V
  have HBG : Hid (∀ V, Calls Try.prog 33 #[] V fun e w' => e = .returned (.agg z1) ∧ Below V.heap.size V w') := fun V => by rw [hz1]; exact begin_any V
  have H2 := Lib.hid hz2
  clear hz1 hz2
  go_enter Try.func20, Try.ntmps20
  go_wp2_with (first
    | (go_at_call 33; refine (h.call (HBG.out _)).mono ?_; rintro e w1 ⟨rfl, h1⟩)
    | ((with_reducible refine sBuild1 (.agg z1) _ ?_ (HB.out _) ?_); focus rfl))
  go_ret
  refine ⟨_, rfl, _, [], SL.nil, ?_⟩
  have h2 := h1.alloc (.cells z2 76)
  have e := H2.out
  rw [e] at h2 ⊢
  exact h2
theorem HS.cross {l lx : List (Nat × Obj)} {x : Nat × Obj} (h : HS W (lx ++ x :: (l ++ L)) w) : HS W (l ++ x :: (lx ++ L)) w :=
  h.perm (((List.perm_middle.trans ((List.perm_append_comm_assoc lx l L).symm.cons x).symm.symm).trans List.perm_middle.symm))
theorem HS.drop2 {l lx : List (Nat × Obj)} {x : Nat × Obj} (h : HS W (x :: (l ++ (lx ++ L))) w) : HS W (x :: (l ++ L)) w :=
  h.sub ((List.Sublist.append_left (List.sublist_append_right ..) l).cons_cons x)
set_option maxHeartbeats 2000000 in
theorem rbitW_any (b : Nat) (n m : Int) (c : Cd) (bs : List UInt8) (w : World) (ok : Ok c) (h : RWS W L b c bs w) (hlen : bs.length ≤ 800000) :
    Calls Try.prog 22 #[.pointer (some ⟨b, 0, none⟩), .int .i64 n, .int .i64 m] w fun e w' => e = .returned (.tuple #[]) ∧ RWS W L b (stp c (ctx n) (bitn m)) (bs ++ out c (ctx n) (bitn m)) w' := by
  obtain ⟨v, l, hv, h⟩ := h
  have hol := out_len ok (ctx n) (bitn m)
  have HN := Lib.hid (rnarrow_any c n m ok h)
  have HV := Lib.hid hv
  have HOL := Lib.hid hol
  clear h hv hol
  generalize stp c (ctx n) (bitn m) = c2 at *
  generalize out c (ctx n) (bitn m) = o2 at *
  go_enter Try.func22, Try.ntmps22
  go_wp2_with (first
    | (go_at_call 40; refine HN.out.mono ?_; rintro e w1 ⟨vx, lx, rfl, hvx, h1⟩; have hc1 : w1.cell? ⟨b, 258, none⟩ = some v := h1.mid.hd_r 2; have H1 := Lib.hid h1; have HVX := Lib.hid hvx; clear h1 hvx)
    | (refine wpList_app rfl (.tmp 17) (.tmp 18) rfl v vx bs o2 l rfl rfl HV.out H1.out.cross (Src.of HVX.out H1.out.left) (by have := HOL.out; omega) ?_; intro v2 w2 l2 k1 k2; clear hc1; have k3 := k2.mid; have hc2 : w2.cell? ⟨b, 258, none⟩ = some v := k3.hd_r 2; have hf2 := k3.hfro 258; have HST := Lib.hid (store_sl hc2 hf2 k1.one); clear hc2 hf2; have K1 := Lib.hid k1; have K3 := Lib.hid k3; clear k1 k2 k3)
    | ((with_reducible refine sStore (.pointer (some ⟨b, 258, none⟩)) _ ?_ HST.out ?_); focus exact ⟨rfl, rfl⟩))
  exact bodyPost_end (results_none rfl _ _ _) rfl ⟨rfl, v2, l2, K1.out, (K3.out.putr 2 v2).drop2⟩
theorem Src.four (q : Nat) (lo : Nat) {y0 y1 y2 y3 : Int} (e0 : y0 = (lo : Int) / 16777216 % 256) (e1 : y1 = (lo : Int) / 65536 % 256) (e2 : y2 = (lo : Int) / 256 % 256) (e3 : y3 = (lo : Int) % 256)
    (hq : w.heap[q]? = some (.cells #[.int .u8 y0, .int .u8 y1, .int .u8 y2, .int .u8 y3] 5)) : Src w (.slice (some ⟨q, 0, none⟩) 4 4) (be4 lo) := by
  refine .inr ⟨q, 4, rfl, fun j u hj => ?_⟩
  have hadd : (⟨q, 0, none⟩ : Addr).add j = ⟨q, j, none⟩ := by unfold Addr.add; split <;> simp_all
  rw [hadd, cell_of_row _ _ _ _ _ _ hq]
  have h0 := u8_of (lo / 16777216); have h1 := u8_of (lo / 65536); have h2 := u8_of (lo / 256); have h3 := u8_of lo
  have f0 : y0 = ((UInt8.ofNat (lo / 16777216)).toNat : Int) := by omega
  have f1 : y1 = ((UInt8.ofNat (lo / 65536)).toNat : Int) := by omega
  have f2 : y2 = ((UInt8.ofNat (lo / 256)).toNat : Int) := by omega
  have f3 : y3 = ((UInt8.ofNat lo).toNat : Int) := by omega
  rw [f0, f1, f2, f3]
  match j with
  | 0 => exact hj
  | 1 => exact hj
  | 2 => exact hj
  | 3 => exact hj
  | j + 4 => simp [be4] at hj
theorem RWS.hs {b : Nat} {c : Cd} {bs : List UInt8} (h : RWS W L b c bs w) : HS W L w := by
  obtain ⟨v, l, _, h⟩ := h
  exact h.tl.right
theorem RWS.later {b : Nat} {c : Cd} {bs : List UInt8} (h : RWS W L b c bs w) (hb : Below w.heap.size w w') : RWS W L b c bs w' := by
  obtain ⟨v, l, hv, h⟩ := h
  exact ⟨v, l, hv, h.later hb⟩
set_option maxHeartbeats 2000000 in
theorem rbytesW_any (b : Nat) (c : Cd) (bs : List UInt8) (w : World) (ok : Ok c) (h : RWS W L b c bs w) (hlen : bs.length ≤ 800000) :
    Calls Try.prog 24 #[.pointer (some ⟨b, 0, none⟩)] w fun e w' => e = .returned (.string (str (bs ++ be4 c.lo))) ∧ Below w.heap.size w w' := by
  obtain ⟨v, l, hv, h⟩ := h
  have hsrc := Src.of hv (h.tl.left)
  have hc2 : w.cell? ⟨b, 258, none⟩ = some v := h.hd_r 2
  have hc0 : w.cell? ⟨b, 256, none⟩ = some (.int .u32 (c.lo : Int)) := h.hd_r 0
  have hlt : b < w.heap.size := h.lt (List.mem_cons_self ..)
  have h0 := HS.start w
  have hlo : c.lo < 4294967296 := by have := ok.lt; have := ok.hi; omega
  have hsrc2 : Src (w.alloc (.cells #[] 5)) v bs := by
    rcases hsrc with ⟨rfl, rfl⟩ | ⟨q, cp, rfl, hm⟩
    · exact .inl ⟨rfl, rfl⟩
    · exact .inr ⟨q, cp, rfl, fun j u hj => cell_later (hm j u hj) ((Below.refl _ w).alloc (Nat.le_refl _) _) (World.block_lt_of_cell? w _ (hm j u hj))⟩
  have hc3 : (w.alloc (.cells #[] 5)).cell? ⟨b, 258, none⟩ = some v := cell_later hc2 ((Below.refl _ w).alloc (Nat.le_refl _) _) hlt
  have HSRC := Lib.hid hsrc2
  clear h hsrc hsrc2 hv hc2
  generalize c.lo = lo at *
  go_enter Try.func24, Try.ntmps24
  go_upto_region 3 with (first
    | (refine wpList_sl0 rfl rfl h0 ?_; intro k1 k2; have K1 := Lib.hid k1; have K2 := Lib.hid k2; clear k1 k2)
    | (refine wpList_app rfl (.tmp 10) (.tmp 14) rfl _ v [] bs _ rfl rfl K1.out K2.out HSRC.out (by rw [List.length_nil]; omega) ?_; intro v3 w3 l3 k3 k4; have K3 := Lib.hid k3; have K4 := Lib.hid k4; clear k3 k4))
  clear hc3 HSRC
  go_wp2_with (first
    | (refine wpList_app rfl (.tmp 16) (.tmp 28) rfl _ _ ([] ++ bs) (be4 lo) l3 rfl rfl K3.out ((K4.out.alloc _).unmid) (Src.four _ lo (by omega) (by omega) (by omega) (by omega) (heap_alloc_new _ _)) (by simp [be4]; omega) ?_; intro v5 w5 l5 k5 k6; have hcv := owns_conv (k5.owns k6); have K6 := Lib.hid k6; clear k5 k6))
  go_ret
  exact ⟨rfl, K6.out.below⟩
end Go.Proofs.Ytbfnahclkajahaa.C
