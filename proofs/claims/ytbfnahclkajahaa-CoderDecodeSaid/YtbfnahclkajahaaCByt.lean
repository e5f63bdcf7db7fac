/-
  slices.Clone of bytes; Writer.Bytes (contracts).
-/
import Derived.Test.YtbfnahclkajahaaCBitW
import Derived.Lib.SliceRun
namespace Go.Proofs.Ytbfnahclkajahaa.C
open Go.RowKit Go.Shelf
set_option maxRecDepth 100000
variable {W w w' : World} {L : List (Nat × Obj)}

theorem run_sl0 (w : World) : (Instr.buildSlice 33 0 #[]).run Try.prog w = .ok (.slice (some ⟨w.heap.size, 0, none⟩) 0 0) (w.alloc (.cells #[] 5)) := by
  have hs : (sizeOf 5).run Try.prog w = .ok 1 w := by kernel_rfl
  simp [Instr.buildSlice, run_underlying Try.underlying33, hs, Instr.fill, newRow]
  rw [show (Array.map (fun _ => (default : Value)) (Array.range 0)) = #[] from Array.eq_empty_of_size_eq_zero (by simp)]
theorem wpList_sl0 {ops : Array Oper} {rest : List Oper} {o : Oper} {a : Act} {Q : Exit → Act → World → Prop} (hg : o.guard = none) (ho : o.op = .buildSlice 33 0 #[]) (hs : HS W L w)
    (k : SL (.slice (some ⟨w.heap.size, 0, none⟩) 0 0) [] [(w.heap.size, .cells #[] 5)] → HS W ((w.heap.size, .cells #[] 5) :: L) (w.alloc (.cells #[] 5)) → wpList Try.prog ops Q rest (a.put o.dst (.slice (some ⟨w.heap.size, 0, none⟩) 0 0)) (w.alloc (.cells #[] 5))) : wpList Try.prog ops Q (o :: rest) a w :=
  wpList_plain hg fun K hK => by
    have h := run_sl0 w
    unfold Oper.wp execOp
    simp only [ho, Sem.run_bind, List.map_toArray, List.map_nil, h, Result.andThen_ok, Sem.run_pure]
    exact hK _ _ (k (.inr ⟨_, _, _, rfl, rfl, Nat.le_refl _, by unfold maxLen; omega, rfl, rfl⟩) (hs.alloc _))
set_option maxHeartbeats 1000000 in
theorem clone_any (v : Value) (ms : List UInt8) (w : World) (hy : Src w v ms) (hs : HS W L w) (hlen : ms.length ≤ 1000000) :
    Calls Try.prog 41 #[v] w fun e w' => ∃ v' l', e = .returned v' ∧ SL v' ms l' ∧ HS W (l' ++ L) w' := by
  have HY := Lib.hid hy
  rcases hy with ⟨rfl, rfl⟩ | ⟨q, c, rfl, hm⟩
  · have he : ∀ V, (Go.binOp .eql 33 (.slice none 0 0) (.slice none 0 0)).run Try.prog V = .ok (.bool true) V := fun V => Lib.run_eql_slice_nil V _ _ none 0 0 0 0 Try.underlying33
    go_enter Try.func41, Try.ntmps41
    go_wp2
    go_ret
    exact ⟨_, [], rfl, SL.nil, hs⟩
  · have hsrc : Src (w.alloc (.cells #[] 5)) (.slice (some ⟨q, 0, none⟩) ms.length c) ms := .inr ⟨q, c, rfl, fun j u hj => by
      have h1 := hm j u hj
      exact ((Below.refl _ w).alloc (Nat.le_refl _) _).cell (World.block_lt_of_cell? w _ h1) |>.trans h1⟩
    clear hm
    have he : ∀ V, (Go.binOp .eql 33 (.slice (some ⟨q, 0, none⟩) ms.length c) (.slice none 0 0)).run Try.prog V = .ok (.bool false) V := fun V => Lib.run_eql_slice_nil V _ _ (some ⟨q, 0, none⟩) _ _ 0 0 Try.underlying33
    go_enter Try.func41, Try.ntmps41
    go_wp2_with (first
      | (refine wpList_sl0 rfl rfl hs ?_; intro k1 k2)
      | (refine wpList_app rfl (.tmp 5) (.tmp 6) rfl _ _ [] ms _ rfl rfl k1 k2 hsrc (by rw [List.length_nil]; omega) ?_; intro v3 w3 l3 k3 k4))
    go_ret
    exact ⟨_, _, rfl, k3, k4⟩
theorem cell_later {B : Nat} {a : Addr} {x : Value} (h : w.cell? a = some x) (hb : Below B w w') (hB : a.block < B) : w'.cell? a = some x := (hb.cell hB).trans h
/-- the byte of a number in the walk's spelling -/
theorem u8_of (x : Nat) : ((UInt8.ofNat x).toNat : Int) = (x : Int) % 256 := by rw [UInt8.toNat_ofNat']; omega
theorem SL.app0 {v : Value} {bs : List UInt8} {l : List (Nat × Obj)} (h : SL v bs l) : SL v (bs ++ []) l := by rw [List.append_nil]; exact h
theorem HS.unmidtl {l R : List (Nat × Obj)} {x : Nat × Obj} (h : HS W (l ++ x :: R) w) : HS W (l ++ R) w := h.mid.tl
set_option maxHeartbeats 2000000 in
theorem bytesW_any (b : Nat) (c : Cd) (v : Value) (bs : List UInt8) (l : List (Nat × Obj)) (w : World) (ok : Ok c) (hv : SL v bs l) (h : HS W ((b, wob c v) :: (l ++ L)) w) (hlen : bs.length ≤ 800000) :
    Calls Try.prog 23 #[.pointer (some ⟨b, 0, none⟩)] w fun e w' => e = .returned (.string (str (bs ++ be4 c.lo))) ∧ Below w.heap.size w w' := by
  have hsrc := Src.of hv (h.tl.left)
  have hc2 : w.cell? ⟨b, 258, none⟩ = some v := h.hd_r 2
  have hc0 : w.cell? ⟨b, 256, none⟩ = some (.int .u32 (c.lo : Int)) := h.hd_r 0
  have hlt : b < w.heap.size := h.lt (List.mem_cons_self ..)
  have h0 := HS.start w
  have hlo : c.lo < 4294967296 := by have := ok.lt; have := ok.hi; omega
  have HSRC := Lib.hid hsrc
  clear h hsrc hv
  generalize c.lo = lo at *
  go_enter Try.func23, Try.ntmps23
  go_upto_region 3 with fail
  go_wp2_with (go_at_call 41; refine (clone_any v bs w HSRC.out h0 (by omega)).mono ?_; rintro e w1 ⟨v1, l1, rfl, hv1, h1⟩)
  have HC := Lib.hid hc0
  have HV1 := Lib.hid hv1
  have H1 := Lib.hid h1
  clear hc2 hc0 hv1 h1 h0
  go_loopw [3, 4] (fun x r wr => ∃ (k : Nat) (l' : List (Nat × Obj)), k ≤ 4 ∧ r = .int .i64 (24 - 8 * (k : Int)) ∧ Hid (SL x (bs ++ (be4 lo).take k) l') ∧ Hid (HS w (l' ++ []) wr)) (fun _ r _ => (intOf r + 8).toNat)
  case atStart => exact ⟨0, l1, by omega, rfl, HV1.out.app0, H1⟩
  case round =>
    obtain ⟨k, l', hk, rfl, HV, HT⟩ := hrel
    clear HV1 H1
    have hc0 : wr.cell? ⟨b, 256, none⟩ = some (.int .u32 (lo : Int)) := cell_later HC.out HT.out.below hlt
    have hk5 : k = 0 ∨ k = 1 ∨ k = 2 ∨ k = 3 ∨ k = 4 := by omega
    rcases hk5 with rfl | rfl | rfl | rfl | rfl
    · go_wp2_with (first
        | (refine wpList_app rfl (.tmp 16) (.tmp 25) rfl _ _ _ [UInt8.ofNat (lo / 16777216)] l' rfl rfl HV.out ((HT.out.alloc _).unmid) (Src.one' _ _ (by have := u8_of (lo / 16777216); omega) (heap_alloc_new _ _)) (by simp [be4]; omega) ?_; intro v3 w3 l3 k3 k4; have K3 := Lib.hid k3; have k5 := k4.unmidtl; have K4 := Lib.hid k5; clear k3 k4 k5))
      go_roundw
      case rel => exact ⟨1, l3, by omega, rfl, Lib.hid (by have := K3.out; simpa [be4] using this), K4.out⟩
      case measure => simp [intOf]
    · go_wp2_with (first
        | (refine wpList_app rfl (.tmp 16) (.tmp 25) rfl _ _ _ [UInt8.ofNat (lo / 65536)] l' rfl rfl HV.out ((HT.out.alloc _).unmid) (Src.one' _ _ (by have := u8_of (lo / 65536); omega) (heap_alloc_new _ _)) (by simp [be4]; omega) ?_; intro v3 w3 l3 k3 k4; have K3 := Lib.hid k3; have k5 := k4.unmidtl; have K4 := Lib.hid k5; clear k3 k4 k5))
      go_roundw
      case rel => exact ⟨2, l3, by omega, rfl, Lib.hid (by have := K3.out; simpa [be4] using this), K4.out⟩
      case measure => simp [intOf]
    · go_wp2_with (first
        | (refine wpList_app rfl (.tmp 16) (.tmp 25) rfl _ _ _ [UInt8.ofNat (lo / 256)] l' rfl rfl HV.out ((HT.out.alloc _).unmid) (Src.one' _ _ (by have := u8_of (lo / 256); omega) (heap_alloc_new _ _)) (by simp [be4]; omega) ?_; intro v3 w3 l3 k3 k4; have K3 := Lib.hid k3; have k5 := k4.unmidtl; have K4 := Lib.hid k5; clear k3 k4 k5))
      go_roundw
      case rel => exact ⟨3, l3, by omega, rfl, Lib.hid (by have := K3.out; simpa [be4] using this), K4.out⟩
      case measure => simp [intOf]
    · go_wp2_with (first
        | (refine wpList_app rfl (.tmp 16) (.tmp 25) rfl _ _ _ [UInt8.ofNat (lo)] l' rfl rfl HV.out ((HT.out.alloc _).unmid) (Src.one' _ _ (by have := u8_of (lo); omega) (heap_alloc_new _ _)) (by simp [be4]; omega) ?_; intro v3 w3 l3 k3 k4; have K3 := Lib.hid k3; have k5 := k4.unmidtl; have K4 := Lib.hid k5; clear k3 k4 k5))
      go_roundw
      case rel => exact ⟨4, l3, by omega, rfl, Lib.hid (by have := K3.out; simpa [be4] using this), K4.out⟩
      case measure => simp [intOf]
    · have hcv := owns_conv (HV.out.owns HT.out)
      go_wp2
      go_ret
      exact ⟨rfl, HT.out.below⟩
end Go.Proofs.Ytbfnahclkajahaa.C
