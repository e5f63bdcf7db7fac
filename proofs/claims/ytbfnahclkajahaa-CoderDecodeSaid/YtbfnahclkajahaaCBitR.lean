/-
  The reader's closure, and Reader.Bit (contracts).
-/
import Derived.Test.YtbfnahclkajahaaCRd
import Derived.OrdersHeld
namespace Go.Proofs.Ytbfnahclkajahaa.C
open Go.RowKit Go.Shelf
set_option maxRecDepth 100000
variable {W w w' : World} {L : List (Nat × Obj)}

set_option maxHeartbeats 2000000 in
theorem bit1R_any (x : Int) (b q n : Nat) (d : Nat → Int) (lo hi v : Nat) (s : ByteArray) (w : World) (hs : HS W ((b, rmob d lo hi s v n) :: (q, bxo 47 b) :: L) w) (hn : n ≤ 900000) :
    Calls Try.prog 44 #[.int .u8 x, .pointer (some ⟨q, 0, none⟩)] w fun e w' => e = .returned (.tuple #[]) ∧ HS W ((b, rmob d lo hi s ((v * 256 + sx s.data.toList (4 + n)) % 4294967296) (n + 1)) :: (q, bxo 47 b) :: L) w' := by
  go_enter Try.func44, Try.ntmps44
  go_upto_region 0 with fail
  refine wp_region_held_drew (S := fun V9 => V9.cell? ⟨q, 0, none⟩ = some (.pointer (some ⟨b, 0, none⟩))) (by kernel_rfl) ?_ (fun hHeld => ?_)
  · exact hs.drew.bx (q := q) (b := b) (t := 47) (by simp)
  have hs0 := hs.drew
  refine wpAnyH_take (i := 0) (oi := { dst := some 3, op := Op.load 47 (Operand.tmp 1), type := 47, pos := "reader.go:33", after := #[], guard := none }) (v := ?_) rfl (by kernel_rfl) (by kernel_rfl) (by kernel_rfl) (fun _ _ _ h => h) (Or.inl ⟨by kernel_rfl, ?_⟩) (by assumption) ?_
  rotate_left 1
  focus (intro w hSw; (try dsimp only at hSw); go_simp; (try with_reducible rfl))
  try simp only [Act.put, List.setIfInBounds_toArray, List.set_cons_zero, List.set_cons_succ]
  refine wpAnyH_take (i := 1) (oi := { dst := some 4, op := Op.load 47 (Operand.tmp 1), type := 47, pos := "reader.go:33", after := #[], guard := none }) (v := ?_) rfl (by kernel_rfl) (by kernel_rfl) (by kernel_rfl) (fun _ _ _ h => h) (Or.inl ⟨by kernel_rfl, ?_⟩) (by assumption) ?_
  rotate_left 1
  focus (intro w hSw; (try dsimp only at hSw); go_simp; (try with_reducible rfl))
  try simp only [Act.put, List.setIfInBounds_toArray, List.set_cons_zero, List.set_cons_succ]
  refine wpAnyH_ready (rs := [2]) (by kernel_rfl) (by simp) (AllReadyH.cons (o := { dst := some 5, op := Op.call { callee := Callee.value (Operand.func 27), args := #[Operand.tmp 4], argTypes := #[47] }, type := 3, pos := "reader.go:33", after := #[{ on := 1, ground := Ground.data }], guard := none }) rfl (fun K hK => ?_) AllReadyH.nil)
  (go_simp; (go_at_call 27; (refine (used_any b n d lo hi v s _ hs0 (by omega)).mono ?_); rintro e V1r0 ⟨rfl, hVe⟩))
  have hs1r0 := hs0
  rw [hVe] at hs1r0; clear hVe
  refine hK.out _ _ ?_ (fun hHeld => ?_)
  · exact hs1r0.bx (q := q) (b := b) (t := 47) (by simp)
  clear hK K
  try simp only [Act.put, List.setIfInBounds_toArray, List.set_cons_zero, List.set_cons_succ]
  refine wpAnyH_ready (rs := [3]) (by kernel_rfl) (by simp) (AllReadyH.cons (o := { dst := some 6, op := Op.call { callee := Callee.value (Operand.func 42), args := #[Operand.tmp 3, Operand.tmp 5], argTypes := #[47, 3] }, type := 0, pos := "reader.go:33", after := #[{ on := 0, ground := Ground.data }, { on := 2, ground := Ground.data }, { on := 2, ground := Ground.chain }], guard := none }) rfl (fun K hK => ?_) AllReadyH.nil)
  (go_simp; (go_at_call 42; (refine (push_any b (4 + n) n d lo hi v s _ hs1r0).mono ?_); rintro e V2r0 ⟨rfl, hs2r0⟩))
  refine hK.out _ _ ?_ (fun hHeld => ?_)
  · exact hs2r0.bx (q := q) (b := b) (t := 47) (by simp)
  clear hK K
  try simp only [Act.put, List.setIfInBounds_toArray, List.set_cons_zero, List.set_cons_succ]
  refine wpAnyH_done (by kernel_rfl) ?_ _
  have hc4 := hs2r0.hd_r 4
  have hc : V2r0.cell? ⟨b, 260, none⟩ = some (.int .i64 (n : Int)) := hc4
  have hf := hs2r0.hfro 260
  have hbx2 := hs2r0.bx (q := q) (b := b) (t := 47) (by simp)
  have hput := hs2r0.putr 4 (.int .i64 ((n : Int) + 1))
  have HPUT := Lib.hid hput
  clear hput hc4
  go_wp2_with fail
  exact bodyPost_end (results_none rfl _ _ _) rfl ⟨rfl, HPUT.out⟩
/-- shifting in a reader: for each byte removed the next one is read -/
theorem shiftR_any (b q n : Nat) (c : Cd) (k bit : Nat) (s : ByteArray) (d : Nat → Int) (ok : Ok c) (h : HS W ((b, rmob d (nl c k bit) (nh c k bit) s (val (sx s.data.toList) n) n) :: (q, bxo 47 b) :: L) w) (hn : n ≤ 800000) :
    Calls Try.prog 38 #[.pointer (some ⟨b, 256, none⟩), .func (.func 44) #[] #[.pointer (some ⟨q, 0, none⟩)]] w fun e w' => e = .returned (.tuple #[]) ∧
      HS W ((b, rmob d (stp c k bit).lo (stp c k bit).hi s (val (sx s.data.toList) (n + (out c k bit).length)) (n + (out c k bit).length)) :: (q, bxo 47 b) :: L) w' := by
  have hs := nar_sh ok k bit
  refine (shift_any b 44 #[.pointer (some ⟨q, 0, none⟩)] (fun ms lo hi V => HS W ((b, rmob d lo hi s (val (sx s.data.toList) (n + ms.length)) (n + ms.length)) :: (q, bxo 47 b) :: L) V) (enters_of Try.func44 (by kernel_rfl) rfl) ?_ ?_ ?_ w _ _ h hs).mono ?_
  · rintro ms lo hi V h'
    exact ⟨h'.hd_r 0, h'.hd_r 1, h'.hfro⟩
  · rintro ms lo hi V m h'
    exact h'.drewN m
  · rintro ms lo hi V h' hl htop hle hlt
    have hb := bit1R_any (((lo / 16777216 : Nat) : Int)) b q (n + ms.length) d _ _ _ s _ (h'.bounds (lo * 256 % 4294967296) ((hi * 256 + 255) % 4294967296)) (by omega)
    refine hb.mono ?_
    rintro e w' ⟨rfl, h3⟩
    rw [show 4 + (n + ms.length) = n + ms.length + 4 by omega, ← (val_succ (sx_byt _) (n + ms.length)).1] at h3
    refine ⟨rfl, ?_⟩
    rw [List.length_append, ← Nat.add_assoc]
    exact h3
  · rintro e w' ⟨rfl, h'⟩
    exact ⟨rfl, h'⟩
/-- a reader's state: of the string s the byte number n is the code's first -/
abbrev rob (c : Cd) (s : ByteArray) (n : Nat) : Obj := rmob (dc c.p) c.lo c.hi s (val (sx s.data.toList) n) n
set_option maxHeartbeats 4000000 in
theorem bitR_any (b n : Nat) (x : Int) (c : Cd) (s : ByteArray) (w : World) (ok : Ok c) (h : HS W ((b, rob c s n) :: L) w) (hn : n ≤ 800000) :
    Calls Try.prog 28 #[.pointer (some ⟨b, 0, none⟩), .int .i64 x] w fun e w' => e = .returned (.int .i64 (rbit c (sx s.data.toList) n (ctx x) : Nat)) ∧
      HS W ((b, rob (stp c (ctx x) (rbit c (sx s.data.toList) n (ctx x))) s (n + (out c (ctx x) (rbit c (sx s.data.toList) n (ctx x))).length)) :: L) w' := by
  have hs := (h.alloc (bxo 47 b)).swap
  go_enter Try.func28, Try.ntmps28
  go_upto_region 1 with fail
  generalize w.alloc (bxo 47 b) = w1 at hs ⊢
  generalize w.heap.size = q at hs ⊢
  have hbx := hs.bx (q := q) (b := b) (t := 47) (by simp)
  go_upto_region 3 with fail
  refine wp_region_held_drew (S := fun V9 => V9.cell? ⟨q, 0, none⟩ = some (.pointer (some ⟨b, 0, none⟩))) (by kernel_rfl) ?_ (fun hHeld => ?_)
  · exact hs.drew.bx (q := q) (b := b) (t := 47) (by simp)
  have hs0 := hs.drew
  refine wpAnyH_take (i := 0) (oi := { dst := some 9, op := Op.load 47 (Operand.tmp 2), type := 47, pos := "reader.go:26", after := #[], guard := none }) (v := ?_) rfl (by kernel_rfl) (by kernel_rfl) (by kernel_rfl) (fun _ _ _ h => h) (Or.inl ⟨by kernel_rfl, ?_⟩) (by assumption) ?_
  rotate_left 1
  focus (intro w hSw; (try dsimp only at hSw); go_simp; (try with_reducible rfl))
  try simp only [Act.put, List.setIfInBounds_toArray, List.set_cons_zero, List.set_cons_succ]
  refine wpAnyH_take (i := 1) (oi := { dst := some 10, op := Op.nilCheck (Operand.tmp 9), type := 0, pos := "reader.go:26", after := #[{ on := 0, ground := Ground.data }], guard := none }) (v := ?_) rfl (by kernel_rfl) (by kernel_rfl) (by kernel_rfl) (fun _ _ _ h => h) (Or.inl ⟨by kernel_rfl, ?_⟩) (by assumption) ?_
  rotate_left 1
  focus (intro w hSw; (try dsimp only at hSw); go_simp; (try with_reducible rfl))
  try simp only [Act.put, List.setIfInBounds_toArray, List.set_cons_zero, List.set_cons_succ]
  refine wpAnyH_take (i := 2) (oi := { dst := some 11, op := Op.fieldAddr 70 (Operand.tmp 10) 1, type := 0, pos := "reader.go:26", after := #[{ on := 1, ground := Ground.data }], guard := none }) (v := ?_) rfl (by kernel_rfl) (by kernel_rfl) (by kernel_rfl) (fun _ _ _ h => h) (Or.inl ⟨by kernel_rfl, ?_⟩) (by assumption) ?_
  rotate_left 1
  focus (intro w hSw; (try dsimp only at hSw); go_simp; (try with_reducible rfl))
  try simp only [Act.put, List.setIfInBounds_toArray, List.set_cons_zero, List.set_cons_succ]
  refine wpAnyH_take (i := 3) (oi := { dst := some 12, op := Op.load 47 (Operand.tmp 2), type := 47, pos := "reader.go:26", after := #[], guard := none }) (v := ?_) rfl (by kernel_rfl) (by kernel_rfl) (by kernel_rfl) (fun _ _ _ h => h) (Or.inl ⟨by kernel_rfl, ?_⟩) (by assumption) ?_
  rotate_left 1
  focus (intro w hSw; (try dsimp only at hSw); go_simp; (try with_reducible rfl))
  try simp only [Act.put, List.setIfInBounds_toArray, List.set_cons_zero, List.set_cons_succ]
  refine wpAnyH_take (i := 4) (oi := { dst := some 13, op := Op.nilCheck (Operand.tmp 12), type := 0, pos := "reader.go:26", after := #[{ on := 3, ground := Ground.data }], guard := none }) (v := ?_) rfl (by kernel_rfl) (by kernel_rfl) (by kernel_rfl) (fun _ _ _ h => h) (Or.inl ⟨by kernel_rfl, ?_⟩) (by assumption) ?_
  rotate_left 1
  focus (intro w hSw; (try dsimp only at hSw); go_simp; (try with_reducible rfl))
  try simp only [Act.put, List.setIfInBounds_toArray, List.set_cons_zero, List.set_cons_succ]
  refine wpAnyH_take (i := 5) (oi := { dst := some 14, op := Op.fieldAddr 70 (Operand.tmp 13) 0, type := 0, pos := "reader.go:26", after := #[{ on := 4, ground := Ground.data }], guard := none }) (v := ?_) rfl (by kernel_rfl) (by kernel_rfl) (by kernel_rfl) (fun _ _ _ h => h) (Or.inl ⟨by kernel_rfl, ?_⟩) (by assumption) ?_
  rotate_left 1
  focus (intro w hSw; (try dsimp only at hSw); go_simp; (try with_reducible rfl))
  try simp only [Act.put, List.setIfInBounds_toArray, List.set_cons_zero, List.set_cons_succ]
  refine wpAnyH_take (i := 6) (oi := { dst := some 15, op := Op.move (Operand.tmp 1), type := 3, pos := "reader.go:26", after := #[], guard := none }) (v := ?_) rfl (by kernel_rfl) (by kernel_rfl) (by kernel_rfl) (fun _ _ _ h => h) (Or.inl ⟨by kernel_rfl, ?_⟩) (by assumption) ?_
  rotate_left 1
  focus (intro w hSw; (try dsimp only at hSw); go_simp; (try with_reducible rfl))
  try simp only [Act.put, List.setIfInBounds_toArray, List.set_cons_zero, List.set_cons_succ]
  refine wpAnyH_ready (rs := [7]) (by kernel_rfl) (by simp) (AllReadyH.cons (o := { dst := some 16, op := Op.call { callee := Callee.value (Operand.func 36), args := #[Operand.tmp 14, Operand.tmp 15], argTypes := #[64, 3] }, type := 3, pos := "reader.go:26", after := #[{ on := 5, ground := Ground.data }, { on := 6, ground := Ground.data }], guard := none }) rfl (fun K hK => ?_) AllReadyH.nil)
  (go_simp; (go_at_call 36; (refine (prob_c x ok hs0).mono ?_); rintro e V1r3 ⟨rfl, mV1r3, hVe⟩))
  have hs1r3 := hs0.drewN mV1r3
  rw [← hVe] at hs1r3; clear hVe
  refine hK.out _ _ ?_ (fun hHeld => ?_)
  · exact hs1r3.bx (q := q) (b := b) (t := 47) (by simp)
  clear hK K
  try simp only [Act.put, List.setIfInBounds_toArray, List.set_cons_zero, List.set_cons_succ]
  refine wpAnyH_ready (rs := [8]) (by kernel_rfl) (by simp) (AllReadyH.cons (o := { dst := some 17, op := Op.call { callee := Callee.value (Operand.func 35), args := #[Operand.tmp 11, Operand.tmp 16], argTypes := #[66, 3] }, type := 54, pos := "reader.go:26", after := #[{ on := 2, ground := Ground.data }, { on := 7, ground := Ground.data }, { on := 7, ground := Ground.chain }], guard := none }) rfl (fun K hK => ?_) AllReadyH.nil)
  (go_simp; (go_at_call 35; (refine (mid_c (ctx x) ok hs1r3).mono ?_); rintro e V2r3 ⟨rfl, mV2r3, hVe⟩))
  have hs2r3 := hs1r3.drewN mV2r3
  rw [← hVe] at hs2r3; clear hVe
  refine hK.out _ _ ?_ (fun hHeld => ?_)
  · exact hs2r3.bx (q := q) (b := b) (t := 47) (by simp)
  clear hK K
  try simp only [Act.put, List.setIfInBounds_toArray, List.set_cons_zero, List.set_cons_succ]
  refine wpAnyH_take (i := 9) (oi := { dst := some 5, op := Op.assign (Operand.const (Value.int IntKind.i64 0)), type := 3, pos := "reader.go:26", after := #[{ on := 8, ground := Ground.chain }, { on := 0, ground := Ground.textOnly Departure.lateStores }, { on := 1, ground := Ground.textOnly Departure.lateStores }, { on := 2, ground := Ground.textOnly Departure.lateStores }, { on := 3, ground := Ground.textOnly Departure.lateStores }, { on := 4, ground := Ground.textOnly Departure.lateStores }, { on := 5, ground := Ground.textOnly Departure.lateStores }, { on := 6, ground := Ground.textOnly Departure.lateStores }, { on := 7, ground := Ground.textOnly Departure.lateStoresUnsure }, { on := 8, ground := Ground.textOnly Departure.lateStoresUnsure }], guard := none }) (v := ?_) rfl (by kernel_rfl) (by kernel_rfl) (by kernel_rfl) (fun _ _ _ h => h) (Or.inl ⟨by kernel_rfl, ?_⟩) (by assumption) ?_
  rotate_left 1
  focus (intro w hSw; (try dsimp only at hSw); go_simp; (try with_reducible rfl))
  try simp only [Act.put, List.setIfInBounds_toArray, List.set_cons_zero, List.set_cons_succ]
  refine wpAnyH_take (i := 10) (oi := { dst := some 6, op := Op.assign (Operand.tmp 17), type := 54, pos := "reader.go:26", after := #[{ on := 8, ground := Ground.data }, { on := 9, ground := Ground.chain }, { on := 0, ground := Ground.phase }, { on := 1, ground := Ground.phase }, { on := 2, ground := Ground.phase }, { on := 3, ground := Ground.phase }, { on := 4, ground := Ground.phase }, { on := 5, ground := Ground.phase }, { on := 6, ground := Ground.phase }, { on := 7, ground := Ground.phase }, { on := 8, ground := Ground.phase }, { on := 9, ground := Ground.phase }], guard := none }) (v := ?_) rfl (by kernel_rfl) (by kernel_rfl) (by kernel_rfl) (fun _ _ _ h => h) (Or.inl ⟨by kernel_rfl, ?_⟩) (by assumption) ?_
  rotate_left 1
  focus (intro w hSw; (try dsimp only at hSw); go_simp; (try with_reducible rfl))
  try simp only [Act.put, List.setIfInBounds_toArray, List.set_cons_zero, List.set_cons_succ]
  refine wpAnyH_done (by kernel_rfl) ?_ _
  have hc4 := hs2r3.hd_r 3
  have hc : V2r3.cell? ⟨b, 259, none⟩ = some (.int .u32 ((val (sx s.data.toList) n : Nat) : Int)) := hc4
  have hbx2 := hs2r3.bx (q := q) (b := b) (t := 47) (by simp)
  clear hc4
  have hv := val_lt (sx_byt s.data.toList) n
  have hml := mid_btw ok (ctx x)
  have hih := ok.hi
  clear hbx
  by_cases hle : val (sx s.data.toList) n ≤ mid c (ctx x)
  · have hb : rbit c (sx s.data.toList) n (ctx x) = 1 := if_pos hle
    have HB := Lib.hid hb
    clear hb
    go_upto_region 8 with (first
      | (go_at_call 34; refine (narrow_c (ctx x) 1 (by omega) ok hs2r3).mono ?_; rintro e w3 ⟨rfl, h3⟩; have hbx3 := h3.bx (q := q) (b := b) (t := 47) (by simp))
      | (go_at_call 37; refine (learn_c x 1 (by omega) ok h3).mono ?_; rintro e w4 ⟨rfl, h4⟩; have hbx4 := h4.bx (q := q) (b := b) (t := 47) (by simp)))
    go_wp2_with (first
      | (go_at_call 38; refine (shiftR_any b q n c (ctx x) 1 s _ ok h4 hn).mono ?_; rintro e w5 ⟨rfl, h5⟩))
    go_ret
    rw [HB.out]
    exact ⟨rfl, h5.sub ((List.sublist_cons_self ..).cons_cons _)⟩
  · have hb : rbit c (sx s.data.toList) n (ctx x) = 0 := if_neg hle
    have HB := Lib.hid hb
    clear hb
    go_upto_region 8 with (first
      | (go_at_call 34; refine (narrow_c (ctx x) 0 (by omega) ok hs2r3).mono ?_; rintro e w3 ⟨rfl, h3⟩; have hbx3 := h3.bx (q := q) (b := b) (t := 47) (by simp))
      | (go_at_call 37; refine (learn_c x 0 (by omega) ok h3).mono ?_; rintro e w4 ⟨rfl, h4⟩; have hbx4 := h4.bx (q := q) (b := b) (t := 47) (by simp)))
    go_wp2_with (first
      | (go_at_call 38; refine (shiftR_any b q n c (ctx x) 0 s _ ok h4 hn).mono ?_; rintro e w5 ⟨rfl, h5⟩))
    go_ret
    rw [HB.out]
    exact ⟨rfl, h5.sub ((List.sublist_cons_self ..).cons_cons _)⟩
theorem bitRnil_any (n : Int) (w : World) : Calls Try.prog 28 #[.pointer none, .int .i64 n] w fun e w' => e = .returned (.int .i64 0) ∧ Below w.heap.size w w' := by
  go_enter Try.func28, Try.ntmps28
  go_wp2
  go_ret
  exact ⟨rfl, (Below.refl _ w).alloc (Nat.le_refl _) _⟩
end Go.Proofs.Ytbfnahclkajahaa.C
