/-
  The writer's closure: a byte removed is appended to the output. A coder's state in memory; the model's and the interval's methods on it.
-/
import Derived.Test.YtfncldaodbfakaaGreatCNum
import Derived.OrdersHeld
import Derived.Shelf.Abstract
namespace Go.Proofs.YtfncldaodbfakaaGreat.C
open Go.RowKit
set_option maxRecDepth 100000
variable {W w w' : World} {L : List (Nat × Obj)}

set_option maxHeartbeats 2000000 in
theorem bit1W_any (t0 : UInt8) (b q : Nat) (d : Nat → Int) (x y v : Value) (bs : List UInt8) (l : List (Nat × Obj)) (w : World) (hv : SL v bs l) (hs : HS W ((b, mob 267 d [x, y, v]) :: (l ++ (q, bxo 236 b) :: L)) w) (hlen : bs.length ≤ 900000) :
    Calls Tryz.prog 227 #[.int .u8 (t0.toNat : Int), .pointer (some ⟨q, 0, none⟩)] w fun e w' => e = .returned (.tuple #[]) ∧ ∃ v' l', SL v' (bs ++ [t0]) l' ∧ HS W ((b, mob 267 d [x, y, v']) :: (l' ++ (q, bxo 236 b) :: L)) w' := by
  go_enter Tryz.func227, Tryz.ntmps227
  go_upto_region 0 with fail
  refine wp_region_held_drew (S := fun V9 => V9.cell? ⟨q, 0, none⟩ = some (.pointer (some ⟨b, 0, none⟩))) (by kernel_rfl) ?_ (fun hHeld => ?_)
  · exact hs.drew.bx (q := q) (b := b) (t := 236) (by simp)
  have hs0 := hs.drew
  refine wpAnyH_take (i := 0) (oi := { dst := some 3, op := Op.load 236 (Operand.tmp 1), type := 236, pos := "writer.go:25", after := #[], guard := none }) (v := ?_) rfl (by kernel_rfl) (by kernel_rfl) (by kernel_rfl) (fun _ _ _ h => h) (Or.inl ⟨by kernel_rfl, ?_⟩) (by assumption) ?_
  rotate_left 1
  focus (intro w hSw; (try dsimp only at hSw); go_simp; (try with_reducible rfl))
  try simp only [Act.put, List.setIfInBounds_toArray, List.set_cons_zero, List.set_cons_succ]
  refine wpAnyH_take (i := 1) (oi := { dst := some 4, op := Op.load 236 (Operand.tmp 1), type := 236, pos := "writer.go:25", after := #[], guard := none }) (v := ?_) rfl (by kernel_rfl) (by kernel_rfl) (by kernel_rfl) (fun _ _ _ h => h) (Or.inl ⟨by kernel_rfl, ?_⟩) (by assumption) ?_
  rotate_left 1
  focus (intro w hSw; (try dsimp only at hSw); go_simp; (try with_reducible rfl))
  try simp only [Act.put, List.setIfInBounds_toArray, List.set_cons_zero, List.set_cons_succ]
  refine wpAnyH_take (i := 2) (oi := { dst := some 5, op := Op.nilCheck (Operand.tmp 4), type := 0, pos := "writer.go:25", after := #[{ on := 1, ground := Ground.data }], guard := none }) (v := ?_) rfl (by kernel_rfl) (by kernel_rfl) (by kernel_rfl) (fun _ _ _ h => h) (Or.inl ⟨by kernel_rfl, ?_⟩) (by assumption) ?_
  rotate_left 1
  focus (intro w hSw; (try dsimp only at hSw); go_simp; (try with_reducible rfl))
  try simp only [Act.put, List.setIfInBounds_toArray, List.set_cons_zero, List.set_cons_succ]
  refine wpAnyH_take (i := 3) (oi := { dst := some 6, op := Op.fieldAddr 267 (Operand.tmp 5) 2, type := 0, pos := "writer.go:25", after := #[{ on := 2, ground := Ground.data }], guard := none }) (v := ?_) rfl (by kernel_rfl) (by kernel_rfl) (by kernel_rfl) (fun _ _ _ h => h) (Or.inl ⟨by kernel_rfl, ?_⟩) (by assumption) ?_
  rotate_left 1
  focus (intro w hSw; (try dsimp only at hSw); go_simp; (try with_reducible rfl))
  try simp only [Act.put, List.setIfInBounds_toArray, List.set_cons_zero, List.set_cons_succ]
  refine wpAnyH_take (i := 5) (oi := { dst := some 8, op := Op.move (Operand.tmp 0), type := 5, pos := "writer.go:25", after := #[], guard := none }) (v := ?_) rfl (by kernel_rfl) (by kernel_rfl) (by kernel_rfl) (fun _ _ _ h => h) (Or.inl ⟨by kernel_rfl, ?_⟩) (by assumption) ?_
  rotate_left 1
  focus (intro w hSw; (try dsimp only at hSw); go_simp; (try with_reducible rfl))
  try simp only [Act.put, List.setIfInBounds_toArray, List.set_cons_zero, List.set_cons_succ]
  refine wpAnyH_ready (rs := [4, 6]) (by kernel_rfl) (by simp) (AllReadyH.cons (o := { dst := some 7, op := Op.load 84 (Operand.tmp 6), type := 84, pos := "writer.go:25", after := #[{ on := 3, ground := Ground.data }], guard := none }) rfl (fun K hK => ?_) (AllReadyH.cons (o := { dst := some 9, op := Op.buildSlice 84 1 #[(0, Operand.tmp 8)], type := 84, pos := "writer.go:25", after := #[{ on := 5, ground := Ground.data }], guard := none }) rfl (fun K hK => ?_) AllReadyH.nil))
  · refine wp_load_of 84 (.tmp 6) rfl v (load_sl (hs0.cellr (b := b) (t := 267) (d := d) (r := [x, y, v]) (by simp) 2)) ?_
    refine hK.out _ _ ?_ (fun hHeld => ?_)
    · exact hs0.bx (q := q) (b := b) (t := 236) (by simp)
    clear hK K
    try simp only [Act.put, List.setIfInBounds_toArray, List.set_cons_zero, List.set_cons_succ]
    refine wpAnyH_ready (rs := [6]) (by kernel_rfl) (by simp) (AllReadyH.cons (o := { dst := some 9, op := Op.buildSlice 84 1 #[(0, Operand.tmp 8)], type := 84, pos := "writer.go:25", after := #[{ on := 5, ground := Ground.data }], guard := none }) rfl (fun K hK => ?_) AllReadyH.nil)
    have hs2r0 := hs0.alloc (.cells #[.int .u8 (t0.toNat : Int)] 5)
    refine wp_sl1 (.tmp 8) rfl rfl ?_
    refine hK.out _ _ ?_ (fun hHeld => ?_)
    · exact hs2r0.bx (q := q) (b := b) (t := 236) (by simp)
    clear hK K
    try simp only [Act.put, List.setIfInBounds_toArray, List.set_cons_zero, List.set_cons_succ]
    refine wpAnyH_ready (rs := [7]) (by kernel_rfl) (by simp) (AllReadyH.cons (o := { dst := some 10, op := Op.call { callee := Callee.builtin Builtin.append, args := #[Operand.tmp 7, Operand.tmp 9], argTypes := #[84, 84] }, type := 84, pos := "writer.go:25", after := #[{ on := 4, ground := Ground.data }, { on := 6, ground := Ground.data }], guard := none }) rfl (fun K hK => ?_) AllReadyH.nil)
    refine wp_app (.tmp 7) (.tmp 9) rfl v _ bs [t0] l rfl rfl hv hs2r0.in2 (Src.one _ t0 hs2r0.hd) (by simp only [List.length_cons, List.length_nil]; omega) ?_
    intro v2 V3r0 l2 hv2 hs3r00
    have hs3r0 := hs3r00.out2
    refine hK.out _ _ ?_ (fun hHeld => ?_)
    · exact hs3r0.bx (q := q) (b := b) (t := 236) (by simp)
    clear hK K
    try simp only [Act.put, List.setIfInBounds_toArray, List.set_cons_zero, List.set_cons_succ]
    refine wpAnyH_take (i := 8) (oi := { dst := some 11, op := Op.nilCheck (Operand.tmp 3), type := 0, pos := "writer.go:25", after := #[{ on := 0, ground := Ground.data }, { on := 0, ground := Ground.phase }, { on := 1, ground := Ground.phase }, { on := 2, ground := Ground.phase }, { on := 3, ground := Ground.phase }, { on := 4, ground := Ground.phase }, { on := 5, ground := Ground.phase }, { on := 6, ground := Ground.phase }, { on := 7, ground := Ground.phase }], guard := none }) (v := ?_) rfl (by kernel_rfl) (by kernel_rfl) (by kernel_rfl) (fun _ _ _ h => h) (Or.inl ⟨by kernel_rfl, ?_⟩) (by assumption) ?_
    rotate_left 1
    focus (intro w hSw; (try dsimp only at hSw); go_simp; (try with_reducible rfl))
    try simp only [Act.put, List.setIfInBounds_toArray, List.set_cons_zero, List.set_cons_succ]
    refine wpAnyH_take (i := 9) (oi := { dst := some 12, op := Op.fieldAddr 267 (Operand.tmp 11) 2, type := 0, pos := "writer.go:25", after := #[{ on := 8, ground := Ground.data }, { on := 0, ground := Ground.phase }, { on := 1, ground := Ground.phase }, { on := 2, ground := Ground.phase }, { on := 3, ground := Ground.phase }, { on := 4, ground := Ground.phase }, { on := 5, ground := Ground.phase }, { on := 6, ground := Ground.phase }, { on := 7, ground := Ground.phase }], guard := none }) (v := ?_) rfl (by kernel_rfl) (by kernel_rfl) (by kernel_rfl) (fun _ _ _ h => h) (Or.inl ⟨by kernel_rfl, ?_⟩) (by assumption) ?_
    rotate_left 1
    focus (intro w hSw; (try dsimp only at hSw); go_simp; (try with_reducible rfl))
    try simp only [Act.put, List.setIfInBounds_toArray, List.set_cons_zero, List.set_cons_succ]
    refine wpAnyH_ready (rs := [10]) (by kernel_rfl) (by simp) (AllReadyH.cons (o := { dst := none, op := Op.store 84 (Operand.tmp 12) (Operand.tmp 10), type := 0, pos := "writer.go:25", after := #[{ on := 9, ground := Ground.data }, { on := 7, ground := Ground.data }, { on := 7, ground := Ground.chain }, { on := 0, ground := Ground.phase }, { on := 1, ground := Ground.phase }, { on := 2, ground := Ground.phase }, { on := 3, ground := Ground.phase }, { on := 4, ground := Ground.phase }, { on := 5, ground := Ground.phase }, { on := 6, ground := Ground.phase }, { on := 7, ground := Ground.phase }], guard := none }) rfl (fun K hK => ?_) AllReadyH.nil)
    have hs4r0 := hs3r0.putr 2 v2
    refine wp_store_of 84 (.tmp 12) (.tmp 10) rfl (store_sl (hs3r0.hd_r 2) (hs3r0.hfro 258) hv2.one) ?_
    refine hK.out _ _ ?_ (fun hHeld => ?_)
    · exact hs4r0.bx (q := q) (b := b) (t := 236) (by simp)
    clear hK K
    try simp only [Act.put]
    refine wpAnyH_done (by kernel_rfl) ?_ _
    go_wp2_with fail
    exact bodyPost_end (results_none rfl _ _ _) rfl ⟨rfl, v2, l2, hv2, hs4r0⟩
  · have hs5r0 := hs0.alloc (.cells #[.int .u8 (t0.toNat : Int)] 5)
    refine wp_sl1 (.tmp 8) rfl rfl ?_
    refine hK.out _ _ ?_ (fun hHeld => ?_)
    · exact hs5r0.bx (q := q) (b := b) (t := 236) (by simp)
    clear hK K
    try simp only [Act.put, List.setIfInBounds_toArray, List.set_cons_zero, List.set_cons_succ]
    refine wpAnyH_ready (rs := [4]) (by kernel_rfl) (by simp) (AllReadyH.cons (o := { dst := some 7, op := Op.load 84 (Operand.tmp 6), type := 84, pos := "writer.go:25", after := #[{ on := 3, ground := Ground.data }], guard := none }) rfl (fun K hK => ?_) AllReadyH.nil)
    refine wp_load_of 84 (.tmp 6) rfl v (load_sl (hs5r0.cellr (b := b) (t := 267) (d := d) (r := [x, y, v]) (by simp) 2)) ?_
    refine hK.out _ _ ?_ (fun hHeld => ?_)
    · exact hs5r0.bx (q := q) (b := b) (t := 236) (by simp)
    clear hK K
    try simp only [Act.put, List.setIfInBounds_toArray, List.set_cons_zero, List.set_cons_succ]
    refine wpAnyH_ready (rs := [7]) (by kernel_rfl) (by simp) (AllReadyH.cons (o := { dst := some 10, op := Op.call { callee := Callee.builtin Builtin.append, args := #[Operand.tmp 7, Operand.tmp 9], argTypes := #[84, 84] }, type := 84, pos := "writer.go:25", after := #[{ on := 4, ground := Ground.data }, { on := 6, ground := Ground.data }], guard := none }) rfl (fun K hK => ?_) AllReadyH.nil)
    refine wp_app (.tmp 7) (.tmp 9) rfl v _ bs [t0] l rfl rfl hv hs5r0.in2 (Src.one _ t0 hs5r0.hd) (by simp only [List.length_cons, List.length_nil]; omega) ?_
    intro v2 V7r0 l2 hv2 hs7r00
    have hs7r0 := hs7r00.out2
    refine hK.out _ _ ?_ (fun hHeld => ?_)
    · exact hs7r0.bx (q := q) (b := b) (t := 236) (by simp)
    clear hK K
    try simp only [Act.put, List.setIfInBounds_toArray, List.set_cons_zero, List.set_cons_succ]
    refine wpAnyH_take (i := 8) (oi := { dst := some 11, op := Op.nilCheck (Operand.tmp 3), type := 0, pos := "writer.go:25", after := #[{ on := 0, ground := Ground.data }, { on := 0, ground := Ground.phase }, { on := 1, ground := Ground.phase }, { on := 2, ground := Ground.phase }, { on := 3, ground := Ground.phase }, { on := 4, ground := Ground.phase }, { on := 5, ground := Ground.phase }, { on := 6, ground := Ground.phase }, { on := 7, ground := Ground.phase }], guard := none }) (v := ?_) rfl (by kernel_rfl) (by kernel_rfl) (by kernel_rfl) (fun _ _ _ h => h) (Or.inl ⟨by kernel_rfl, ?_⟩) (by assumption) ?_
    rotate_left 1
    focus (intro w hSw; (try dsimp only at hSw); go_simp; (try with_reducible rfl))
    try simp only [Act.put, List.setIfInBounds_toArray, List.set_cons_zero, List.set_cons_succ]
    refine wpAnyH_take (i := 9) (oi := { dst := some 12, op := Op.fieldAddr 267 (Operand.tmp 11) 2, type := 0, pos := "writer.go:25", after := #[{ on := 8, ground := Ground.data }, { on := 0, ground := Ground.phase }, { on := 1, ground := Ground.phase }, { on := 2, ground := Ground.phase }, { on := 3, ground := Ground.phase }, { on := 4, ground := Ground.phase }, { on := 5, ground := Ground.phase }, { on := 6, ground := Ground.phase }, { on := 7, ground := Ground.phase }], guard := none }) (v := ?_) rfl (by kernel_rfl) (by kernel_rfl) (by kernel_rfl) (fun _ _ _ h => h) (Or.inl ⟨by kernel_rfl, ?_⟩) (by assumption) ?_
    rotate_left 1
    focus (intro w hSw; (try dsimp only at hSw); go_simp; (try with_reducible rfl))
    try simp only [Act.put, List.setIfInBounds_toArray, List.set_cons_zero, List.set_cons_succ]
    refine wpAnyH_ready (rs := [10]) (by kernel_rfl) (by simp) (AllReadyH.cons (o := { dst := none, op := Op.store 84 (Operand.tmp 12) (Operand.tmp 10), type := 0, pos := "writer.go:25", after := #[{ on := 9, ground := Ground.data }, { on := 7, ground := Ground.data }, { on := 7, ground := Ground.chain }, { on := 0, ground := Ground.phase }, { on := 1, ground := Ground.phase }, { on := 2, ground := Ground.phase }, { on := 3, ground := Ground.phase }, { on := 4, ground := Ground.phase }, { on := 5, ground := Ground.phase }, { on := 6, ground := Ground.phase }, { on := 7, ground := Ground.phase }], guard := none }) rfl (fun K hK => ?_) AllReadyH.nil)
    have hs8r0 := hs7r0.putr 2 v2
    refine wp_store_of 84 (.tmp 12) (.tmp 10) rfl (store_sl (hs7r0.hd_r 2) (hs7r0.hfro 258) hv2.one) ?_
    refine hK.out _ _ ?_ (fun hHeld => ?_)
    · exact hs8r0.bx (q := q) (b := b) (t := 236) (by simp)
    clear hK K
    try simp only [Act.put]
    refine wpAnyH_done (by kernel_rfl) ?_ _
    go_wp2_with fail
    exact bodyPost_end (results_none rfl _ _ _) rfl ⟨rfl, v2, l2, hv2, hs8r0⟩
end Go.Proofs.YtfncldaodbfakaaGreat.C

namespace Go.Proofs.YtfncldaodbfakaaGreat.C
open Go.RowKit Go.Shelf
set_option maxRecDepth 100000
variable {W w w' : World} {L : List (Nat × Obj)}

/-- the bounds in memory, and what follows them -/
def iv (lo hi : Nat) (r : List Value) : List Value := .int .u32 (lo : Int) :: .int .u32 ((4294967295 - hi : Nat) : Int) :: r
abbrev wob (c : Cd) (v : Value) : Obj := mob 267 (dc c.p) (iv c.lo c.hi [v])
theorem Ok.le {c : Cd} (h : Ok c) : c.hi ≤ 4294967295 := by have := h.hi; omega
theorem prob_c {b : Nat} {t : TypeId} {c : Cd} {r : List Value} (n : Int) (ok : Ok c) (h : HS W ((b, mob t (dc c.p) r) :: L) w) :
    Calls Tryz.prog 224 #[.pointer (some ⟨b, 0, none⟩), .int .i64 n] w fun e w' => e = .returned (.int .i64 (c.p (ctx n) : Int)) ∧ ∃ m, w' = w.drewN m := by
  have h2 := (ok.pr (ctx n)).2
  have := prob_any b (ctx n) n _ w rfl (h.hd_d (ctx n) (ctx_lt n)) (show -4096 ≤ (c.p (ctx n) : Int) - 2048 ∧ (c.p (ctx n) : Int) - 2048 ≤ 4096 by omega)
  rwa [show (2048 : Int) + dc c.p (ctx n) = c.p (ctx n) by unfold dc; omega] at this
theorem mid_c {b : Nat} {t : TypeId} {c : Cd} {d : Nat → Int} {r : List Value} (k : Nat) (ok : Ok c) (h : HS W ((b, mob t d (iv c.lo c.hi r)) :: L) w) :
    Calls Tryz.prog 223 #[.pointer (some ⟨b, 256, none⟩), .int .i64 (c.p k : Int)] w fun e w' => e = .returned (.int .u32 (mid c k : Int)) ∧ ∃ m, w' = w.drewN m := by
  have h2 := (ok.pr k).2
  have h3 := ok.le
  have h4 := ok.lt
  exact mid_any b c.lo (4294967295 - c.hi) c.hi (c.p k) w (h.hd_r 0) (h.hd_r 1) (by omega) (by omega) (by omega)
theorem narrow_c {b : Nat} {t : TypeId} {c : Cd} {d : Nat → Int} {r : List Value} (k bit : Nat) (hb : bit ≤ 1) (ok : Ok c) (h : HS W ((b, mob t d (iv c.lo c.hi r)) :: L) w) :
    Calls Tryz.prog 222 #[.pointer (some ⟨b, 256, none⟩), .int .u32 (mid c k : Int), .int .i64 bit] w fun e w' => e = .returned (.tuple #[]) ∧ HS W ((b, mob t d (iv (nl c k bit) (nh c k bit) r)) :: L) w' := by
  have h3 := ok.le
  exact narrow_any b c.lo c.hi (4294967295 - c.hi) (mid c k) bit t d r w hb h (by omega) (mid_btw ok k).2
theorem learn_c {b : Nat} {t : TypeId} {c : Cd} {r : List Value} (n : Int) (bit : Nat) (hb : bit ≤ 1) (ok : Ok c) (h : HS W ((b, mob t (dc c.p) r) :: L) w) :
    Calls Tryz.prog 225 #[.pointer (some ⟨b, 0, none⟩), .int .i64 n, .int .i64 bit] w fun e w' => e = .returned (.tuple #[]) ∧ HS W ((b, mob t (dc (stp c (ctx n) bit).p) r) :: L) w' :=
  learn_any b (ctx n) bit n t c.p r w rfl hb h (ok.pr _)
theorem HS.box3 {l R : List (Nat × Obj)} {x z : Nat × Obj} (h : HS W (z :: x :: (l ++ R)) w) : HS W (x :: (l ++ z :: R)) w :=
  h.perm ((List.Perm.cons x List.perm_middle).trans (List.Perm.swap ..))
theorem HS.unbox3 {l R : List (Nat × Obj)} {x z : Nat × Obj} (h : HS W (x :: (l ++ z :: R)) w) : HS W (x :: (l ++ R)) w :=
  h.sub ((List.Sublist.append_left (List.sublist_cons_self ..) l).cons_cons x)
/-- bounds stored anew -/
theorem HS.bounds {b : Nat} {t : TypeId} {d : Nat → Int} {r : List Value} {lo hi : Nat} (h : HS W ((b, mob t d (iv lo hi r)) :: L) w) (lo' hi' : Nat) : HS W ((b, mob t d (iv lo' hi' r)) :: L)
    ((w.setCell ⟨b, 256, none⟩ (.int .u32 (lo' : Int))).setCell ⟨b, 257, none⟩ (.int .u32 ((4294967295 - hi' : Nat) : Int))) :=
  (h.putr 0 (.int .u32 (lo' : Int))).putr 1 (.int .u32 ((4294967295 - hi' : Nat) : Int))
/-- shifting in a writer: the bytes removed are appended to its output -/
theorem shiftW_any (b q : Nat) (c : Cd) (k bit : Nat) (v : Value) (bs : List UInt8) (l : List (Nat × Obj)) (d : Nat → Int) (ok : Ok c) (hv : SL v bs l) (h : HS W ((b, mob 267 d (iv (nl c k bit) (nh c k bit) [v])) :: (l ++ (q, bxo 236 b) :: L)) w) (hlen : bs.length ≤ 800000) :
    Calls Tryz.prog 226 #[.pointer (some ⟨b, 256, none⟩), .func (.func 227) #[] #[.pointer (some ⟨q, 0, none⟩)]] w fun e w' => e = .returned (.tuple #[]) ∧
      ∃ v' l', SL v' (bs ++ out c k bit) l' ∧ HS W ((b, mob 267 d (iv (stp c k bit).lo (stp c k bit).hi [v'])) :: (l' ++ (q, bxo 236 b) :: L)) w' := by
  have hs := nar_sh ok k bit
  refine (shift_any b 227 #[.pointer (some ⟨q, 0, none⟩)] (fun ms lo hi V => ∃ v' l', SL v' (bs ++ ms) l' ∧ HS W ((b, mob 267 d (iv lo hi [v'])) :: (l' ++ (q, bxo 236 b) :: L)) V) (enters_of Tryz.func227 (by kernel_rfl) rfl) ?_ ?_ ?_ w _ _ ⟨v, l, ?_, h⟩ hs).mono ?_
  · rintro ms lo hi V ⟨v', l', _, h'⟩
    exact ⟨h'.hd_r 0, h'.hd_r 1, h'.hfro⟩
  · rintro ms lo hi V n ⟨v', l', h1, h'⟩
    exact ⟨v', l', h1, h'.drewN n⟩
  · rintro ms lo hi V ⟨v', l', h1, h'⟩ hl htop hle hlt
    have hb := bit1W_any (UInt8.ofNat (lo / 16777216)) b q d _ _ v' (bs ++ ms) l' _ h1 (h'.bounds (lo * 256 % 4294967296) ((hi * 256 + 255) % 4294967296)) (by rw [List.length_append]; omega)
    rw [top_u8 (by omega)] at hb
    refine hb.mono ?_
    rintro e w' ⟨rfl, v2, l2, h2, h3⟩
    rw [List.append_assoc] at h2
    exact ⟨rfl, v2, l2, h2, h3⟩
  · rw [List.append_nil]; exact hv
  · rintro e w' ⟨rfl, v', l', h1, h'⟩
    exact ⟨rfl, v', l', h1, h'⟩
end Go.Proofs.YtfncldaodbfakaaGreat.C
