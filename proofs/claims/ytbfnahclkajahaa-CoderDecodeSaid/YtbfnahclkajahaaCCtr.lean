/-
  A coder's state in memory; the model's and the interval's methods on it.
-/
import Derived.Test.YtbfnahclkajahaaCBit1
import Derived.Shelf.Abstract
namespace Go.Proofs.Ytbfnahclkajahaa.C
open Go.RowKit Go.Shelf
set_option maxRecDepth 100000
variable {W w w' : World} {L : List (Nat × Obj)}

/-- the bounds in memory, and what follows them -/
def iv (lo hi : Nat) (r : List Value) : List Value := .int .u32 (lo : Int) :: .int .u32 ((4294967295 - hi : Nat) : Int) :: r
abbrev wob (c : Cd) (v : Value) : Obj := mob 68 (dc c.p) (iv c.lo c.hi [v])
theorem Ok.le {c : Cd} (h : Ok c) : c.hi ≤ 4294967295 := by have := h.hi; omega
theorem prob_c {b : Nat} {t : TypeId} {c : Cd} {r : List Value} (n : Int) (ok : Ok c) (h : HS W ((b, mob t (dc c.p) r) :: L) w) :
    Calls Try.prog 36 #[.pointer (some ⟨b, 0, none⟩), .int .i64 n] w fun e w' => e = .returned (.int .i64 (c.p (ctx n) : Int)) ∧ ∃ m, w' = w.drewN m := by
  have h2 := (ok.pr (ctx n)).2
  have := prob_any b (ctx n) n _ w rfl (h.hd_d (ctx n) (ctx_lt n)) (show -4096 ≤ (c.p (ctx n) : Int) - 2048 ∧ (c.p (ctx n) : Int) - 2048 ≤ 4096 by omega)
  rwa [show (2048 : Int) + dc c.p (ctx n) = c.p (ctx n) by unfold dc; omega] at this
theorem mid_c {b : Nat} {t : TypeId} {c : Cd} {d : Nat → Int} {r : List Value} (k : Nat) (ok : Ok c) (h : HS W ((b, mob t d (iv c.lo c.hi r)) :: L) w) :
    Calls Try.prog 35 #[.pointer (some ⟨b, 256, none⟩), .int .i64 (c.p k : Int)] w fun e w' => e = .returned (.int .u32 (mid c k : Int)) ∧ ∃ m, w' = w.drewN m := by
  have h2 := (ok.pr k).2
  have h3 := ok.le
  have h4 := ok.lt
  exact mid_any b c.lo (4294967295 - c.hi) c.hi (c.p k) w (h.hd_r 0) (h.hd_r 1) (by omega) (by omega) (by omega)
theorem narrow_c {b : Nat} {t : TypeId} {c : Cd} {d : Nat → Int} {r : List Value} (k bit : Nat) (hb : bit ≤ 1) (ok : Ok c) (h : HS W ((b, mob t d (iv c.lo c.hi r)) :: L) w) :
    Calls Try.prog 34 #[.pointer (some ⟨b, 256, none⟩), .int .u32 (mid c k : Int), .int .i64 bit] w fun e w' => e = .returned (.tuple #[]) ∧ HS W ((b, mob t d (iv (nl c k bit) (nh c k bit) r)) :: L) w' := by
  have h3 := ok.le
  exact narrow_any b c.lo c.hi (4294967295 - c.hi) (mid c k) bit t d r w hb h (by omega) (mid_btw ok k).2
theorem learn_c {b : Nat} {t : TypeId} {c : Cd} {r : List Value} (n : Int) (bit : Nat) (hb : bit ≤ 1) (ok : Ok c) (h : HS W ((b, mob t (dc c.p) r) :: L) w) :
    Calls Try.prog 37 #[.pointer (some ⟨b, 0, none⟩), .int .i64 n, .int .i64 bit] w fun e w' => e = .returned (.tuple #[]) ∧ HS W ((b, mob t (dc (stp c (ctx n) bit).p) r) :: L) w' :=
  learn_any b (ctx n) bit n t c.p r w rfl hb h (ok.pr _)
theorem HS.box3 {l R : List (Nat × Obj)} {x z : Nat × Obj} (h : HS W (z :: x :: (l ++ R)) w) : HS W (x :: (l ++ z :: R)) w :=
  h.perm ((List.Perm.cons x List.perm_middle).trans (List.Perm.swap ..))
theorem HS.unbox3 {l R : List (Nat × Obj)} {x z : Nat × Obj} (h : HS W (x :: (l ++ z :: R)) w) : HS W (x :: (l ++ R)) w :=
  h.sub ((List.Sublist.append_left (List.sublist_cons_self ..) l).cons_cons x)
/-- bounds stored anew -/
theorem HS.bounds {b : Nat} {t : TypeId} {d : Nat → Int} {r : List Value} {lo hi : Nat} (h : HS W ((b, mob t d (iv lo hi r)) :: L) w) (lo' hi' : Nat) : HS W ((b, mob t d (iv lo' hi' r)) :: L)
    ((w.setCell ⟨b, 256, none⟩ (.int .u32 (lo' : Int))).setCell ⟨b, 257, none⟩ (.int .u32 ((4294967295 - hi' : Nat) : Int))) :=
  (h.putr 0 (.int .u32 (lo' : Int))).putr 1 (.int .u32 ((4294967295 - hi' : Nat) : Int))
/-- shifting in a writer: the bytes removed are appended to its output -/
theorem shiftW_any (b q : Nat) (c : Cd) (k bit : Nat) (v : Value) (bs : List UInt8) (l : List (Nat × Obj)) (d : Nat → Int) (ok : Ok c) (hv : SL v bs l) (h : HS W ((b, mob 68 d (iv (nl c k bit) (nh c k bit) [v])) :: (l ++ (q, bxo 37 b) :: L)) w) (hlen : bs.length ≤ 800000) :
    Calls Try.prog 38 #[.pointer (some ⟨b, 256, none⟩), .func (.func 39) #[] #[.pointer (some ⟨q, 0, none⟩)]] w fun e w' => e = .returned (.tuple #[]) ∧
      ∃ v' l', SL v' (bs ++ out c k bit) l' ∧ HS W ((b, mob 68 d (iv (stp c k bit).lo (stp c k bit).hi [v'])) :: (l' ++ (q, bxo 37 b) :: L)) w' := by
  have hs := nar_sh ok k bit
  refine (shift_any b 39 #[.pointer (some ⟨q, 0, none⟩)] (fun ms lo hi V => ∃ v' l', SL v' (bs ++ ms) l' ∧ HS W ((b, mob 68 d (iv lo hi [v'])) :: (l' ++ (q, bxo 37 b) :: L)) V) (enters_of Try.func39 (by kernel_rfl) rfl) ?_ ?_ ?_ w _ _ ⟨v, l, ?_, h⟩ hs).mono ?_
  · rintro ms lo hi V ⟨v', l', _, h'⟩
    exact ⟨h'.hd_r 0, h'.hd_r 1, h'.hfro⟩
  · rintro ms lo hi V n ⟨v', l', h1, h'⟩
    exact ⟨v', l', h1, h'.drewN n⟩
  · rintro ms lo hi V ⟨v', l', h1, h'⟩ hl htop hle hlt
    have hb := bit1W_any (UInt8.ofNat (lo / 16777216)) b q d _ _ v' (bs ++ ms) l' _ h1 (h'.bounds (lo * 256 % 4294967296) ((hi * 256 + 255) % 4294967296)) (by rw [List.length_append]; omega)
    rw [top_u8 (by omega)] at hb
    refine hb.mono ?_
    rintro e w' ⟨rfl, v2, l2, h2, h3⟩
    rw [List.append_assoc] at h2
    exact ⟨rfl, v2, l2, h2, h3⟩
  · rw [List.append_nil]; exact hv
  · rintro e w' ⟨rfl, v', l', h1, h'⟩
    exact ⟨rfl, v', l', h1, h'⟩
end Go.Proofs.Ytbfnahclkajahaa.C
