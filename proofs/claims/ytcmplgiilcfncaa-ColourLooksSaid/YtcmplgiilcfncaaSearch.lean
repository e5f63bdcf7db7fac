/-
  sort.Search; Solve, of curve and of the reference.
-/
import Derived.Test.YtcmplgiilcfncaaRefValid
import Derived.Shelf.Abstract
namespace Go.Proofs.Ytcmplgiilcfncaa
open Go.RowKit
variable {w : World}

set_option maxRecDepth 100000 in
set_option maxHeartbeats 2000000 in
theorem search_any (g : Nat) (cb : Array Value) (n : Nat) (p : Nat → Prop) [DecidablePred p] (w : World) (eg : ∀ args w, (callFunc g args).run Try.prog w = .ok (.enter g args) w) (hn : n ≤ 100000)
    (hmono : ∀ a b, a ≤ b → b < n → p a → p b)
    (hf : ∀ V, Below w.heap.size w V → ∀ i, i < n → Calls Try.prog g (#[.int .i64 i] ++ cb) V fun e w' => e = .returned (.bool (decide (p i))) ∧ Below V.heap.size V w') :
    Calls Try.prog 83 #[.int .i64 n, .func (.func g) #[] cb] w fun e w' => e = .returned (.int .i64 (lst p n)) ∧ Below w.heap.size w w' := by
  have HM := Lib.hid hmono; clear hmono
  have HF := Lib.hid hf; clear hf
  go_enter Try.func83, Try.ntmps83
  go_wp2
  go_loopw [5, 6] (fun i j wr => ∃ a b : Nat, a ≤ b ∧ b ≤ n ∧ i = .int .i64 a ∧ j = .int .i64 b ∧ Hid (∀ z, z < a → ¬ p z) ∧ Hid (b < n → p b) ∧ Hid (Below w.heap.size w wr)) (fun i j _ => (intOf j).toNat - (intOf i).toNat)
  case atStart => exact ⟨0, n, by omega, by omega, rfl, rfl, fun z hz => absurd hz (Nat.not_lt_zero _), fun h => absurd h (Nat.lt_irrefl _), Below.refl _ _⟩
  case round =>
    obtain ⟨a, b, hab, hbn, rfl, rfl, HA, HB, HW⟩ := hrel
    by_cases hlt : a < b
    · obtain ⟨h, hh⟩ : ∃ h, h = (a + b) / 2 := ⟨_, rfl⟩
      have h1 : a ≤ h := by omega
      have h2 : h < b := by omega
      have HC := Lib.hid (HF.out wr HW.out h (by omega))
      have HD : Hid (decide (p h) = false → ∀ z, z < h + 1 → ¬ p z) := fun hp z hz hpz => by
        have hp' : ¬ p h := by simpa using hp
        exact hp' (HM.out z h (by omega) (by omega) hpz)
      have HE : Hid (decide (p h) = true → h < n → p h) := fun hp _ => by simpa using hp
      generalize decide (p h) = d at HC HD HE
      have hsh : ((a : Int) + (b : Int)) / 2 = (h : Int) := by omega
      clear hh
      go_upto_region 4 with fail
      go_wp2_with fail
      refine HC.out.mono ?_
      rintro e w2 ⟨rfl, hb⟩
      have HW2 : Hid (Below w.heap.size w w2) := HW.out.trans (hb.mono HW.out.size)
      clear hb HC eg
      cases d
      · go_wp2_with fail
        go_roundw
        case rel => exact ⟨h + 1, b, by omega, hbn, by go_num, rfl, HD.out trivial, HB, HW2⟩
        case measure => simp [intOf]; omega
      · go_wp2_with fail
        go_roundw
        case rel => exact ⟨a, h, h1, by omega, rfl, rfl, HA, HE.out trivial, HW2⟩
        case measure => simp [intOf]; omega
    · obtain rfl : a = b := by omega
      have HL : Hid (lst p n = a) := lst_eq p n a hbn HA.out HB.out
      clear eg
      go_wp2
      go_ret
      exact ⟨ret_int (by rw [HL.out]), HW.out⟩

set_option maxRecDepth 100000 in
set_option maxHeartbeats 2000000 in
theorem solve1_any (c : List Int) (n b off cap bc bY x : Nat) (y : Int) (w : World) (hv : Cv c) (hn : c.length = n) (hr : Row w b off c) (hx : x < 65536)
    (h1 : w.cell? ⟨bc, 0, none⟩ = some (.slice (some ⟨b, off, none⟩) n cap)) (h2 : w.cell? ⟨bY, 0, none⟩ = some (.int .i64 y)) :
    Calls Try.prog 84 #[.int .i64 x, .pointer (some ⟨bc, 0, none⟩), .pointer (some ⟨bY, 0, none⟩)] w fun e w' => e = .returned (.bool (decide (y ≤ val c x))) ∧ Below w.heap.size w w' := by
  have HI : Hid (∀ q, Calls Try.prog 85 #[.slice (some ⟨b, off, none⟩) n cap, .int .i64 x] (w.drewN q) fun e w' => e = .returned (.int .i64 (val c x)) ∧ ∃ m, w' = (w.drewN q).drewN m) := fun q =>
    inter_row c n b off cap x _ hv hn (hr.later (belowN q)) (by omega)
  clear hv hn hr
  generalize val c x = z at HI ⊢
  have key : Calls Try.prog 84 #[.int .i64 x, .pointer (some ⟨bc, 0, none⟩), .pointer (some ⟨bY, 0, none⟩)] w fun e w' => e = .returned (.bool (decide (y ≤ z))) ∧ ∃ m, w' = w.drewN m := by
    go_enter Try.func84, Try.ntmps84
    go_upto_region 1 with fail
    go_quiet ((go_at_call 85; exact Calls.quiet_of (HI.out _)))
    go_wp2_with fail
    go_ret
    exact ⟨rfl, _, rfl⟩
  exact quiet_below key

/-- what Solve returns -/
def slv (r : Bool) (c : List Int) (y : Int) : Nat := if r && decide (sol c y ≤ 65535) then sol c y else 0
def slk (r : Bool) (c : List Int) (y : Int) : Bool := r && decide (sol c y ≤ 65535)
set_option maxRecDepth 100000 in
set_option maxHeartbeats 2000000 in
theorem solve_any (c : List Int) (v : Value) (r : Bool) (y : Int) (w : World) (hc : Cm w v c) (hr : r = true ↔ Cv c) :
    Calls Try.prog 78 #[v, .int .i64 y] w fun e w' => e = .returned (.tuple #[.int .i64 (slv r c y), .bool (slk r c y)]) ∧ Below w.heap.size w w' := by
  have HV : Hid (∀ V L, St w L V → Calls Try.prog 53 #[v] V fun e w' => e = .returned (.bool r) ∧ St w L w') := fun V L hs => hs.call (valid_any c v r V (hc.later hs.below) hr)
  cases r
  · clear hr
    obtain ⟨po, cap, rfl, _⟩ := hc
    have hs := ((St.start w).alloc (vo (.slice po c.length cap) 42)).alloc (vo (.int .i64 y) 3)
    rw [show ((slv false c y : Nat) : Int) = 0 from rfl, show slk false c y = false from rfl]
    go_enter Try.func78, Try.ntmps78
    go_wp2_with (go_at_call 53; (with_reducible refine (HV.out _ _ hs).mono ?_); rintro e w' ⟨rfl, h2⟩)
    go_ret2
    exact ⟨rfl, h2.below⟩
  · obtain ⟨b, off, cap, rfl, _, _, hrow⟩ := hc.row (by have := (hr.1 rfl).two; omega)
    have hcv := hr.1 rfl
    have hs := ((St.start w).alloc (vo (.slice (some ⟨b, off, none⟩) c.length cap) 42)).alloc (vo (.int .i64 y) 3)
    rw [World.size_alloc] at hs
    have HS : Hid (∀ V, St w [(w.heap.size + 1, vo (.int .i64 y) 3), (w.heap.size, vo (.slice (some ⟨b, off, none⟩) c.length cap) 42)] V →
        Calls Try.prog 83 #[.int .i64 65536, .func (.func 84) #[] #[.pointer (some ⟨w.heap.size, 0, none⟩), .pointer (some ⟨w.heap.size + 1, 0, none⟩)]] V fun e w' => e = .returned (.int .i64 (sol c y)) ∧ Below w.heap.size w w') := fun V hV =>
      Below.call hV.below (search_any 84 _ 65536 (fun x => y ≤ val c x) V (enters_of Try.func84 (by kernel_rfl) rfl) (by omega)
        (fun x x' hx hx' h => Int.le_trans h (val_mono hcv hx (by omega)))
        (fun V2 hb i hi => by
          have h2 := hV.later hb
          exact solve1_any c _ b off cap _ _ i y V2 hcv rfl (hrow.later h2.below) hi (h2.var (t := 42) (by simp)) (h2.var (t := 3) (by simp))))
    have hle := sol_le c y
    have HE : Hid (slv true c y = (if sol c y ≤ 65535 then sol c y else 0) ∧ slk true c y = decide (sol c y ≤ 65535)) := by
      constructor <;> simp [slv, slk]
    clear hr hc hcv
    generalize sol c y = z at HS HE hle
    have hz : (c.length : Nat) = c.length := rfl
    by_cases hlt : z ≤ 65535
    · rw [HE.out.1, HE.out.2, if_pos hlt, decide_eq_true hlt]
      clear HE
      go_enter Try.func78, Try.ntmps78
      go_wp2_with (first
        | (go_at_call 53; (with_reducible refine (HV.out _ _ hs).mono ?_); rintro e w' ⟨rfl, h2⟩; have hc1 := h2.var (b := w.heap.size) (x := .slice (some ⟨b, off, none⟩) c.length cap) (t := 42) (by simp))
        | (go_at_call 83; (with_reducible refine (HS.out _ h2).mono ?_); rintro e w3 ⟨rfl, h3⟩))
      go_ret2
      exact ⟨rfl, h3⟩
    · rw [HE.out.1, HE.out.2, if_neg hlt, decide_eq_false hlt, show (((0 : Nat)) : Int) = 0 from rfl]
      clear HE
      go_enter Try.func78, Try.ntmps78
      go_wp2_with (first
        | (go_at_call 53; (with_reducible refine (HV.out _ _ hs).mono ?_); rintro e w' ⟨rfl, h2⟩; have hc1 := h2.var (b := w.heap.size) (x := .slice (some ⟨b, off, none⟩) c.length cap) (t := 42) (by simp))
        | (go_at_call 83; (with_reducible refine (HS.out _ h2).mono ?_); rintro e w3 ⟨rfl, h3⟩))
      go_ret2
      exact ⟨rfl, h3⟩
end Go.Proofs.Ytcmplgiilcfncaa
