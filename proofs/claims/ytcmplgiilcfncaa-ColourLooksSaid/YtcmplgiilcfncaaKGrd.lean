/-
  Grids that a law builds: append to a list in a struct.
-/
import Derived.Test.YtcmplgiilcfncaaKLaw
import Derived.Test.YtcmplgiilcfncaaKIplM
namespace Go.Proofs.Ytcmplgiilcfncaa.K
open Go.RowKit
variable {W w w' : World} {L : List (Nat × Obj)}

theorem rest_any (a b : Int) (w : World) (h0 : 1 ≤ b) (h1 : b ≤ 1000) : Calls Try.prog 5 #[.int .i64 a, .int .i64 b] w fun e w' => e = .returned (.int .i64 ((wrap64 (a.tmod b + b)).tmod b)) ∧ w = w' := by
  go_enter Try.func5, Try.ntmps5
  go_wp2
  go_ret
  exact ⟨rfl, rfl⟩
theorem rest_mod (a b : Int) (h0 : 1 ≤ b) (h1 : b ≤ 1000) : (wrap64 (a.tmod b + b)).tmod b = a % b := by
  have e1 : a.tmod b < b := Int.tmod_lt_of_pos a (by omega)
  have e2 : -b < a.tmod b := by have := Int.lt_tmod_of_pos a (show (0:Int) < b by omega); omega
  rw [IntWalk.wrap64_in _ ⟨by omega, by omega⟩, Int.tmod_eq_emod_of_nonneg (by omega), Int.add_emod_right]
  have h2 := Int.tmod_add_tdiv_mul a b
  have : a % b = (a.tmod b + a.tdiv b * b) % b := by rw [h2]
  rw [this, Int.add_mul_emod_self_right]
theorem rest_is (a b : Int) (w : World) (h0 : 1 ≤ b) (h1 : b ≤ 1000) (r : Nat) (hr : a % b = r) : Calls Try.prog 5 #[.int .i64 a, .int .i64 b] w fun e w' => e = .returned (.int .i64 r) ∧ w = w' := by
  have h := rest_any a b w h0 h1
  rw [rest_mod a b h0 h1, hr] at h; exact h
/-- what was there before the blocks from B on -/
theorem St.past {B : Nat} (h : St W L w) (hb : Below B w w') (hW : W.heap.size ≤ B) (hL : ∀ x ∈ L, x.1 < B) : St W L w' :=
  ⟨h.below.trans (hb.mono hW), fun x hx => by rw [hb.block x.1 (hL x hx)]; exact h.rows x hx⟩
theorem OwnsC.set {B b j : Nat} {v x : Value} {l : List C3} (h : OwnsC B w v l) (hb : b < B) : OwnsC B (w.setCell ⟨b, j, none⟩ x) v l := by
  obtain ⟨hl, h | ⟨g, cap, cur, hv, hg, hh, h⟩⟩ := h
  · exact ⟨hl, Or.inl h⟩
  · exact ⟨hl, Or.inr ⟨g, cap, cur, hv, hg, by rw [Below.heap_setCell _ _ _ _ (by simp; omega)]; exact hh, h⟩⟩
theorem OwnsC.nil (B : Nat) (w : World) : OwnsC B w (.slice none 0 0) [] := ⟨by simp [clv], Or.inl ⟨rfl, rfl⟩⟩
theorem jxk (r : Nat) (h : r < 3) (x y z : Int) (V : World) : (Instr.index 24 (ag x y z) (.int .i64 r)).run Try.prog V = .ok (.int .i64 (f3 x y z r)) V := by
  rcases (by omega : r = 0 ∨ r = 1 ∨ r = 2) with rfl | rfl | rfl <;> kernel_rfl
theorem St.putg {b : Nat} {x y v : Value} {t : TypeId} (h : St W ((b, .cells #[x, y] t) :: L) w) (hb : W.heap.size ≤ b) (hL : ∀ x ∈ L, x.1 ≠ b) : St W ((b, .cells #[x, v] t) :: L) (w.setCell ⟨b, 1, none⟩ v) := by
  have := h.put (j := 1) (v := v) hb hL
  simpa only [List.setIfInBounds_toArray, List.set_cons_zero, List.set_cons_succ] using this
theorem gm_mod (n : Int) : Gm ((n % 65536).toNat : Int) := by unfold Gm; omega
theorem ing_snoc {l : List C3} {c : C3} (h : ∀ j, j < l.length → InG (c3n l j)) (hc : InG c) : ∀ j, j < (l ++ [c]).length → InG (c3n (l ++ [c]) j) := by
  intro j hj
  by_cases hlt : j < l.length
  · have : c3n (l ++ [c]) j = c3n l j := by simp [c3n, List.getD, List.getElem?_append_left hlt]
    rw [this]; exact h j hlt
  · have e : j = l.length := by simp at hj; omega
    subst e
    have : c3n (l ++ [c]) l.length = c := by simp [c3n, List.getD]
    rw [this]; exact hc
theorem and_gm (n : Int) : ∃ x : Int, bits .and .i64 n 65535 = x ∧ Gm x := by
  obtain ⟨m, h, hm⟩ := and16 n
  exact ⟨m, h, by unfold Gm; omega⟩
theorem cls_past {B b j : Nat} {po : Option Addr} {n cap : Nat} {x : Value} {l : List C3} (h : Cls w (.slice po n cap) l) (hf : Fr B po) (hb : b < B) : Cls (w.setCell ⟨b, j, none⟩ x) (.slice po n cap) l := by
  obtain ⟨qo, cap', e, h1, h2, h3⟩ := h
  injection e with e1 e2 e3
  subst e1 e2 e3
  refine ⟨po, cap, rfl, h1, h2, fun hp => ?_⟩
  obtain ⟨g, off, rfl, hr⟩ := h3 hp
  have hne : g ≠ b := by have := hf g off rfl; omega
  refine ⟨g, off, rfl, by unfold World.setCell; simpa using hr.lt, fun i hi => ?_⟩
  obtain ⟨k0, k1, k2⟩ := hr.at' i hi
  exact ⟨by rw [cell_other hne]; exact k0, by rw [cell_other hne]; exact k1, by rw [cell_other hne]; exact k2⟩
end Go.Proofs.Ytcmplgiilcfncaa.K
