/-
  What the functions of rect and of the reference that return a rectangle return.
-/
import Derived.Test.YtbodmeiecdomfaaGreatEPure
import Derived.Laws.BitsAllLaws
namespace Go.Proofs.YtbodmeiecdomfaaGreat.R
open Go.RowKit
def mx (a b : Int) : Int := if b > a then b else a
def mn (a b : Int) : Int := if b < a then b else a
theorem mx_eq (a b : Int) : mx a b = max a b := by unfold mx; split <;> omega
theorem mn_eq (a b : Int) : mn a b = min a b := by unfold mn; split <;> omega
theorem run_mx (ts : Array TypeId) (t : TypeId) (x y : Int) (w : World) : (Builtin.max_ ts t #[.int .i64 x, .int .i64 y]).run Tryz.prog w = .ok (.int .i64 (mx x y)) w := by unfold mx; simp only [run_max_int2]
theorem run_mn (ts : Array TypeId) (t : TypeId) (x y : Int) (w : World) : (Builtin.min_ ts t #[.int .i64 x, .int .i64 y]).run Tryz.prog w = .ok (.int .i64 (mn x y)) w := by unfold mn; simp only [run_min_int2]

theorem zero_any (a0 a1 a2 a3 : Int) (w : World) : Calls Tryz.prog 75 #[rv a0 a1 a2 a3] w fun e w' => e = .returned ((nrm a0 a1 a2 a3).v) ∧ Below w.heap.size w w' := by
  go_enter Tryz.func75, Tryz.ntmps75
  go_wp2_with (first | (go_at_call 52; (with_reducible refine (Below.call (w0 := w) ?_ (empty_any _ _ _ _ _)).mono ?_); (first | (focus assumption) | (focus with_reducible exact below1) | (focus with_reducible exact below2) | (focus with_reducible exact below3)); rintro e w' ⟨rfl, hb, hb'⟩; obtain ⟨hc, hf⟩ := bcell hb'; have hz0 : w.heap.size < w'.heap.size := (by have := hb'.size; (try simp at this); omega); have hz1 : w.heap.size + 1 < w'.heap.size := (by have := hb'.size; (try simp at this); omega)))
  all_goals exact bodyPost_ret (v := (nrm a0 a1 a2 a3).v) (by simp [results, Tryz.results75, go_sem, nrm, *]) rfl ⟨rfl, by first | with_reducible assumption | with_reducible exact below2 | with_reducible exact below3 | exact below_set4 (by assumption) (by omega) _ _ _ _⟩

def uni (a0 a1 a2 a3 b0 b1 b2 b3 : Int) : Rc := if emp a0 a1 a2 a3 then nrm b0 b1 b2 b3 else if emp b0 b1 b2 b3 then ⟨a0, a1, a2, a3⟩ else ⟨mn a0 b0, mn a1 b1, mx a2 b2, mx a3 b3⟩
def gro (a0 a1 a2 a3 n : Int) : Rc := if emp a0 a1 a2 a3 then ⟨0, 0, 0, 0⟩ else nrm (wrap64 (a0 - n)) (wrap64 (a1 - n)) (wrap64 (a2 + n)) (wrap64 (a3 + n))
def mov (a0 a1 a2 a3 x y : Int) : Rc := if emp a0 a1 a2 a3 then ⟨0, 0, 0, 0⟩ else nrm (wrap64 (a0 + x)) (wrap64 (a1 + y)) (wrap64 (a2 + x)) (wrap64 (a3 + y))

theorem grow_any (a0 a1 a2 a3 n : Int) (w : World) : Calls Tryz.prog 55 #[rv a0 a1 a2 a3, .int .i64 n] w fun e w' => e = .returned ((gro a0 a1 a2 a3 n).v) ∧ Below w.heap.size w w' := by
  go_enter Tryz.func55, Tryz.ntmps55
  go_wp2_with (first | (go_at_call 52; (with_reducible refine (Below.call (w0 := w) ?_ (empty_any _ _ _ _ _)).mono ?_); (first | (focus assumption) | (focus with_reducible exact below1) | (focus with_reducible exact below2) | (focus with_reducible exact below3)); rintro e w' ⟨rfl, hb, hb'⟩; obtain ⟨hc, hf⟩ := bcell hb'; have hz0 : w.heap.size < w'.heap.size := (by have := hb'.size; (try simp at this); omega); have hz1 : w.heap.size + 1 < w'.heap.size := (by have := hb'.size; (try simp at this); omega)) | (go_at_call 75; (with_reducible refine (Below.call (w0 := w) ?_ (zero_any _ _ _ _ _)).mono ?_); (first | (focus assumption) | (focus with_reducible exact below1) | (focus with_reducible exact below2) | (focus with_reducible exact below3)); rintro e w' ⟨rfl, hb, hb'⟩; obtain ⟨hc, hf⟩ := bcell hb'; have hz0 : w.heap.size < w'.heap.size := (by have := hb'.size; (try simp at this); omega); have hz1 : w.heap.size + 1 < w'.heap.size := (by have := hb'.size; (try simp at this); omega)))
  all_goals exact bodyPost_ret (v := (gro a0 a1 a2 a3 n).v) (by simp [results, Tryz.results55, go_sem, gro, *]) rfl ⟨rfl, by first | with_reducible assumption | with_reducible exact below2 | with_reducible exact below3 | exact below_set4 (by assumption) (by omega) _ _ _ _⟩

theorem move_any (a0 a1 a2 a3 x y : Int) (w : World) : Calls Tryz.prog 54 #[rv a0 a1 a2 a3, .int .i64 x, .int .i64 y] w fun e w' => e = .returned ((mov a0 a1 a2 a3 x y).v) ∧ Below w.heap.size w w' := by
  go_enter Tryz.func54, Tryz.ntmps54
  go_wp2_with (first | (go_at_call 52; (with_reducible refine (Below.call (w0 := w) ?_ (empty_any _ _ _ _ _)).mono ?_); (first | (focus assumption) | (focus with_reducible exact below1) | (focus with_reducible exact below2) | (focus with_reducible exact below3)); rintro e w' ⟨rfl, hb, hb'⟩; obtain ⟨hc, hf⟩ := bcell hb'; have hz0 : w.heap.size < w'.heap.size := (by have := hb'.size; (try simp at this); omega); have hz1 : w.heap.size + 1 < w'.heap.size := (by have := hb'.size; (try simp at this); omega)) | (go_at_call 75; (with_reducible refine (Below.call (w0 := w) ?_ (zero_any _ _ _ _ _)).mono ?_); (first | (focus assumption) | (focus with_reducible exact below1) | (focus with_reducible exact below2) | (focus with_reducible exact below3)); rintro e w' ⟨rfl, hb, hb'⟩; obtain ⟨hc, hf⟩ := bcell hb'; have hz0 : w.heap.size < w'.heap.size := (by have := hb'.size; (try simp at this); omega); have hz1 : w.heap.size + 1 < w'.heap.size := (by have := hb'.size; (try simp at this); omega)))
  all_goals exact bodyPost_ret (v := (mov a0 a1 a2 a3 x y).v) (by simp [results, Tryz.results54, go_sem, mov, *]) rfl ⟨rfl, by first | with_reducible assumption | with_reducible exact below2 | with_reducible exact below3 | exact below_set4 (by assumption) (by omega) _ _ _ _⟩

end Go.Proofs.YtbodmeiecdomfaaGreat.R
