/-
  Fade, of pixel and of the reference (contracts).
-/
import Derived.Test.YtkomknhloimhcaaMath
namespace Go.Proofs.Ytkomknhloimhcaa
open Go.RowKit

set_option maxHeartbeats 4000000 in
theorem fade_any (r g b a c : Int) (w : World) (ha : Ch a) : Calls Try.prog 35 #[pv r g b a, .int .i64 c] w fun e w' => e = .returned (fad ⟨r, g, b, a⟩ c).v ∧ Below w.heap.size w w' := by
  have h1 := w64 ha
  have h2 := w8 (mul_ch a c)
  go_enter Try.func35, Try.ntmps35
  go_upto_region 1 with fail
  have hs := ((St.start w).alloc (po r g b a)).alloc (po 0 0 0 0)
  rw [World.size_alloc] at hs
  generalize (w.alloc (po r g b a)).alloc (po 0 0 0 0) = w1 at hs ⊢
  obtain ⟨p0, p1, p2, p3⟩ := hs.pix (b := w.heap.size) (x0 := r) (x1 := g) (x2 := b) (x3 := a) (by simp)
  have f0 := fun j => hs.frozen (b := w.heap.size) (cs := #[.int .u8 r, .int .u8 g, .int .u8 b, .int .u8 a]) (t := 23) (by simp) j
  have HF : Hid (∀ V, St w [(w.heap.size + 1, po 0 0 0 0), (w.heap.size, po r g b a)] V → RB V w.heap.size r g b a ∧ ∀ j, V.frozen? ⟨w.heap.size, j, none⟩ = false) := fun V h => ⟨h.pix (by simp), fun j => h.frozen (cs := #[.int .u8 r, .int .u8 g, .int .u8 b, .int .u8 a]) (t := 23) (by simp) j⟩
  go_upto_region 2 with (go_at_call 59; (refine (St.call hs (mul_any a c _)).mono ?_); rintro e w2 ⟨rfl, h2⟩; obtain ⟨⟨q0, q1, q2, q3⟩, f1⟩ := HF.out _ h2)
  have h3 := St.put (L := [(w.heap.size + 1, po 0 0 0 0)]) (j := 3) (v := .int .u8 (mul a c)) (h2.sub (L' := [(w.heap.size, po r g b a), (w.heap.size + 1, po 0 0 0 0)]) (by simp)) (by omega) (by simp)
  simp only [List.setIfInBounds_toArray, List.set_cons_zero, List.set_cons_succ] at h3
  clear hs p0 p1 p2 p3 f0 f1
  have HG : Hid (∀ V, St w [(w.heap.size, po r g b (mul a c)), (w.heap.size + 1, po 0 0 0 0)] V → RB V (w.heap.size + 1) 0 0 0 0 ∧ ∀ j, V.frozen? ⟨w.heap.size + 1, j, none⟩ = false) := fun V h => ⟨h.pix (by simp), fun j => h.frozen (cs := #[.int .u8 0, .int .u8 0, .int .u8 0, .int .u8 0]) (t := 23) (by simp) j⟩
  obtain ⟨p0, p1, p2, p3⟩ := h3.pix (b := w.heap.size) (x0 := r) (x1 := g) (x2 := b) (x3 := mul a c) (by simp)
  generalize w2.setCell ⟨w.heap.size, 3, none⟩ (.int .u8 (mul a c)) = w3 at h3 p0 p1 p2 p3 ⊢
  clear h2 q0 q1 q2 q3
  go_wp2_with (go_at_call 40; (with_reducible refine (St.call h3 (clean_any _ _ _ _ _)).mono ?_); rintro e w4 ⟨rfl, h4⟩; obtain ⟨⟨z0, z1, z2, z3⟩, f1⟩ := HG.out _ h4)
  exact bodyPost_ret (v := (fad ⟨r, g, b, a⟩ c).v) (by simp [results, Try.results35, go_sem, fad, *]) rfl ⟨rfl, below_set4 h4.below (by omega) _ _ _ _⟩
set_option maxHeartbeats 4000000 in
theorem refFade_any (r g b a c : Int) (w : World) (ha : Ch a) : Calls Try.prog 49 #[pv r g b a, .int .i64 c] w fun e w' => e = .returned (fad ⟨r, g, b, a⟩ c).v ∧ Below w.heap.size w w' := by
  have h1 := w64 ha
  have h2 := w8 (mul_ch a c)
  go_enter Try.func49, Try.ntmps49
  go_upto_region 1 with fail
  have hs := ((St.start w).alloc (po r g b a)).alloc (po 0 0 0 0)
  rw [World.size_alloc] at hs
  generalize (w.alloc (po r g b a)).alloc (po 0 0 0 0) = w1 at hs ⊢
  obtain ⟨p0, p1, p2, p3⟩ := hs.pix (b := w.heap.size) (x0 := r) (x1 := g) (x2 := b) (x3 := a) (by simp)
  have f0 := fun j => hs.frozen (b := w.heap.size) (cs := #[.int .u8 r, .int .u8 g, .int .u8 b, .int .u8 a]) (t := 23) (by simp) j
  have HF : Hid (∀ V, St w [(w.heap.size + 1, po 0 0 0 0), (w.heap.size, po r g b a)] V → RB V w.heap.size r g b a ∧ ∀ j, V.frozen? ⟨w.heap.size, j, none⟩ = false) := fun V h => ⟨h.pix (by simp), fun j => h.frozen (cs := #[.int .u8 r, .int .u8 g, .int .u8 b, .int .u8 a]) (t := 23) (by simp) j⟩
  go_upto_region 2 with (go_at_call 65; (refine (refMul_any a c _).mono ?_); rintro e w2 ⟨rfl, rfl⟩)
  have h2 := hs
  have h3 := St.put (L := [(w.heap.size + 1, po 0 0 0 0)]) (j := 3) (v := .int .u8 (mul a c)) (h2.sub (L' := [(w.heap.size, po r g b a), (w.heap.size + 1, po 0 0 0 0)]) (by simp)) (by omega) (by simp)
  simp only [List.setIfInBounds_toArray, List.set_cons_zero, List.set_cons_succ] at h3
  clear hs p0 p1 p2 p3 f0
  have HG : Hid (∀ V, St w [(w.heap.size, po r g b (mul a c)), (w.heap.size + 1, po 0 0 0 0)] V → RB V (w.heap.size + 1) 0 0 0 0 ∧ ∀ j, V.frozen? ⟨w.heap.size + 1, j, none⟩ = false) := fun V h => ⟨h.pix (by simp), fun j => h.frozen (cs := #[.int .u8 0, .int .u8 0, .int .u8 0, .int .u8 0]) (t := 23) (by simp) j⟩
  obtain ⟨p0, p1, p2, p3⟩ := h3.pix (b := w.heap.size) (x0 := r) (x1 := g) (x2 := b) (x3 := mul a c) (by simp)
  generalize w1.setCell ⟨w.heap.size, 3, none⟩ (.int .u8 (mul a c)) = w3 at h3 p0 p1 p2 p3 ⊢
  clear h2
  go_wp2_with (go_at_call 41; (with_reducible refine (St.call h3 (refClean_any _ _ _ _ _)).mono ?_); rintro e w4 ⟨rfl, h4⟩; obtain ⟨⟨z0, z1, z2, z3⟩, f1⟩ := HG.out _ h4)
  exact bodyPost_ret (v := (fad ⟨r, g, b, a⟩ c).v) (by simp [results, Try.results49, go_sem, fad, *]) rfl ⟨rfl, below_set4 h4.below (by omega) _ _ _ _⟩
end Go.Proofs.Ytkomknhloimhcaa
