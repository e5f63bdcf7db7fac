/-
  What Scale and Shrink of rect and of the reference return.
-/
import Derived.Test.YtjadccelplnpnaaMoves
namespace Go.Proofs.Ytjadccelplnpnaa
open Go.RowKit

set_option maxHeartbeats 1000000 in
theorem scale_any (a0 a1 a2 a3 z : Int) (w : World) : Calls Try.prog 16 #[rv a0 a1 a2 a3, .int .i64 z] w fun e w' => e = .returned (scl a0 a1 a2 a3 z).v ∧ Below w.heap.size w w' := by
  cases he : emp a0 a1 a2 a3
  case true =>
    go_enter Try.func16, Try.ntmps16
    go_wp2_with (first | (go_at_call 35; (with_reducible refine (Below.call (w0 := w) ?_ (empty_any _ _ _ _ _)).mono ?_); (first | (focus assumption) | (focus with_reducible exact below1) | (focus with_reducible exact below2)); rintro e w' ⟨rfl, hb, hb'⟩; obtain ⟨hc, hf⟩ := bcell hb'; have hz0 : w.heap.size < w'.heap.size := (by have := hb'.size; (try simp at this); omega); have hz1 : w.heap.size + 1 < w'.heap.size := (by have := hb'.size; (try simp at this); omega)) | (go_at_call 55; (with_reducible refine (zok_any _ _).mono ?_); rintro e w' ⟨rfl, rfl⟩))
    all_goals exact bodyPost_ret (v := (scl a0 a1 a2 a3 z).v) (by simp [results, Try.results16, go_sem, scl, *]) rfl ⟨rfl, by first | with_reducible assumption | with_reducible exact below2 | exact below_set4 (by assumption) (by omega) _ _ _ _⟩
  cases hz : zok z
  case false =>
    go_enter Try.func16, Try.ntmps16
    go_wp2_with (first | (go_at_call 35; (with_reducible refine (Below.call (w0 := w) ?_ (empty_any _ _ _ _ _)).mono ?_); (first | (focus assumption) | (focus with_reducible exact below1) | (focus with_reducible exact below2)); rintro e w' ⟨rfl, hb, hb'⟩; obtain ⟨hc, hf⟩ := bcell hb'; have hz0 : w.heap.size < w'.heap.size := (by have := hb'.size; (try simp at this); omega); have hz1 : w.heap.size + 1 < w'.heap.size := (by have := hb'.size; (try simp at this); omega)) | (go_at_call 55; (with_reducible refine (zok_any _ _).mono ?_); rintro e w' ⟨rfl, rfl⟩))
    all_goals first | (exfalso; simp [zok] at hz; omega) | exact bodyPost_ret (v := (scl a0 a1 a2 a3 z).v) (by simp [results, Try.results16, go_sem, scl, *]) rfl ⟨rfl, by first | with_reducible assumption | with_reducible exact below2 | exact below_set4 (by assumption) (by omega) _ _ _ _⟩
  have ⟨hz1, hz2⟩ := zok_bd hz
  go_enter Try.func16, Try.ntmps16
  go_wp2_with (first
      | (go_at_call 35; (with_reducible refine (Below.call (w0 := w) ?_ (empty_any _ _ _ _ _)).mono ?_); (first | (focus assumption) | (focus with_reducible exact below1) | (focus with_reducible exact below2)); rintro e w' ⟨rfl, hb, hb'⟩; obtain ⟨hc, hf⟩ := bcell hb'; have hz0 : w.heap.size < w'.heap.size := (by have := hb'.size; (try simp at this); omega); have hz1 : w.heap.size + 1 < w'.heap.size := (by have := hb'.size; (try simp at this); omega))
      | (go_at_call 55; (with_reducible refine (zok_any _ _).mono ?_); rintro e w' ⟨rfl, rfl⟩)
      | (go_at_call 57; (with_reducible refine (Below.call (w0 := w) ?_ (moveScale _ _ _ _ (wrap64 (2 ^ z.toNat)) _ _ ?_ ?_)).mono ?_); (focus (refine Below.alloc ?_ ?_ _; assumption; omega)); (focus simp); (focus simp [go_sem]); rintro e w' ⟨rfl, hb, hb'⟩; obtain ⟨hc, hf⟩ := bcell hb'; have hz0 : w.heap.size < w'.heap.size := (by have := hb'.size; (try simp at this); omega); have hz1 : w.heap.size + 1 < w'.heap.size := (by have := hb'.size; (try simp at this); omega)))
  exact bodyPost_ret (v := (scl a0 a1 a2 a3 z).v) (by simp [results, Try.results16, go_sem, scl, pw, *]) rfl ⟨rfl, below_set4 (by assumption) (by omega) _ _ _ _⟩

set_option maxHeartbeats 1000000 in
theorem shrink_any (a0 a1 a2 a3 z : Int) (w : World) : Calls Try.prog 18 #[rv a0 a1 a2 a3, .int .i64 z] w fun e w' => e = .returned (shk a0 a1 a2 a3 z).v ∧ Below w.heap.size w w' := by
  cases he : emp a0 a1 a2 a3
  case true =>
    go_enter Try.func18, Try.ntmps18
    go_wp2_with (first | (go_at_call 35; (with_reducible refine (Below.call (w0 := w) ?_ (empty_any _ _ _ _ _)).mono ?_); (first | (focus assumption) | (focus with_reducible exact below1) | (focus with_reducible exact below2)); rintro e w' ⟨rfl, hb, hb'⟩; obtain ⟨hc, hf⟩ := bcell hb'; have hz0 : w.heap.size < w'.heap.size := (by have := hb'.size; (try simp at this); omega); have hz1 : w.heap.size + 1 < w'.heap.size := (by have := hb'.size; (try simp at this); omega)) | (go_at_call 55; (with_reducible refine (zok_any _ _).mono ?_); rintro e w' ⟨rfl, rfl⟩))
    all_goals exact bodyPost_ret (v := (shk a0 a1 a2 a3 z).v) (by simp [results, Try.results18, go_sem, shk, *]) rfl ⟨rfl, by first | with_reducible assumption | with_reducible exact below2 | exact below_set4 (by assumption) (by omega) _ _ _ _⟩
  cases hz : zok z
  case false =>
    go_enter Try.func18, Try.ntmps18
    go_wp2_with (first | (go_at_call 35; (with_reducible refine (Below.call (w0 := w) ?_ (empty_any _ _ _ _ _)).mono ?_); (first | (focus assumption) | (focus with_reducible exact below1) | (focus with_reducible exact below2)); rintro e w' ⟨rfl, hb, hb'⟩; obtain ⟨hc, hf⟩ := bcell hb'; have hz0 : w.heap.size < w'.heap.size := (by have := hb'.size; (try simp at this); omega); have hz1 : w.heap.size + 1 < w'.heap.size := (by have := hb'.size; (try simp at this); omega)) | (go_at_call 55; (with_reducible refine (zok_any _ _).mono ?_); rintro e w' ⟨rfl, rfl⟩))
    all_goals first | (exfalso; simp [zok] at hz; omega) | exact bodyPost_ret (v := (shk a0 a1 a2 a3 z).v) (by simp [results, Try.results18, go_sem, shk, *]) rfl ⟨rfl, by first | with_reducible assumption | with_reducible exact below2 | exact below_set4 (by assumption) (by omega) _ _ _ _⟩
  have ⟨hz1, hz2⟩ := zok_bd hz
  go_enter Try.func18, Try.ntmps18
  go_wp2_with (first
      | (go_at_call 35; (with_reducible refine (Below.call (w0 := w) ?_ (empty_any _ _ _ _ _)).mono ?_); (first | (focus assumption) | (focus with_reducible exact below1) | (focus with_reducible exact below2)); rintro e w' ⟨rfl, hb, hb'⟩; obtain ⟨hc, hf⟩ := bcell hb'; have hz0 : w.heap.size < w'.heap.size := (by have := hb'.size; (try simp at this); omega); have hz1 : w.heap.size + 1 < w'.heap.size := (by have := hb'.size; (try simp at this); omega))
      | (go_at_call 55; (with_reducible refine (zok_any _ _).mono ?_); rintro e w' ⟨rfl, rfl⟩)
      | (go_at_call 57; (with_reducible refine (Below.call (w0 := w) ?_ (moveShrink _ _ _ _ (wrap64 (2 ^ z.toNat)) _ _ ?_ ?_)).mono ?_); (focus (refine Below.alloc ?_ ?_ _; assumption; omega)); (focus simp); (focus simp [go_sem]); rintro e w' ⟨rfl, hb, hb'⟩; obtain ⟨hc, hf⟩ := bcell hb'; have hz0 : w.heap.size < w'.heap.size := (by have := hb'.size; (try simp at this); omega); have hz1 : w.heap.size + 1 < w'.heap.size := (by have := hb'.size; (try simp at this); omega)))
  exact bodyPost_ret (v := (shk a0 a1 a2 a3 z).v) (by simp [results, Try.results18, go_sem, shk, pw, *]) rfl ⟨rfl, below_set4 (by assumption) (by omega) _ _ _ _⟩

set_option maxHeartbeats 1000000 in
theorem refScale_any (a0 a1 a2 a3 z : Int) (w : World) : Calls Try.prog 17 #[rv a0 a1 a2 a3, .int .i64 z] w fun e w' => e = .returned (scl a0 a1 a2 a3 z).v ∧ Below w.heap.size w w' := by
  cases he : emp a0 a1 a2 a3
  case true =>
    go_enter Try.func17, Try.ntmps17
    go_wp2_with (first | (go_at_call 44; (with_reducible refine (Below.call (w0 := w) ?_ (refEmpty_any _ _ _ _ _)).mono ?_); (first | (focus assumption) | (focus with_reducible exact below1) | (focus with_reducible exact below2)); rintro e w' ⟨rfl, hb, hb'⟩; obtain ⟨hc, hf⟩ := bcell hb'; have hz0 : w.heap.size < w'.heap.size := (by have := hb'.size; (try simp at this); omega); have hz1 : w.heap.size + 1 < w'.heap.size := (by have := hb'.size; (try simp at this); omega)) | (go_at_call 55; (with_reducible refine (zok_any _ _).mono ?_); rintro e w' ⟨rfl, rfl⟩))
    all_goals exact bodyPost_ret (v := (scl a0 a1 a2 a3 z).v) (by simp [results, Try.results17, go_sem, scl, *]) rfl ⟨rfl, by first | with_reducible assumption | with_reducible exact below2 | exact below_set4 (by assumption) (by omega) _ _ _ _⟩
  cases hz : zok z
  case false =>
    go_enter Try.func17, Try.ntmps17
    go_wp2_with (first | (go_at_call 44; (with_reducible refine (Below.call (w0 := w) ?_ (refEmpty_any _ _ _ _ _)).mono ?_); (first | (focus assumption) | (focus with_reducible exact below1) | (focus with_reducible exact below2)); rintro e w' ⟨rfl, hb, hb'⟩; obtain ⟨hc, hf⟩ := bcell hb'; have hz0 : w.heap.size < w'.heap.size := (by have := hb'.size; (try simp at this); omega); have hz1 : w.heap.size + 1 < w'.heap.size := (by have := hb'.size; (try simp at this); omega)) | (go_at_call 55; (with_reducible refine (zok_any _ _).mono ?_); rintro e w' ⟨rfl, rfl⟩))
    all_goals first | (exfalso; simp [zok] at hz; omega) | exact bodyPost_ret (v := (scl a0 a1 a2 a3 z).v) (by simp [results, Try.results17, go_sem, scl, *]) rfl ⟨rfl, by first | with_reducible assumption | with_reducible exact below2 | exact below_set4 (by assumption) (by omega) _ _ _ _⟩
  have ⟨hz1, hz2⟩ := zok_bd hz
  go_enter Try.func17, Try.ntmps17
  go_wp2_with (first | (go_at_call 44; (with_reducible refine (Below.call (w0 := w) ?_ (refEmpty_any _ _ _ _ _)).mono ?_); (first | (focus assumption) | (focus with_reducible exact below1) | (focus with_reducible exact below2)); rintro e w' ⟨rfl, hb, hb'⟩; obtain ⟨hc, hf⟩ := bcell hb'; have hz0 : w.heap.size < w'.heap.size := (by have := hb'.size; (try simp at this); omega); have hz1 : w.heap.size + 1 < w'.heap.size := (by have := hb'.size; (try simp at this); omega)))
  exact bodyPost_ret (v := (scl a0 a1 a2 a3 z).v) (by simp [results, Try.results17, go_sem, scl, pw, *]) rfl ⟨rfl, below_set4 (by assumption) (by omega) _ _ _ _⟩

set_option maxHeartbeats 1000000 in
theorem refShrink_any (a0 a1 a2 a3 z : Int) (w : World) : Calls Try.prog 19 #[rv a0 a1 a2 a3, .int .i64 z] w fun e w' => e = .returned (shk a0 a1 a2 a3 z).v ∧ Below w.heap.size w w' := by
  cases he : emp a0 a1 a2 a3
  case true =>
    go_enter Try.func19, Try.ntmps19
    go_wp2_with (first | (go_at_call 44; (with_reducible refine (Below.call (w0 := w) ?_ (refEmpty_any _ _ _ _ _)).mono ?_); (first | (focus assumption) | (focus with_reducible exact below1) | (focus with_reducible exact below2)); rintro e w' ⟨rfl, hb, hb'⟩; obtain ⟨hc, hf⟩ := bcell hb'; have hz0 : w.heap.size < w'.heap.size := (by have := hb'.size; (try simp at this); omega); have hz1 : w.heap.size + 1 < w'.heap.size := (by have := hb'.size; (try simp at this); omega)) | (go_at_call 55; (with_reducible refine (zok_any _ _).mono ?_); rintro e w' ⟨rfl, rfl⟩))
    all_goals exact bodyPost_ret (v := (shk a0 a1 a2 a3 z).v) (by simp [results, Try.results19, go_sem, shk, *]) rfl ⟨rfl, by first | with_reducible assumption | with_reducible exact below2 | exact below_set4 (by assumption) (by omega) _ _ _ _⟩
  cases hz : zok z
  case false =>
    go_enter Try.func19, Try.ntmps19
    go_wp2_with (first | (go_at_call 44; (with_reducible refine (Below.call (w0 := w) ?_ (refEmpty_any _ _ _ _ _)).mono ?_); (first | (focus assumption) | (focus with_reducible exact below1) | (focus with_reducible exact below2)); rintro e w' ⟨rfl, hb, hb'⟩; obtain ⟨hc, hf⟩ := bcell hb'; have hz0 : w.heap.size < w'.heap.size := (by have := hb'.size; (try simp at this); omega); have hz1 : w.heap.size + 1 < w'.heap.size := (by have := hb'.size; (try simp at this); omega)) | (go_at_call 55; (with_reducible refine (zok_any _ _).mono ?_); rintro e w' ⟨rfl, rfl⟩))
    all_goals first | (exfalso; simp [zok] at hz; omega) | exact bodyPost_ret (v := (shk a0 a1 a2 a3 z).v) (by simp [results, Try.results19, go_sem, shk, *]) rfl ⟨rfl, by first | with_reducible assumption | with_reducible exact below2 | exact below_set4 (by assumption) (by omega) _ _ _ _⟩
  have ⟨hz1, hz2⟩ := zok_bd hz
  go_enter Try.func19, Try.ntmps19
  go_upto_region 5 with (first | (go_at_call 44; (with_reducible refine (Below.call (w0 := w) ?_ (refEmpty_any _ _ _ _ _)).mono ?_); (first | (focus assumption) | (focus with_reducible exact below1) | (focus with_reducible exact below2)); rintro e w' ⟨rfl, hb, hb'⟩; obtain ⟨hc, hf⟩ := bcell hb'; have hz0 : w.heap.size < w'.heap.size := (by have := hb'.size; (try simp at this); omega); have hz1 : w.heap.size + 1 < w'.heap.size := (by have := hb'.size; (try simp at this); omega)))
  have hs : St w [(w.heap.size + 1, ro 0 0 0 0), (w.heap.size, ro a0 a1 a2 a3)] w' := by
    have h0 := ((St.start w).alloc (ro a0 a1 a2 a3)).alloc (ro 0 0 0 0)
    rw [World.size_alloc] at h0
    exact h0.later (by assumption)
  rename_i hzz
  clear hc hf hb hb' hz0 hz1
  have HC : Hid (∀ V, St w [(w.heap.size + 1, ro 0 0 0 0), (w.heap.size, ro a0 a1 a2 a3)] V → RB V w.heap.size a0 a1 a2 a3 ∧ RB V (w.heap.size + 1) 0 0 0 0 ∧ ∀ j, V.frozen? ⟨w.heap.size + 1, j, none⟩ = false) := fun V hV =>
    ⟨hV.rect (by simp), hV.rect (by simp), hV.frozen (b := w.heap.size + 1) (cs := #[.int .i64 0, .int .i64 0, .int .i64 0, .int .i64 0]) (t := 23) (by simp)⟩
  have hd := hs.drew
  refine wp_region_still_tail 17 (by kernel_rfl) (by kernel_rfl) ?_
  rw [drew_eq w']
  generalize w'.drew = w2 at hd ⊢
  simp only [List.take_succ_cons, List.take_zero, List.drop_succ_cons, List.drop_zero]
  obtain ⟨hr1, hr2, hf1⟩ := HC.out _ hd
  iterate 3 still_step
  still_call (quiet_sym (refFloor_any _ _ _))
  iterate 3 still_step
  still_call (quiet_sym (refFloor_any _ _ _))
  iterate 3 still_step
  still_call (quiet_sym (refCeil_any _ _ _))
  iterate 3 still_step
  still_call (quiet_sym (refCeil_any _ _ _))
  still_step
  refine wpStill_nil ?_
  go_wp2
  exact bodyPost_ret (v := (shk a0 a1 a2 a3 z).v) (by simp [results, Try.results19, go_sem, shk, pw, *]) rfl ⟨rfl, below_set4 hd.below (by omega) _ _ _ _⟩
end Go.Proofs.Ytjadccelplnpnaa
