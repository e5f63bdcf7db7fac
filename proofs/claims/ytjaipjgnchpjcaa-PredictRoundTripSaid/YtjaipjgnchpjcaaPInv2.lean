/-
  Inverse (contract).
-/
import Derived.Test.YtjaipjgnchpjcaaPInv
namespace Go.Proofs.Ytjaipjgnchpjcaa.P
open Go.RowKit T Go.Shelf
set_option maxRecDepth 100000
variable {W w w' : World} {L : List (Nat × Obj)}

theorem res2 {fn : Func} (h : fn.results = #[.cell 4 25, .tmp 5]) (tmps : Array Value) (w : World) {b : Nat} {f : Nat → Px} {v : Value}
    (p1 : tmps.getD 4 undef = ptrB b) (p2 : tmps.getD 5 undef = v) (h1 : w.heap[b]? = some (tob f)) : (results fn tmps).run Try.prog w = .ok (.tuple #[tv f, v]) w := by
  have q1 : tmps[4]?.getD undef = ptrB b := by simpa using p1
  have q2 : tmps[5]?.getD undef = v := by simpa using p2
  have l : (loadVar 25 ⟨b, 0, none⟩).run Try.prog w = .ok (tv f) w := run_loadVar_row w b 25 25 (tc f) (0, 0) _ h1 Try.underlying25 rfl (by rw [info_tile, tc_size])
  simp [results, h, q1, q2, asAddr, l]
set_option maxHeartbeats 4000000 in
theorem inv_any (k : Nat) (s : ByteArray) (w : World) (hk : k < 6) (hs : s.size = 256) : Calls Try.prog 13 #[.string s, .int .i64 k] w fun e w' => e = .returned (.tuple #[tv (ivt k s.data.toList), .int .i64 0]) ∧ Below w.heap.size w w' := by
  have HI : Hid (∀ V, Calls Try.prog 22 #[.int .i64 k] V fun e w' => e = .returned (.bool true) ∧ V = w') := fun V => isP_yes k V hk
  have h0 := ((St.start w).alloc (stO s)).alloc (tob z0)
  simp only [World.size_alloc] at h0
  obtain ⟨b0, hb0⟩ : ∃ b0, b0 = w.heap.size := ⟨_, rfl⟩
  obtain ⟨w0, hw0⟩ : ∃ w0, w0 = (w.alloc (stO s)).alloc (tob z0) := ⟨_, rfl⟩
  rw [← hb0, ← hw0] at h0
  have HW0 := Lib.hid hw0
  have HB0 := Lib.hid hb0
  clear hw0 hb0
  have hix := index_rv k hk
  have hzt := zero_tile
  go_enter Try.func13, Try.ntmps13
  go_upto_region 1 with fail
  have e1 : (w.alloc (stO s)).alloc (tob z0) = w0 := HW0.out.symm
  rw [e1, ← HB0.out]
  clear e1 hzt
  have hc : w0.cell? ⟨b0, 0, none⟩ = some (.string s) := cell_of_row w0 _ 0 #[.string s] _ (0, 0) (h0.row (b := b0) (o := stO s) (by simp))
  go_upto_region 5 with (go_at_call 22; refine (HI.out _).mono ?_; rintro e w1 ⟨rfl, rfl⟩)
  go_upto_region 6 with (go_at_call 23; (with_reducible refine (St.call h0 (rules_any _)).mono ?_); rintro e w1 ⟨rfl, h1⟩)
  have h2 := h1.alloc (ruO k)
  have hlt : b0 + 1 < w1.heap.size := h1.lt (b := b0 + 1) (o := tob z0) (by simp)
  generalize w1.heap.size = d at h2 hlt ⊢
  have e1 : (.cells #[.func (.func (rf k)) #[] #[]] 55 : Obj) = ruO k := rfl
  rw [e1]
  clear e1
  generalize w1.alloc (ruO k) = w2 at h2 ⊢
  have HX : Hid (∀ n, n < 4 → ∀ V, St w [(d, ruO k), (b0 + 1, tob z0), (b0, stO s)] V → Calls Try.prog 27 #[.int .i64 ((n : Nat) : Int), ptrB d, ptrB b0] V fun e w' => e = .returned (pv (vs k (rw4 s.data.toList n) 64)) ∧ St w [(d, ruO k), (b0 + 1, tob z0), (b0, stO s)] w') := fun n hn V hV =>
    St.call hV (inv1_any k s n d b0 V hn hs (hV.row (b := d) (o := ruO k) (by simp)) (hV.row (b := b0) (o := stO s) (by simp)))
  have HX0 : Hid (∀ V, St w [(d, ruO k), (b0 + 1, tob z0), (b0, stO s)] V → Calls Try.prog 27 #[.int .i64 0, ptrB d, ptrB b0] V fun e w' => e = .returned (pv (vs k (rw4 s.data.toList 0) 64)) ∧ St w [(d, ruO k), (b0 + 1, tob z0), (b0, stO s)] w') := HX.out 0 (by omega)
  have HX1 : Hid (∀ V, St w [(d, ruO k), (b0 + 1, tob z0), (b0, stO s)] V → Calls Try.prog 27 #[.int .i64 1, ptrB d, ptrB b0] V fun e w' => e = .returned (pv (vs k (rw4 s.data.toList 1) 64)) ∧ St w [(d, ruO k), (b0 + 1, tob z0), (b0, stO s)] w') := HX.out 1 (by omega)
  have HX2 : Hid (∀ V, St w [(d, ruO k), (b0 + 1, tob z0), (b0, stO s)] V → Calls Try.prog 27 #[.int .i64 2, ptrB d, ptrB b0] V fun e w' => e = .returned (pv (vs k (rw4 s.data.toList 2) 64)) ∧ St w [(d, ruO k), (b0 + 1, tob z0), (b0, stO s)] w') := HX.out 2 (by omega)
  have HX3 : Hid (∀ V, St w [(d, ruO k), (b0 + 1, tob z0), (b0, stO s)] V → Calls Try.prog 27 #[.int .i64 3, ptrB d, ptrB b0] V fun e w' => e = .returned (pv (vs k (rw4 s.data.toList 3) 64)) ∧ St w [(d, ruO k), (b0 + 1, tob z0), (b0, stO s)] w') := HX.out 3 (by omega)
  have HU : Hid (∀ V, Calls Try.prog 30 #[pv (vs k (rw4 s.data.toList 0) 64), pv (vs k (rw4 s.data.toList 1) 64), pv (vs k (rw4 s.data.toList 2) 64), pv (vs k (rw4 s.data.toList 3) 64)] V fun e w' => e = .returned (tv (ivt k s.data.toList)) ∧ Below V.heap.size V w') := fun V =>
    unite_any _ _ _ _ V (vs_ch64 k _) (vs_ch64 k _) (vs_ch64 k _)
  clear HX HI h0 h1 hix hc HW0
  go_wp2_with (first
    | (go_at_call 27; (with_reducible refine (HX0.out _ h2).mono ?_); rintro e w4 ⟨rfl, h4⟩)
    | (go_at_call 27; (with_reducible refine (HX1.out _ h4).mono ?_); rintro e w5 ⟨rfl, h5⟩)
    | (go_at_call 27; (with_reducible refine (HX2.out _ h5).mono ?_); rintro e w6 ⟨rfl, h6⟩)
    | (go_at_call 27; (with_reducible refine (HX3.out _ h6).mono ?_); rintro e w7 ⟨rfl, h7⟩)
    | (go_at_call 30; (with_reducible refine (St.call h7 (HU.out _)).mono ?_); rintro e w8 ⟨rfl, h8⟩; have hst := store_tile (b0 + 1) z0 (ivt k s.data.toList) w8 (h8.row (b := b0 + 1) (o := tob z0) (by simp)); have h9 := St.rowset (ds := tc (ivt k s.data.toList)) (h8.sub (L' := [(b0 + 1, tob z0), (b0, stO s)]) (by simp)) (by have := HB0.out; omega) (by first | (simp; done) | (simp; omega)); have HST := Lib.hid hst; have H9 := Lib.hid h9; clear hst h9)
    | (refine wpList_store_of rfl 25 (.tmp 4) (.tmp 28) rfl HST.out ?_))
  exact bodyPost_ret (v := .tuple #[tv (ivt k s.data.toList), .int .i64 0]) (res2 rfl _ _ rfl rfl (H9.out.row (b := b0 + 1) (o := tob (ivt k s.data.toList)) (by simp))) rfl ⟨rfl, H9.out.below⟩
end Go.Proofs.Ytjaipjgnchpjcaa.P
