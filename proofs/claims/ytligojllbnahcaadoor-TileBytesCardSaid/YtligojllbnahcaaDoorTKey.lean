/-
  Key of a tile, of the program and of the reference (contracts).
-/
import Derived.Test.YtligojllbnahcaaDoorTBytes
import Derived.Test.YtligojllbnahcaaDoorDOf
import Derived.Test.YtligojllbnahcaaDoorDRefOf
namespace Go.Proofs.YtligojllbnahcaaDoor.T
open Go.RowKit Go.Shelf
variable {w : World}

/-- the digest of a tile's bytes -/
def kd (f : Nat → Px) : ByteArray := D.str (D.Sha.sha (bys 64 f))
theorem kd_of (f : Nat → Px) : D.str (D.Sha.sha (str (bys 64 f)).data.toList) = kd f := by unfold kd; simp [str]
theorem bys_size (f : Nat → Px) : (str (bys 64 f)).size = 256 := by
  show (bys 64 f).toArray.size = 256
  rw [List.size_toArray, bys_len]
set_option maxRecDepth 100000 in
theorem key_of (f : Nat → Px) (S : ByteArray) (w : World) (hk : D.KT w) (hz : S.size ≤ 1000000) (hB : ∀ V, Calls Tryd.prog 9 #[tv f] V fun e w' => e = .returned (.string S) ∧ Below V.heap.size V w') :
    Calls Tryd.prog 10 #[tv f] w fun e w' => e = .returned (.string (D.str (D.Sha.sha S.data.toList))) ∧ Below w.heap.size w w' := by
  have hs := (St.start w).alloc (tob f)
  have HLD := Lib.hid (load_tile w.heap.size f (w.alloc (tob f)) (hs.row (by simp)))
  have HK : Hid (D.KT (w.alloc (tob f))) := hk.later ((Below.refl _ w).alloc (Nat.le_refl _) _)
  have HZ := Lib.hid hz
  have HB := Lib.hid hB
  have H1 := Lib.hid hs.below
  clear hs hk hB hz
  have HX : Hid (∀ V, D.KT V → Calls Tryd.prog 12 #[.string S] V fun e w' => e = .returned (.string (D.str (D.Sha.sha S.data.toList))) ∧ Below V.heap.size V w') := fun V hk => D.of_any S V hk HZ.out
  generalize D.str (D.Sha.sha S.data.toList) = R at *
  have hz1 : (w.alloc (tob f)).heap.size = w.heap.size + 1 := by simp
  go_enter Tryd.func10, Tryd.ntmps10
  go_upto_region 1 with fail
  have e1 : w.alloc (Obj.cells (tc f) 25) = w.alloc (tob f) := rfl
  rw [e1]
  clear e1
  generalize w.alloc (tob f) = V1 at *
  go_wp2_with (first
    | (refine wpList_load_of rfl 25 _ rfl _ HLD.out ?_)
    | (go_at_call 9; (refine (HB.out _).mono ?_); rintro e w1 ⟨rfl, hb1⟩; have HB1 := Lib.hid hb1; clear hb1)
    | (go_at_call 12; (refine (HX.out _ (HK.out.later HB1.out)).mono ?_); rintro e w2 ⟨rfl, hb2⟩; have HB2 := Lib.hid hb2; clear hb2))
  go_ret
  exact ⟨rfl, H1.out.trans ((HB1.out.mono (by omega)).trans (HB2.out.mono (by have := HB1.out.size; omega)))⟩
set_option maxRecDepth 100000 in
theorem refKey_of (f : Nat → Px) (S : ByteArray) (w : World) (hz : S.size ≤ 1000000) (hB : ∀ V, Calls Tryd.prog 6 #[tv f] V fun e w' => e = .returned (.string S) ∧ Below V.heap.size V w') :
    Calls Tryd.prog 11 #[tv f] w fun e w' => e = .returned (.string (D.str (D.Sha.sha S.data.toList))) ∧ Below w.heap.size w w' := by
  have hs := (St.start w).alloc (tob f)
  have HLD := Lib.hid (load_tile w.heap.size f (w.alloc (tob f)) (hs.row (by simp)))
  have HZ := Lib.hid hz
  have HB := Lib.hid hB
  have H1 := Lib.hid hs.below
  clear hs hB hz
  have HX : Hid (∀ V, Calls Tryd.prog 22 #[.string S] V fun e w' => e = .returned (.string (D.str (D.Sha.sha S.data.toList))) ∧ Below V.heap.size V w') := fun V => D.refOf_any S V HZ.out
  generalize D.str (D.Sha.sha S.data.toList) = R at *
  have hz1 : (w.alloc (tob f)).heap.size = w.heap.size + 1 := by simp
  go_enter Tryd.func11, Tryd.ntmps11
  go_upto_region 1 with fail
  have e1 : w.alloc (Obj.cells (tc f) 25) = w.alloc (tob f) := rfl
  rw [e1]
  clear e1
  generalize w.alloc (tob f) = V1 at *
  go_wp2_with (first
    | (refine wpList_load_of rfl 25 _ rfl _ HLD.out ?_)
    | (go_at_call 6; (refine (HB.out _).mono ?_); rintro e w1 ⟨rfl, hb1⟩; have HB1 := Lib.hid hb1; clear hb1)
    | (go_at_call 22; (refine (HX.out _).mono ?_); rintro e w2 ⟨rfl, hb2⟩; have HB2 := Lib.hid hb2; clear hb2))
  go_ret
  exact ⟨rfl, H1.out.trans ((HB1.out.mono (by omega)).trans (HB2.out.mono (by have := HB1.out.size; omega)))⟩
theorem key_any (f : Nat → Px) (w : World) (hk : D.KT w) (hf : ∀ i, i < 64 → Pc (f i)) : Calls Tryd.prog 10 #[tv f] w fun e w' => e = .returned (.string (kd f)) ∧ Below w.heap.size w w' := by
  rw [← kd_of f]
  exact key_of f _ w hk (by rw [bys_size]; omega) (fun V => bytes_any f V hf)
theorem refKey_any (f : Nat → Px) (w : World) (hf : ∀ i, i < 64 → Pc (f i)) : Calls Tryd.prog 11 #[tv f] w fun e w' => e = .returned (.string (kd f)) ∧ Below w.heap.size w w' := by
  rw [← kd_of f]
  exact refKey_of f _ w (by rw [bys_size]; omega) (fun V => refBytes_any f V hf)
end Go.Proofs.YtligojllbnahcaaDoor.T
