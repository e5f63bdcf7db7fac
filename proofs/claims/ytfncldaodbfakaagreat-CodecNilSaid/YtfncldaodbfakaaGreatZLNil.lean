/-
  CodecNil: all methods of a nil *File behave as specified at the end of the contract.
-/
import Derived.Test.YtfncldaodbfakaaGreatZLaw
import Derived.Test.YtfncldaodbfakaaGreatZNil
namespace Go.Proofs.YtfncldaodbfakaaGreat.Z.ZLNil
open Go.ChangeShapes Go.WideShapes Go.ChangeAt Go.RowKit Go.Shelf
open Go.ChangeMaps (open_string)
open T
set_option maxRecDepth 100000


set_option maxHeartbeats 8000000 in
set_option maxRecDepth 100000 in
theorem walk (n : Int) (w : World)  : Calls Tryz.prog 11 #[.int .i64 n] w fun e w' => e = .returned (.bool true) ∧ Below w.heap.size w w' := by
  have h0 := St.start w
  have HP : Hid (∀ V, (Instr.build 40 #[(0, .int .i64 n)]).run Tryz.prog V = .ok (pz n) V) := fun V => run_build V 40 _ _ (by kernel_rfl)
  have HR : Hid (∀ V, (Instr.build 49 #[(2, .int .i64 n), (3, .int .i64 n)]).run Tryz.prog V = .ok (rc 0 0 n n) V) := fun V => run_build V 49 _ _ (by kernel_rfl)
  go_enter Tryz.func11, Tryz.ntmps11
  go_upto_region 3 with (go_at_call 12; with_reducible refine (h0.call (sane_any _)).mono ?_; rintro e w1 ⟨rfl, h1⟩)
  clear h0
  go_upto_region 4 with (first
    | (rw [HP.out])
    | (go_at_call 21; with_reducible refine (h1.call (tileN n _)).mono ?_; rintro e w2 ⟨rfl, h2⟩; have HA := Lib.hid (heap_alloc_new w2 (tob z0)))
    | (refine wl_alloc rfl 38 rfl _ (zero_tile _) ?_)
    | (refine wl_store rfl 38 _ _ rfl (store_tile _ z0 z0 _ HA.out) ?_))
  have h3 : St w [] ((w2.alloc (tob z0)).setRow w2.heap.size (tc z0)) := (T.St.rowset (h2.alloc (tob z0)) h2.below.size (by simp)).sub (by simp)
  generalize (w2.alloc (tob z0)).setRow w2.heap.size (tc z0) = w3 at *
  clear HA h1
  go_upto_region 5 with (first
    | (rw [HR.out])
    | (go_at_call 20; with_reducible refine (h3.call (readN _ _ _ _ _)).mono ?_; rintro e w4 ⟨rfl, h4⟩))
  have h5 : St w [] (w4.alloc (.cells #[.slice none 0 0] 26)) := (h4.alloc (.cells #[.slice none 0 0] 26)).sub (by simp)
  generalize w4.alloc (.cells #[.slice none 0 0] 26) = w5 at *
  clear h3
  go_upto_region 6 with (first
    | (rw [HR.out])
    | (go_at_call 19; with_reducible refine (h5.call (allN _)).mono ?_; rintro e w6 ⟨rfl, h6⟩))
  have h7 : St w [] (w6.alloc (.cells #[.slice none 0 0] 26)) := (h6.alloc (.cells #[.slice none 0 0] 26)).sub (by simp)
  generalize w6.alloc (.cells #[.slice none 0 0] 26) = w7 at *
  clear h5
  go_upto_region 7 with (first
    | (rw [HP.out])
    | (go_at_call 30; with_reducible refine (h7.call (previewN n _)).mono ?_; rintro e w8 ⟨rfl, h8⟩; have HA := Lib.hid (heap_alloc_new w8 (tob z0)))
    | (refine wl_alloc rfl 38 rfl _ (zero_tile _) ?_)
    | (refine wl_store rfl 38 _ _ rfl (store_tile _ z0 z0 _ HA.out) ?_))
  have h9 : St w [] ((w8.alloc (tob z0)).setRow w8.heap.size (tc z0)) := (T.St.rowset (h8.alloc (tob z0)) h8.below.size (by simp)).sub (by simp)
  generalize (w8.alloc (tob z0)).setRow w8.heap.size (tc z0) = w9 at *
  clear HA h7
  go_wp2_with (first
    | (go_at_call 31; with_reducible refine (countN _).mono ?_; rintro e wq ⟨rfl, rfl⟩)
    | (go_at_call 26; with_reducible refine (decodedN _).mono ?_; rintro e wq ⟨rfl, rfl⟩)
    | (go_at_call 40; with_reducible refine (h9.call (boundsN _)).mono ?_; rintro e w10 ⟨rfl, h10⟩))
  go_ret
  exact ⟨rfl, h10.below⟩

theorem lifted (os : Os) (started : os.Started) (H : Type) (enc : TypeId × Value → H) :
    ReturnsInHanded {} Tryz.checked os 11 .any (Rows.codecNilSpec.pre6 enc Tryz.prog Tryz.f11 Rows.codecNilRow.domain false) (Rows.codecNilSpec.post enc Tryz.prog Tryz.f11 false true false false) := by
  refine returnsInHanded_of_change_sized (C := Tryz.checked) own started (by kernel_rfl) Tryz.func11
    (ChangeSpec.witness6 (enc := enc) (C := Tryz.checked) false ⟨#[], #[.int .i64 0], []⟩ 8 (by kernel_rfl) (by kernel_rfl) (by kernel_rfl) (by kernel_rfl)) ?_
  intro W base args ds gs before hval0 hW _ _ _
  have hval : ∀ (j : Nat) t v, Tryz.f11.params[j]? = some t → args[j]? = some v → Value.okWide Tryz.prog W .any base t v := hval0
  have hW' := hW
  obtain ⟨p, q, hA0, hV, rfl, hfz, hnd⟩ := hW
  have hA : DataW.TrodAll enc Tryz.prog W 0 (fun _ => true) true Tryz.f11.params.toList args.toList ds p := hA0
  rw [Tryz.params11] at hA hval
  obtain ⟨v0, d0, rfl, rfl, h0⟩ := trodAll_one hA
  obtain ⟨rfl, rfl⟩ := trodVars_none hV
  obtain ⟨n, rfl, rfl, rfl, _⟩ := open_int Tryz.underlying3 (hval 0 3 v0 rfl rfl) h0
  refine (walk n W).mono fun e W' ⟨he, hb⟩ => ?_
  subst he
  exact ⟨_, rfl, law_post hW' rfl (by kernel_rfl) rfl (by intro t ht; rw [Tryz.params11] at ht; simp at ht; subst ht; exact ⟨by kernel_rfl, of_decide_eq_true (by kernel_rfl)⟩) hb⟩

theorem holds : Rows.CodecNilSaid :=
  OpenClaim.holds_of_wide 11 Tryz.f11 rfl rfl rfl rfl rfl rfl rfl ⟨rfl, rfl, rfl, rfl, rfl⟩ rfl rfl rfl rfl rfl (by kernel_rfl) Tryz.func11 (by kernel_rfl)
    (of_decide_eq_true (by kernel_rfl)) (by unfold Func.isWrapper; first | (rw [if_pos (by decide +kernel)]; kernel_rfl) | (rw [if_neg (by decide +kernel)]; exact ⟨rfl, rfl⟩))
    (fun os started H enc _ => lifted os started H enc)
end Go.Proofs.YtfncldaodbfakaaGreat.Z.ZLNil
