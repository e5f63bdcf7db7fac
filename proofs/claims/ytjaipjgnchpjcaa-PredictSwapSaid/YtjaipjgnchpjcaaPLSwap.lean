/-
  PredictSwap: Swap and Back are inverse to each other on all colours, agree with the reference, and map greys to (grey, 0, 0).
-/
import Derived.Test.YtjaipjgnchpjcaaPLaw
namespace Go.Proofs.Ytjaipjgnchpjcaa.P.PLSwap
open Go.ChangeShapes Go.WideShapes Go.ChangeAt Go.RowKit Go.Shelf T
open Go.ChangeMaps (open_string)
set_option maxRecDepth 100000


set_option maxHeartbeats 8000000 in
set_option maxRecDepth 100000 in
theorem walk (r : Int) (g : Int) (b : Int) (w : World) (hr : Ch r) (hg : Ch g) (hb : Ch b) : Calls Try.prog 4 #[.int .u8 r, .int .u8 g, .int .u8 b] w fun e w' => e = .returned (.bool true) ∧ Below w.heap.size w w' := by
  obtain ⟨Y, hY⟩ : ∃ Y, Y = sY r g b := ⟨_, rfl⟩
  obtain ⟨U, hU⟩ : ∃ U, U = sU r b := ⟨_, rfl⟩
  obtain ⟨X, hX⟩ : ∃ X, X = sV r g b := ⟨_, rfl⟩
  obtain ⟨c, hc⟩ : ∃ c, c = kR r g b := ⟨_, rfl⟩
  obtain ⟨d, hd⟩ : ∃ d, d = kG r b := ⟨_, rfl⟩
  obtain ⟨k, hk⟩ : ∃ k, k = kB r g b := ⟨_, rfl⟩
  have HS1 : Hid (∀ V, Calls Try.prog 14 #[.int .u8 r, .int .u8 g, .int .u8 b] V fun e w' => e = .returned (.tuple #[.int .u8 Y, .int .u8 U, .int .u8 X]) ∧ V = w') := fun V => by
    rw [hY, hU, hX]; exact swap_any r g b V hr hg hb
  have HR : Hid (∀ V, Calls Try.prog 15 #[.agg #[.int .u8 r, .int .u8 g, .int .u8 b]] V fun e w' => e = .returned (.agg #[.int .u8 Y, .int .u8 U, .int .u8 X]) ∧ Below V.heap.size V w') := fun V => by
    rw [hY, hU, hX]; exact refSwap_any r g b V hr hg hb
  have HB1 : Hid (∀ V, Calls Try.prog 16 #[.int .u8 Y, .int .u8 U, .int .u8 X] V fun e w' => e = .returned (.tuple #[.int .u8 r, .int .u8 g, .int .u8 b]) ∧ V = w') := fun V => by
    have h := back_any Y U X V (hY ▸ b8_ch _) (hU ▸ b8_ch _) (hX ▸ b8_ch _)
    rw [hY, hU, hX] at h ⊢
    rwa [(back_swap hr hg hb).1, (back_swap hr hg hb).2.1, (back_swap hr hg hb).2.2] at h
  have HB2 : Hid (∀ V, Calls Try.prog 16 #[.int .u8 r, .int .u8 g, .int .u8 b] V fun e w' => e = .returned (.tuple #[.int .u8 c, .int .u8 d, .int .u8 k]) ∧ V = w') := fun V => by
    rw [hc, hd, hk]; exact back_any r g b V hr hg hb
  have HS2 : Hid (∀ V, Calls Try.prog 14 #[.int .u8 c, .int .u8 d, .int .u8 k] V fun e w' => e = .returned (.tuple #[.int .u8 r, .int .u8 g, .int .u8 b]) ∧ V = w') := fun V => by
    have h := swap_any c d k V (hc ▸ b8_ch _) (hd ▸ b8_ch _) (hk ▸ b8_ch _)
    rw [hc, hd, hk] at h ⊢
    rwa [(swap_back hr hg hb).1, (swap_back hr hg hb).2.1, (swap_back hr hg hb).2.2] at h
  have HS3 : Hid (∀ V, Calls Try.prog 14 #[.int .u8 r, .int .u8 r, .int .u8 r] V fun e w' => e = .returned (.tuple #[.int .u8 r, .int .u8 0, .int .u8 0]) ∧ V = w') := fun V => by
    have h := swap_any r r r V hr hr hr
    rwa [(swap_grey hr).1, (swap_grey hr).2.1, (swap_grey hr).2.2] at h
  clear hY hU hX hc hd hk
  have h0 := St.start w
  go_enter Try.func4, Try.ntmps4
  go_upto_region 4 with (first | (go_at_call 10; (with_reducible refine (St.call h0 (sanity_any _)).mono ?_); rintro e w1 ⟨rfl, h1⟩) | (go_at_call 14; (with_reducible refine (HS1.out _).mono ?_); rintro e wq ⟨rfl, rfl⟩) | (go_at_call 15; (with_reducible refine (St.call h1 (HR.out _)).mono ?_); rintro e w2 ⟨rfl, h2⟩))
  have h3 := h2.alloc (.cells #[.int .u8 Y, .int .u8 U, .int .u8 X] 39)
  generalize w2.heap.size = n at h3 ⊢
  generalize w2.alloc (.cells #[.int .u8 Y, .int .u8 U, .int .u8 X] 39) = w3 at h3 ⊢
  have c0 := h3.cell (b := n) (cs := #[.int .u8 Y, .int .u8 U, .int .u8 X]) (t := 39) (by simp) 0
  have c1 := h3.cell (b := n) (cs := #[.int .u8 Y, .int .u8 U, .int .u8 X]) (t := 39) (by simp) 1
  have c2 := h3.cell (b := n) (cs := #[.int .u8 Y, .int .u8 U, .int .u8 X]) (t := 39) (by simp) 2
  simp only [List.getElem?_toArray, List.getElem?_cons_zero, List.getElem?_cons_succ] at c0 c1 c2
  go_wp2_with (first | (go_at_call 16; (with_reducible refine (HB1.out _).mono ?_); rintro e wq ⟨rfl, rfl⟩) | (go_at_call 16; (with_reducible refine (HB2.out _).mono ?_); rintro e wq ⟨rfl, rfl⟩) | (go_at_call 14; (with_reducible refine (HS2.out _).mono ?_); rintro e wq ⟨rfl, rfl⟩) | (go_at_call 14; (with_reducible refine (HS3.out _).mono ?_); rintro e wq ⟨rfl, rfl⟩))
  go_ret
  exact ⟨rfl, h3.below⟩

theorem okin (W : World) (base : Nat) : Input.okWide Try.checked.prog W .any base 4 ⟨#[], #[.int .u8 0, .int .u8 0, .int .u8 0], []⟩ := by
  refine ⟨by simp, by simp, by kernel_rfl, Try.f4, Try.func4, by kernel_rfl, by kernel_rfl, by kernel_rfl, by rw [Try.params4]; rfl, ?_⟩
  intro j t v ht hv
  rw [Try.params4] at ht
  match j with
  | 0 => cases (Option.some.inj ht); cases (Option.some.inj hv); exact ok_u8 W base
  | 1 => cases (Option.some.inj ht); cases (Option.some.inj hv); exact ok_u8 W base
  | 2 => cases (Option.some.inj ht); cases (Option.some.inj hv); exact ok_u8 W base
  | j + 3 => simp at ht
theorem lifted (os : Os) (started : os.Started) (H : Type) (enc : TypeId × Value → H) :
    ReturnsInHanded {} Try.checked os 4 .any (Rows.predictSwapSpec.pre6 enc Try.prog Try.f4 Rows.predictSwapRow.domain false) (Rows.predictSwapSpec.post enc Try.prog Try.f4 false true false false) := by
  refine returnsInHanded_of_change_sized (C := Try.checked) own started (by kernel_rfl) Try.func4
    (witness7 (enc := enc) (C := Try.checked) false ⟨#[], #[.int .u8 0, .int .u8 0, .int .u8 0], []⟩ 8 (by kernel_rfl) (by kernel_rfl) (fun W base => okin W base) (by kernel_rfl) (by kernel_rfl)) ?_
  intro W base args ds gs before hval0 hW _ _ _
  have hval : ∀ (j : Nat) t v, Try.f4.params[j]? = some t → args[j]? = some v → Value.okWide Try.prog W .any base t v := hval0
  have hW' := hW
  obtain ⟨p, q, hA0, hV, rfl, hfz, hnd⟩ := hW
  have hA : DataW.TrodAll enc Try.prog W 0 (fun _ => true) true Try.f4.params.toList args.toList ds p := hA0
  rw [Try.params4] at hA hval
  obtain ⟨v0, v1, v2, d0, d1, d2, p0, p1, p2, rfl, rfl, rfl, h0, h1, h2⟩ := trodAll_three hA
  obtain ⟨rfl, rfl⟩ := trodVars_none hV
  obtain ⟨r, rfl, hr⟩ := open_u8 (hval 0 5 v0 rfl rfl)
  obtain ⟨g, rfl, hg⟩ := open_u8 (hval 1 5 v1 rfl rfl)
  obtain ⟨b, rfl, hb⟩ := open_u8 (hval 2 5 v2 rfl rfl)
  refine (walk r g b W hr hg hb).mono fun e W' ⟨he, hb⟩ => ?_
  subst he
  exact ⟨_, rfl, law_post hW' rfl (by kernel_rfl) rfl (by intro t ht; rw [Try.params4] at ht; simp at ht; subst ht; exact ⟨by kernel_rfl, of_decide_eq_true (by kernel_rfl)⟩) hb⟩

theorem holds : Rows.PredictSwapSaid :=
  OpenClaim.holds_of_wide 4 Try.f4 rfl rfl rfl rfl rfl rfl rfl ⟨rfl, rfl, rfl, rfl, rfl⟩ rfl rfl rfl rfl rfl (by kernel_rfl) Try.func4 (by kernel_rfl)
    (of_decide_eq_true (by kernel_rfl)) (by unfold Func.isWrapper; first | (rw [if_pos (by decide +kernel)]; kernel_rfl) | (rw [if_neg (by decide +kernel)]; exact ⟨rfl, rfl⟩))
    (fun os started H enc _ => lifted os started H enc)
end Go.Proofs.Ytjaipjgnchpjcaa.P.PLSwap
