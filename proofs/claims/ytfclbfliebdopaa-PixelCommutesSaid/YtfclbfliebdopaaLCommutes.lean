/-
  PixelCommutes: nine of the blend modes are commutative, Overlay is HardLight with exchanged arguments, and all results are in 0..255. No conditions.
-/
import Derived.Test.YtfclbfliebdopaaLaw
import Derived.Test.YtfclbfliebdopaaSane
namespace Go.Proofs.Ytfclbfliebdopaa.LCommutes
open Go.ChangeShapes Go.WideShapes Go.ChangeAt Go.RowKit

theorem blend_v (m b s v : Int) (w : World) (hb : Ch b) (hs : Ch s) (hv : bl m b s = v) : Calls Try.prog 13 #[.int .i64 m, .int .i64 b, .int .i64 s] w fun e w' => e = .returned (.int .i64 v) ∧ Below w.heap.size w w' := by
  have h := blend_any m b s w
  rw [cl_of hb, cl_of hs, hv] at h; exact h
def md (k : Nat) : Int := if k = 0 then 1 else if k = 1 then 2 else if k = 2 then 4 else if k = 3 then 5 else if k = 4 then 10 else if k = 5 then 11 else if k = 6 then 12 else if k = 7 then 14 else 15
theorem pr_comm (a b : Int) : pr a b = pr b a := by unfold pr; rw [Int.mul_comm]
theorem bl_comm (k : Nat) (a b : Int) : bl (md k) a b = bl (md k) b a := by
  have h : md k = 1 ∨ md k = 2 ∨ md k = 4 ∨ md k = 5 ∨ md k = 10 ∨ md k = 11 ∨ md k = 12 ∨ md k = 14 ∨ md k = 15 := by
    obtain ⟨v, hv⟩ : ∃ v, v = md k := ⟨_, rfl⟩
    rw [← hv]
    unfold md at hv
    (repeat' split at hv) <;> omega
  rcases h with h | h | h | h | h | h | h | h | h <;> rw [h] <;> simp only [bl, scr, exc, dst, pr_comm a b, Int.add_comm a b] <;> simp <;> (try omega) <;> (try (split <;> split <;> omega))
abbrev lo : Obj := .cells #[.int .i64 1, .int .i64 2, .int .i64 4, .int .i64 5, .int .i64 10, .int .i64 11, .int .i64 12, .int .i64 14, .int .i64 15] 48
theorem lo_at {W V : World} {b : Nat} {L : List (Nat × Obj)} (h : St W L V) (hm : (b, lo) ∈ L) (k : Nat) (hk : k < 9) : V.cell? ⟨b, k, none⟩ = some (.int .i64 (md k)) := by
  rw [h.cell hm k]
  rcases (by omega : k = 0 ∨ k = 1 ∨ k = 2 ∨ k = 3 ∨ k = 4 ∨ k = 5 ∨ k = 6 ∨ k = 7 ∨ k = 8) with rfl | rfl | rfl | rfl | rfl | rfl | rfl | rfl | rfl <;> rfl

set_option maxHeartbeats 8000000 in
set_option maxRecDepth 100000 in
theorem walk (b s : Int) (w : World) (hb : Ch b) (hs : Ch s) : Calls Try.prog 8 #[.int .u8 b, .int .u8 s] w fun e w' => e = .returned (.bool true) ∧ Below w.heap.size w w' := by
  have kb := w64 hb
  have ks := w64 hs
  go_enter Try.func8, Try.ntmps8
  have h0 := St.start w
  go_upto_region 4 with (go_at_call 12; (with_reducible refine (St.call h0 (sane_any _)).mono ?_); rintro e w2 ⟨rfl, h2⟩)
  clear h0
  go_upto_region 5 with fail
  have h3 := h2.alloc lo
  generalize w2.heap.size = bl0 at h3 ⊢
  generalize w2.alloc lo = w3 at h3 ⊢
  clear h2
  go_wp2_with fail
  go_loopw [9] (fun v wr => ∃ k : Nat, k ≤ 9 ∧ v = .int .i64 k ∧ Hid (St w [(bl0, lo)] wr)) (fun v _ => 9 - (intOf v).toNat)
  case atStart => exact ⟨0, by omega, rfl, h3⟩
  case round =>
    obtain ⟨k, hk, rfl, HS⟩ := hrel
    have h4 := HS.out
    clear HS h3
    by_cases hlt : (k : Int) < 9
    · have hk9 : k < 9 := by omega
      have hc := lo_at h4 (b := bl0) (by simp) k hk9
      go_upto_region 8 with fail
      have HP : Hid (∀ V, St w [(bl0, lo)] V → St w [(bl0, lo)] V ∧ V.cell? ⟨bl0, k, none⟩ = some (.int .i64 (md k))) := fun V h => ⟨h, lo_at h (by simp) k hk9⟩
      have hd := h4.drew
      clear h4 hc
      go_region_held3 (fun V => St w [(bl0, lo)] V ∧ V.cell? ⟨bl0, k, none⟩ = some (.int .i64 (md k))) ((refine HP.out _ ?_; assumption)) (first
        | (go_at_call 13; (with_reducible refine (St.call (W := w) (L := [(bl0, lo)]) ?_ (blend_v _ b s (bl (md k) b s) _ hb hs rfl)).mono ?_); (focus assumption); rintro e w5 ⟨rfl, h5⟩)
        | (go_at_call 13; (with_reducible refine (St.call (W := w) (L := [(bl0, lo)]) ?_ (blend_v _ s b (bl (md k) b s) _ hs hb (bl_comm k s b))).mono ?_); (focus assumption); rintro e w5 ⟨rfl, h5⟩))
      go_wp2_with fail
      go_roundw
      case rel => exact ⟨k + 1, by omega, by go_num, by unfold Hid; assumption⟩
      case measure => simp [intOf]; omega
    · go_wp2_with fail
      go_loopw [10] (fun v wr => ∃ k : Nat, k ≤ 16 ∧ v = .int .i64 k ∧ Hid (St w [(bl0, lo)] wr)) (fun v _ => 16 - (intOf v).toNat)
      case atStart => exact ⟨0, by omega, rfl, h4⟩
      case round =>
        obtain ⟨x, hx, rfl, HS⟩ := hrel
        have h5 := HS.out
        clear HS h4
        by_cases hlx : (x : Int) < 16
        · have hv := bl_ch (x : Int) hb hs
          have v1 : ¬ bl (x : Int) b s < 0 := by omega
          have v2 : ¬ 255 < bl (x : Int) b s := by omega
          go_wp2_with (go_at_call 13; (with_reducible refine (St.call (W := w) (L := [(bl0, lo)]) ?_ (blend_v _ b s (bl (x : Int) b s) _ hb hs rfl)).mono ?_); (focus assumption); rintro e w6 ⟨rfl, h6⟩)
          go_roundw
          case rel => exact ⟨x + 1, by omega, by go_num, by unfold Hid; assumption⟩
          case measure => simp [intOf]; omega
        · go_wp2_with (first
            | (go_at_call 13; (with_reducible refine (St.call (W := w) (L := [(bl0, lo)]) ?_ (blend_v 3 b s (hrd s b) _ hb hs rfl)).mono ?_); (focus assumption); rintro e w6 ⟨rfl, h6⟩)
            | (go_at_call 13; (with_reducible refine (St.call (W := w) (L := [(bl0, lo)]) ?_ (blend_v 8 s b (hrd s b) _ hs hb rfl)).mono ?_); (focus assumption); rintro e w6 ⟨rfl, h6⟩))
          go_ret
          exact ⟨rfl, h6.below⟩

set_option maxRecDepth 100000 in
theorem lifted (os : Os) (started : os.Started) (H : Type) (enc : TypeId × Value → H) :
    ReturnsInHanded {} Try.checked os 8 .any (Rows.pixelCommutesSpec.pre6 enc Try.prog Try.f8 Rows.pixelCommutesRow.domain false) (Rows.pixelCommutesSpec.post enc Try.prog Try.f8 false true false false) := by
  refine returnsInHanded_of_change_sized (C := Try.checked) own started (by kernel_rfl) Try.func8
    (ChangeSpec.witness6 (enc := enc) (C := Try.checked) false ⟨#[], #[.int .u8 0, .int .u8 0], []⟩ 8 (by kernel_rfl) (by kernel_rfl) (by kernel_rfl) (by kernel_rfl)) ?_
  intro W base args ds gs before hval0 hW _ _ _
  have hval : ∀ (j : Nat) t v, Try.f8.params[j]? = some t → args[j]? = some v → Value.okWide Try.prog W .any base t v := hval0
  have hW' := hW
  obtain ⟨p, q, hA0, hV, rfl, hfz, hnd⟩ := hW
  have hA : DataW.TrodAll enc Try.prog W 0 (fun _ => true) true Try.f8.params.toList args.toList ds p := hA0
  rw [Try.params8] at hA hval
  obtain ⟨v0, v1, d0, d1, p0, p1, rfl, rfl, rfl, h0, h1⟩ := trodAll_two hA
  obtain ⟨rfl, rfl⟩ := trodVars_none hV
  obtain ⟨b, rfl, hb⟩ := open_u8 (hval 0 5 v0 rfl rfl)
  obtain ⟨s, rfl, hs⟩ := open_u8 (hval 1 5 v1 rfl rfl)
  refine (walk b s W hb hs).mono fun e W' ⟨he, hb⟩ => ?_
  subst he
  exact ⟨_, rfl, law_post hW' rfl (by kernel_rfl) rfl (by intro t ht; rw [Try.params8] at ht; simp at ht; subst ht; exact ⟨by kernel_rfl, of_decide_eq_true (by kernel_rfl)⟩) hb⟩

theorem holds : Rows.PixelCommutesSaid :=
  OpenClaim.holds_of_wide 8 Try.f8 rfl rfl rfl rfl rfl rfl rfl ⟨rfl, rfl, rfl, rfl, rfl⟩ rfl rfl rfl rfl rfl (by kernel_rfl) Try.func8 (by kernel_rfl)
    (of_decide_eq_true (by kernel_rfl)) (by unfold Func.isWrapper; first | (rw [if_pos (by decide +kernel)]; kernel_rfl) | (rw [if_neg (by decide +kernel)]; exact ⟨rfl, rfl⟩))
    (fun os started H enc _ => lifted os started H enc)
end Go.Proofs.Ytfclbfliebdopaa.LCommutes
