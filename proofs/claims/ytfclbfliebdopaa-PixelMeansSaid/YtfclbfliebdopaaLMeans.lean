/-
  PixelMeans: for every sequence of at most 40 pixels with multiplicities, Mean returns what the reference returns after each step; a nil Mean ignores Add. No conditions.
-/
import Derived.Test.YtfclbfliebdopaaLaw
import Derived.Test.YtfclbfliebdopaaOpen
import Derived.Test.YtfclbfliebdopaaRefMeanPix
namespace Go.Proofs.Ytfclbfliebdopaa.LMeans
open Go.ChangeShapes Go.WideShapes Go.ChangeAt Go.RowKit


set_option maxHeartbeats 8000000 in
set_option maxRecDepth 100000 in
theorem walk (po : Option Addr) (n c : Nat) (w : World) (_hn : n ≤ 9223372036854775807) (hI : ∀ i, i < n → ∃ r g b a k, ItemAt w po i r g b a k ∧ Ch r ∧ Ch g ∧ Ch b ∧ Ch a) : Calls Try.prog 6 #[.slice po n c] w fun e w' => e = .returned (.bool true) ∧ Below w.heap.size w w' := by
  have h0 := St.start w
  go_enter Try.func6, Try.ntmps6
  go_upto_region 2 with (go_at_call 12; (with_reducible refine (St.call h0 (sane_any _)).mono ?_); rintro e w2 ⟨rfl, h2⟩)
  clear h0
  go_upto_region 4 with fail
  have h3 := (h2.alloc (mo 0 0 0 0 0)).alloc (mr 0 0 0 0 0)
  rw [World.size_alloc] at h3
  have hz := h2.below.size
  have hbm : w.heap.size ≤ w2.heap.size := hz
  have hbr : w.heap.size ≤ w2.heap.size + 1 := by omega
  have hne : w2.heap.size ≠ w2.heap.size + 1 := by omega
  generalize (w2.alloc (mo 0 0 0 0 0)).alloc (mr 0 0 0 0 0) = w3 at h3 ⊢
  generalize w2.heap.size + 1 = br at h3 hbr hne ⊢
  generalize w2.heap.size = bm at h3 hbm hne ⊢
  clear hz h2
  have h4 : St w [(bm, mo 0 0 0 0 0), (br, mr 0 0 0 0 0)] w3 := h3.sub (by simp)
  clear h3
  have hsw : Hid (∀ N A X Y Z V, St w [(bm, mo N A X Y Z), (br, mr N A X Y Z)] V → St w [(br, mr N A X Y Z), (bm, mo N A X Y Z)] V) := fun N A X Y Z V h => h.sub (by simp)
  go_wp2_with fail
  go_loopw [7] (fun v wr => ∃ k : Nat, k ≤ 40 ∧ v = .int .i64 k ∧ Hid (∃ N A X Y Z, Mb N A X Y Z ∧ N ≤ 65536 * k ∧ St w [(bm, mo N A X Y Z), (br, mr N A X Y Z)] wr)) (fun v _ => 40 - (intOf v).toNat)
  case atStart => exact ⟨0, by omega, rfl, 0, 0, 0, 0, 0, by refine ⟨?_, ?_, ?_, ?_, ?_⟩ <;> decide, by decide, h4⟩
  case round =>
    obtain ⟨k, hk, rfl, HS⟩ := hrel
    obtain ⟨N, A, X, Y, Z, hM, hN, h3⟩ := HS.out
    clear HS h4
    have hfin : Hid (∀ V, St w [(bm, mo N A X Y Z), (br, mr N A X Y Z)] V → St w [(br, mr N A X Y Z), (bm, mo N A X Y Z)] V) := fun V h => h.sub (by simp)
    by_cases h1 : (k : Int) < n
    · by_cases h2 : (k : Int) < 40
      · obtain ⟨r, g, b, a, q, ⟨bl, off, rfl, hbl, i0, i1, i2, i3, i4⟩, hr, hg, hb, ha⟩ := hI k (by omega)
        have HB : Hid (∀ V, Below w.heap.size w V → V.cell? ⟨bl, off + k * 5, none⟩ = some (.int .u8 r) ∧ V.cell? ⟨bl, off + k * 5 + 1, none⟩ = some (.int .u8 g) ∧ V.cell? ⟨bl, off + k * 5 + 2, none⟩ = some (.int .u8 b) ∧ V.cell? ⟨bl, off + k * 5 + 3, none⟩ = some (.int .u8 a) ∧ V.cell? ⟨bl, off + k * 5 + 4, none⟩ = some (.int .i64 q)) := fun V h =>
          ⟨(h.cell (p := ⟨bl, off + k * 5, none⟩) hbl).trans i0, (h.cell (p := ⟨bl, off + k * 5 + 1, none⟩) hbl).trans i1, (h.cell (p := ⟨bl, off + k * 5 + 2, none⟩) hbl).trans i2, (h.cell (p := ⟨bl, off + k * 5 + 3, none⟩) hbl).trans i3, (h.cell (p := ⟨bl, off + k * 5 + 4, none⟩) hbl).trans i4⟩
        clear i0 i1 i2 i3 i4
        obtain ⟨c0, c1, c2, c3, c4⟩ := HB.out _ h3.below
        go_upto_if 31 with fail
        go_cut [8] (fun v wx => (∃ kk, v = .int .i64 kk) ∧ wr = wx)
        case first =>
          by_cases hp : (k : Int) % 2 = 0
          · go_wp2_with fail
            go_meet
            case rel => exact ⟨⟨_, rfl⟩, rfl⟩
          · go_wp2_with fail
            go_meet
            case rel => exact ⟨⟨_, rfl⟩, rfl⟩
        case rest =>
          obtain ⟨⟨kk, rfl⟩, rfl⟩ := hcut
          have hM' := hM.add (k := kk) (by omega) hr hg hb ha
          have hcn := cnt_le kk
          have hfwd : Hid (∀ V, St w [(bm, mo (N + cnt kk) (A + cnt kk * a) (X + cnt kk * a * r) (Y + cnt kk * a * g) (Z + cnt kk * a * b)), (br, mr (N + cnt kk) (A + cnt kk * a) (X + cnt kk * a * r) (Y + cnt kk * a * g) (Z + cnt kk * a * b))] V → St w [(br, mr (N + cnt kk) (A + cnt kk * a) (X + cnt kk * a * r) (Y + cnt kk * a * g) (Z + cnt kk * a * b)), (bm, mo (N + cnt kk) (A + cnt kk * a) (X + cnt kk * a * r) (Y + cnt kk * a * g) (Z + cnt kk * a * b))] V) := fun V h => h.sub (by simp)
          have hmid : Hid (∀ V, St w [(bm, mo (N + cnt kk) (A + cnt kk * a) (X + cnt kk * a * r) (Y + cnt kk * a * g) (Z + cnt kk * a * b)), (br, mr N A X Y Z)] V → St w [(br, mr N A X Y Z), (bm, mo (N + cnt kk) (A + cnt kk * a) (X + cnt kk * a * r) (Y + cnt kk * a * g) (Z + cnt kk * a * b))] V) := fun V h => h.sub (by simp)
          have hback : Hid (∀ V, St w [(br, mr (N + cnt kk) (A + cnt kk * a) (X + cnt kk * a * r) (Y + cnt kk * a * g) (Z + cnt kk * a * b)), (bm, mo (N + cnt kk) (A + cnt kk * a) (X + cnt kk * a * r) (Y + cnt kk * a * g) (Z + cnt kk * a * b))] V → St w [(bm, mo (N + cnt kk) (A + cnt kk * a) (X + cnt kk * a * r) (Y + cnt kk * a * g) (Z + cnt kk * a * b)), (br, mr (N + cnt kk) (A + cnt kk * a) (X + cnt kk * a * r) (Y + cnt kk * a * g) (Z + cnt kk * a * b))] V) := fun V h => h.sub (by simp)
          go_wp2_with (first
            | (go_at_call 25; first
              | ((with_reducible refine (add_any bm N A X Y Z r g b a kk _ h3 hbm (by simpa using hne.symm) hM ?_ hr hg hb ha).mono ?_); (focus omega); rintro e w5 ⟨rfl, h5⟩; obtain ⟨d0, d1, d2, d3, d4⟩ := HB.out _ h5.below)
              | ((with_reducible refine (St.call h8 (add_nil _ _ _ _ _ _)).mono ?_); rintro e w5 ⟨rfl, h10⟩; have h11 := hback.out _ h10))
            | (go_at_call 26; (with_reducible refine (refAdd_any br N A X Y Z r g b a kk _ (hmid.out _ h5) hbr (by simpa using hne) hM ?_ hr hg hb ha).mono ?_); (focus omega); rintro e w5 ⟨rfl, h8⟩; obtain ⟨e0, e1, e2, e3, e4⟩ := HB.out _ h8.below)
            | (go_at_call 27; (with_reducible refine (St.call h11 (pix_any _ _ _ _ _ _ _ h11 hM')).mono ?_); rintro e w7 ⟨rfl, h12⟩; have h13 := hfwd.out _ h12)
            | (go_at_call 28; (with_reducible refine (St.call h13 (refPix_any _ _ _ _ _ _ _ h13 hM')).mono ?_); rintro e w7 ⟨rfl, h14⟩; have h15 := hback.out _ h14))
          go_roundw
          case rel => exact ⟨k + 1, by omega, by go_num, _, _, _, _, _, hM', by omega, h15⟩
          case measure => simp [intOf]; omega
      · go_wp2_with
        (first
          | (go_at_call 27; first
            | ((with_reducible refine (St.call h3 (pix_any _ _ _ _ _ _ _ h3 hM)).mono ?_); rintro e w7 ⟨rfl, h7⟩; have h8 := hfin.out _ h7)
            | ((with_reducible refine (St.call h9 (pix_nil _)).mono ?_); rintro e w7 ⟨rfl, h10⟩))
          | (go_at_call 28; (with_reducible refine (St.call h8 (refPix_any _ _ _ _ _ _ _ h8 hM)).mono ?_); rintro e w7 ⟨rfl, h9⟩))
        go_ret
        exact ⟨rfl, h10.below⟩
    · go_wp2_with
        (first
          | (go_at_call 27; first
            | ((with_reducible refine (St.call h3 (pix_any _ _ _ _ _ _ _ h3 hM)).mono ?_); rintro e w7 ⟨rfl, h7⟩; have h8 := hfin.out _ h7)
            | ((with_reducible refine (St.call h9 (pix_nil _)).mono ?_); rintro e w7 ⟨rfl, h10⟩))
          | (go_at_call 28; (with_reducible refine (St.call h8 (refPix_any _ _ _ _ _ _ _ h8 hM)).mono ?_); rintro e w7 ⟨rfl, h9⟩))
      go_ret
      exact ⟨rfl, h10.below⟩

set_option maxRecDepth 100000 in
theorem lifted (os : Os) (started : os.Started) (H : Type) (enc : TypeId × Value → H) :
    ReturnsInHanded {} Try.checked os 6 .any (Rows.pixelMeansSpec.pre6 enc Try.prog Try.f6 Rows.pixelMeansRow.domain false) (Rows.pixelMeansSpec.post enc Try.prog Try.f6 false true false false) := by
  refine returnsInHanded_of_change_sized (C := Try.checked) own started (by kernel_rfl) Try.func6
    (ChangeSpec.witness6 (enc := enc) (C := Try.checked) false ⟨#[], #[.slice none 0 0], []⟩ 8 (by kernel_rfl) (by kernel_rfl) (by kernel_rfl) (by kernel_rfl)) ?_
  intro W base args ds gs before hval0 hW _ _ _
  have hval : ∀ (j : Nat) t v, Try.f6.params[j]? = some t → args[j]? = some v → Value.okWide Try.prog W .any base t v := hval0
  have hW' := hW
  obtain ⟨p, q, hA0, hV, rfl, hfz, hnd⟩ := hW
  have hA : DataW.TrodAll enc Try.prog W 0 (fun _ => true) true Try.f6.params.toList args.toList ds p := hA0
  rw [Try.params6] at hA hval
  obtain ⟨v0, d0, rfl, rfl, h0⟩ := trodAll_one hA
  obtain ⟨rfl, rfl⟩ := trodVars_none hV
  obtain ⟨po, n, c, rfl, hn, hI⟩ := opened_items (hval 0 35 v0 rfl rfl) h0
  refine (walk po n c  W hn hI).mono fun e W' ⟨he, hb⟩ => ?_
  subst he
  exact ⟨_, rfl, law_post hW' rfl (by kernel_rfl) rfl (by intro t ht; rw [Try.params6] at ht; simp at ht; subst ht; exact ⟨by kernel_rfl, of_decide_eq_true (by kernel_rfl)⟩) hb⟩

theorem holds : Rows.PixelMeansSaid :=
  OpenClaim.holds_of_wide 6 Try.f6 rfl rfl rfl rfl rfl rfl rfl ⟨rfl, rfl, rfl, rfl, rfl⟩ rfl rfl rfl rfl rfl (by kernel_rfl) Try.func6 (by kernel_rfl)
    (of_decide_eq_true (by kernel_rfl)) (by unfold Func.isWrapper; first | (rw [if_pos (by decide +kernel)]; kernel_rfl) | (rw [if_neg (by decide +kernel)]; exact ⟨rfl, rfl⟩))
    (fun os started H enc _ => lifted os started H enc)
end Go.Proofs.Ytfclbfliebdopaa.LMeans
