/-
  The reference's Solve.
-/
import Derived.Test.YtdpcciidnkchfaaSearch
namespace Go.Proofs.Ytdpcciidnkchfaa
open Go.RowKit
variable {w : World}

/-- what the reference hands back: an argument, and whether there is one -/
abbrev so (x : Int) (k : Bool) : Obj := .cells #[.int .i64 x, .bool k] 37
set_option maxRecDepth 100000 in
set_option maxHeartbeats 4000000 in
theorem refSolve_any (c : List Int) (v : Value) (r : Bool) (y : Int) (w : World) (hc : Cm w v c) (hr : r = true ↔ Cv c) :
    Calls Try.prog 26 #[v, .int .i64 y] w fun e w' => e = .returned (.agg #[.int .i64 (slv r c y), .bool (slk r c y)]) ∧ Below w.heap.size w w' := by
  have HV : Hid (∀ V L, St w L V → Calls Try.prog 19 #[v] V fun e w' => e = .returned (.bool r) ∧ St w L w') := fun V L hs => hs.call (refValid_any c v r V (hc.later hs.below) hr)
  have hs := (St.start w).alloc (so 0 false)
  cases r
  · clear hr
    obtain ⟨po, cap, rfl, _⟩ := hc
    rw [show ((slv false c y : Nat) : Int) = 0 from rfl, show slk false c y = false from rfl]
    go_enter Try.func26, Try.ntmps26
    go_wp2_with (go_at_call 19; (with_reducible refine (HV.out _ _ hs).mono ?_); rintro e w' ⟨rfl, h2⟩; have c0 := h2.cell (b := w.heap.size) (cs := #[.int .i64 0, .bool false]) (t := 37) (by simp) 0; have c1 := h2.cell (b := w.heap.size) (cs := #[.int .i64 0, .bool false]) (t := 37) (by simp) 1; have f0 := h2.frozen (b := w.heap.size) (cs := #[.int .i64 0, .bool false]) (t := 37) (by simp) 0; have f1 := h2.frozen (b := w.heap.size) (cs := #[.int .i64 0, .bool false]) (t := 37) (by simp) 1; have hl := h2.lt (b := w.heap.size) (o := so 0 false) (by simp))
    exact bodyPost_ret (v := .agg #[.int .i64 0, .bool false]) (by simp [results, Try.results26, go_sem, *]) rfl ⟨rfl, (h2.below.setCell (p := ⟨w.heap.size, 0, none⟩) (Nat.le_refl _) _).setCell (p := ⟨w.heap.size, 1, none⟩) (Nat.le_refl _) _⟩
  · have hcv := hr.1 rfl
    obtain ⟨b, off, cap, rfl, _, _, hrow⟩ := hc.row (by have := hcv.two; omega)
    have hP : Hid (∀ V, St w [(w.heap.size, so 0 false)] V → (V.cell? ⟨w.heap.size, 0, none⟩ = some (.int .i64 0) ∧ V.cell? ⟨w.heap.size, 1, none⟩ = some (.bool false)) ∧ (V.frozen? ⟨w.heap.size, 0, none⟩ = false ∧ V.frozen? ⟨w.heap.size, 1, none⟩ = false) ∧ w.heap.size < V.heap.size ∧ V.cell? ⟨b, off + (c.length - 1), none⟩ = some (.int .i64 (cg c (c.length - 1)))) := fun V h2 =>
      ⟨⟨h2.cell (b := w.heap.size) (cs := #[.int .i64 0, .bool false]) (t := 37) (by simp) 0, h2.cell (b := w.heap.size) (cs := #[.int .i64 0, .bool false]) (t := 37) (by simp) 1⟩, ⟨h2.frozen (b := w.heap.size) (cs := #[.int .i64 0, .bool false]) (t := 37) (by simp) 0, h2.frozen (b := w.heap.size) (cs := #[.int .i64 0, .bool false]) (t := 37) (by simp) 1⟩, h2.lt (b := w.heap.size) (o := so 0 false) (by simp), (hrow.later h2.below).at' _ (by have := hcv.two; omega)⟩
    have HI : Hid (∀ V x, St w [(w.heap.size, so 0 false)] V → x ≤ 65535 → Calls Try.prog 40 #[.slice (some ⟨b, off, none⟩) c.length cap, .int .i64 (x : Nat)] V fun e w' => e = .returned (.int .i64 (val c x)) ∧ St w [(w.heap.size, so 0 false)] w') := fun V x hV hx =>
      hV.call (quiet_below (value_row c _ b off cap x V hcv rfl (hrow.later hV.below) hx))
    have hle := sol_le c y
    have hno := sol_none hcv y
    have HG : Hid (∀ x, x ≤ 65535 → (y ≤ val c x ↔ sol c y ≤ x)) := fun x hx => sol_gal hcv y hx
    have hlen := hcv.two
    have hmax := hcv.max
    have HE : Hid (slv true c y = (if sol c y ≤ 65535 then sol c y else 0) ∧ slk true c y = decide (sol c y ≤ 65535)) := by
      constructor <;> simp [slv, slk]
    clear hr hc hcv hrow
    generalize cg c (c.length - 1) = l at hP hno
    generalize sol c y = z at HE hle hno HG
    by_cases hlt : z ≤ 65535
    · rw [HE.out.1, HE.out.2, if_pos hlt, decide_eq_true hlt]
      have hly : decide (l < y) = false := by simp; omega
      clear HE hno
      generalize c.length = n at HV HI hP hlen hmax ⊢
      have hi : ((n : Int) - 1).toNat = n - 1 := by omega
      have hi0 : (0 : Int) ≤ (n : Int) - 1 := by omega
      have hltn : (n : Int) - 1 < n := by omega
      go_enter Try.func26, Try.ntmps26
      go_upto_region 4 with (go_at_call 19; (with_reducible refine (HV.out _ _ hs).mono ?_); rintro e w' ⟨rfl, h2⟩; obtain ⟨⟨c0, c1⟩, ⟨f0, f1⟩, hl, cl⟩ := hP.out _ h2)
      have H2 := Lib.hid h2
      clear hi hi0 hltn cl c0 c1 f0 f1 hl hs h2
      go_wp2_with fail
      go_loopw [6, 7] (fun i j wr => ∃ a d : Nat, a ≤ z ∧ z ≤ d ∧ d ≤ 65535 ∧ i = .int .i64 a ∧ j = .int .i64 d ∧ Hid (St w [(w.heap.size, so 0 false)] wr)) (fun i j _ => (intOf j).toNat - (intOf i).toNat)
      case atStart => exact ⟨0, 65535, by omega, by omega, by omega, rfl, rfl, H2⟩
      case round =>
        obtain ⟨a, d, ha, hd, hd2, rfl, rfl, HS⟩ := hrel
        by_cases had : a < d
        · obtain ⟨h, hh⟩ : ∃ h, h = (a + d) / 2 := ⟨_, rfl⟩
          have hh1 : a ≤ h := by omega
          have hh2 : h < d := by omega
          have hq : ((a : Int) + (d : Int)) / 2 = (h : Int) := by omega
          have HI2 := Lib.hid (HI.out wr h HS.out (by omega))
          have HX : Hid (y ≤ val c h ↔ z ≤ h) := HG.out h (by omega)
          generalize val c h = x at HI2 HX
          clear hh
          by_cases hx : y ≤ x
          · have hzh : z ≤ h := HX.out.1 hx
            clear HX
            go_wp2_with (go_at_call 40; (with_reducible refine HI2.out.mono ?_); rintro e w2 ⟨rfl, h2⟩; have H3 := Lib.hid h2; clear h2)
            go_roundw
            case rel => exact ⟨a, h, ha, hzh, by omega, rfl, rfl, H3⟩
            case measure => simp [intOf]; omega
          · have hzh : h + 1 ≤ z := by have := HX.out; omega
            clear HX
            go_wp2_with (go_at_call 40; (with_reducible refine HI2.out.mono ?_); rintro e w2 ⟨rfl, h2⟩; have H3 := Lib.hid h2; clear h2)
            go_roundw
            case rel => exact ⟨h + 1, d, hzh, by omega, hd2, by go_num, rfl, H3⟩
            case measure => simp [intOf]; omega
        · obtain rfl : a = d := by omega
          have hz : (a : Int) = z := by omega
          have HZ := Lib.hid hz; clear hz
          obtain ⟨⟨c0, c1⟩, ⟨f0, f1⟩, hl, _⟩ := hP.out _ HS.out
          go_wp2
          exact bodyPost_ret (v := .agg #[.int .i64 a, .bool true]) (by simp [results, Try.results26, go_sem, *]) rfl ⟨by rw [HZ.out], (HS.out.below.setCell (p := ⟨w.heap.size, 0, none⟩) (Nat.le_refl _) _).setCell (p := ⟨w.heap.size, 1, none⟩) (Nat.le_refl _) _⟩
    · rw [HE.out.1, HE.out.2, if_neg hlt, decide_eq_false hlt, show (((0 : Nat)) : Int) = 0 from rfl]
      have hly : decide (l < y) = true := by simp; omega
      clear HE hno
      generalize c.length = n at HV HI hP hlen hmax ⊢
      have hi : ((n : Int) - 1).toNat = n - 1 := by omega
      have hi0 : (0 : Int) ≤ (n : Int) - 1 := by omega
      have hltn : (n : Int) - 1 < n := by omega
      go_enter Try.func26, Try.ntmps26
      go_wp2_with (go_at_call 19; (with_reducible refine (HV.out _ _ hs).mono ?_); rintro e w' ⟨rfl, h2⟩; obtain ⟨⟨c0, c1⟩, ⟨f0, f1⟩, hl, cl⟩ := hP.out _ h2)
      exact bodyPost_ret (v := .agg #[.int .i64 0, .bool false]) (by simp [results, Try.results26, go_sem, *]) rfl ⟨rfl, (h2.below.setCell (p := ⟨w.heap.size, 0, none⟩) (Nat.le_refl _) _).setCell (p := ⟨w.heap.size, 1, none⟩) (Nat.le_refl _) _⟩
end Go.Proofs.Ytdpcciidnkchfaa
