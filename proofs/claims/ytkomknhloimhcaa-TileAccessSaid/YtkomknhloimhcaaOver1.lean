/-
  The channel functions that Over and Mix hand to combine (contracts).
-/
import Derived.Test.YtkomknhloimhcaaMath
namespace Go.Proofs.Ytkomknhloimhcaa
open Go.RowKit

abbrev ptr (b : Nat) : Value := .pointer (some ⟨b, 0, none⟩)
/-- the variables that Over's channel function captures -/
abbrev OL (m u v : Int) (b13 bn b9 b10 b12 : Nat) : List (Nat × Obj) :=
  [(b13, vo (nf bn) 73), (bn, vo (.int .i64 (wgt u v)) 3), (b9, vo (.int .i64 u) 3), (b10, vo (.int .i64 v) 3), (b12, vo (fv m) 59)]
abbrev OC (V : World) (m u v : Int) (b13 bn b9 b10 b12 : Nat) : Prop :=
  V.cell? ⟨b13, 0, none⟩ = some (nf bn) ∧ V.cell? ⟨b9, 0, none⟩ = some (.int .i64 u) ∧ V.cell? ⟨b10, 0, none⟩ = some (.int .i64 v) ∧ V.cell? ⟨b12, 0, none⟩ = some (fv m)

set_option maxHeartbeats 8000000 in
theorem over1_any {W : World} (m u v : Int) (b13 bn b9 b10 b12 : Nat) (b s : Int) (V : World) (hu : Ch u) (hv : Ch v) (hw : 0 < wgt u v) (hb : Ch b) (hs : Ch s) (h : St W (OL m u v b13 bn b9 b10 b12) V) :
    Calls Try.prog 63 #[.int .i64 b, .int .i64 s, ptr b13, ptr b9, ptr b10, ptr b12] V fun e w' => e = .returned (.int .i64 (och m u v b s)) ∧ Below V.heap.size V w' := by
  have hm := wgt_md hu hv
  have ho := osum_parts m hu hv hb hs
  have he := fno_enters m
  obtain ⟨e0, e1, e2, e3, e4, e5, e6, e7, e8, e9⟩ := ho
  have k0 := w64m e0; have k1 := w64m e1; have k2 := w64m e2; have k3 := w64m e3; have k4 := w64m e4; have k5 := w64m e5; have k6 := w64m e6; have k7 := w64m e7; have k8 := w64m e8
  have k9 : IntKind.i64.wrap (u * (255 - v) * s + u * v * bl m b s + (255 - u) * v * b) = osum m u v b s := w64m e9
  have h0 : St V (OL m u v b13 bn b9 b10 b12) V := ⟨Below.refl _ _, h.rows⟩
  clear h
  go_enter Try.func63, Try.ntmps63
  go_upto_region 1 with fail
  have hd := h0.drew
  clear h0
  have HP : Hid (∀ X, St V (OL m u v b13 bn b9 b10 b12) X → St V (OL m u v b13 bn b9 b10 b12) X ∧ OC X m u v b13 bn b9 b10 b12) := fun X h => ⟨h, h.var (t := 73) (by simp), h.var (t := 3) (by simp), h.var (t := 3) (by simp), h.var (t := 59) (by simp)⟩
  have HN : Hid (∀ X, St V (OL m u v b13 bn b9 b10 b12) X → X.cell? ⟨bn, 0, none⟩ = some (.int .i64 (wgt u v))) := fun X h => h.var (t := 3) (by simp)
  go_region_held3 (fun X => St V (OL m u v b13 bn b9 b10 b12) X ∧ OC X m u v b13 bn b9 b10 b12) ((refine HP.out _ ?_; assumption)) (first
    | (go_at_call 89; (with_reducible refine (near1_any _ _ _ _ e9.1 ?_ hw ?_ (HN.out _ ?_)).mono ?_); (focus omega); (focus omega); (focus assumption); rintro e w4 ⟨rfl, rfl⟩)
    | ((with_reducible refine (St.call (W := V) (L := OL m u v b13 bn b9 b10 b12) ?_ (blf_any _ _ _ _ hb hs)).mono ?_); (focus assumption); rintro e w4 ⟨rfl, h4⟩))
  go_wp2_with fail
  go_ret
  exact ⟨rfl, h4.below⟩

/-- the variables that Mix's channel function captures -/
abbrev ML (P Q : Int) (b10 bn b7 b8 : Nat) : List (Nat × Obj) :=
  [(b10, vo (nf bn) 73), (bn, vo (.int .i64 (P + Q)) 3), (b7, vo (.int .i64 P) 3), (b8, vo (.int .i64 Q) 3)]
theorem near_st {W w : World} {L : List (Nat × Obj)} (h : St W L w) (d : Int) : Calls Try.prog 61 #[.int .i64 d] w fun e w' => ∃ b, e = .returned (.func (.func 89) #[] #[.pointer (some ⟨b, 0, none⟩)]) ∧ St W ((b, vo (.int .i64 d) 3) :: L) w' :=
  (near_any d w).mono fun _ _ ⟨h1, h2⟩ => ⟨w.heap.size, h1, h2 ▸ h.alloc _⟩
end Go.Proofs.Ytkomknhloimhcaa
