/-
  The predictors: what they predict from three neighbours (contracts of the functions in the table of rules).
-/
import Derived.Test.YtjaipjgnchpjcaaTOps
namespace Go.Proofs.Ytjaipjgnchpjcaa.P
open Go.RowKit T

def dst (t v : Int) : Int := max (v - t) (t - v)
/-- the nearer of two values, the first one if they are equally near -/
def nr (t b v : Int) : Int := if dst t v < dst t b then v else b
def pth (l u c : Int) : Int := nr (l + u - c) (nr (l + u - c) l u) c
def med (l u c : Int) : Int := if max l u ≤ c then min l u else if c ≤ min l u then max l u else l + u - c
/-- what predictor k predicts -/
def prd (k : Nat) (l u c : Int) : Int := match k with
  | 0 => 0 | 1 => l | 2 => u | 3 => (l + u) / 2 | 4 => pth l u c | _ => med l u c
/-- its function -/
def rf (k : Nat) : FuncId := match k with
  | 0 => 31 | 1 => 32 | 2 => 33 | 3 => 34 | 4 => 35 | _ => 36
theorem r1_any (l u c : Int) (w : World) : Calls Try.prog 31 #[.int .i64 l, .int .i64 u, .int .i64 c] w fun e w' => e = .returned (.int .i64 0) ∧ w = w' := by
  go_enter Try.func31, Try.ntmps31
  go_wp2
  go_ret
  exact ⟨rfl, rfl⟩
theorem r2_any (l u c : Int) (w : World) : Calls Try.prog 32 #[.int .i64 l, .int .i64 u, .int .i64 c] w fun e w' => e = .returned (.int .i64 l) ∧ w = w' := by
  go_enter Try.func32, Try.ntmps32
  go_wp2
  go_ret
  exact ⟨rfl, rfl⟩
theorem r3_any (l u c : Int) (w : World) : Calls Try.prog 33 #[.int .i64 l, .int .i64 u, .int .i64 c] w fun e w' => e = .returned (.int .i64 u) ∧ w = w' := by
  go_enter Try.func33, Try.ntmps33
  go_wp2
  go_ret
  exact ⟨rfl, rfl⟩
theorem r4_any (l u c : Int) (w : World) (hl : Ch l) (hu : Ch u) : Calls Try.prog 34 #[.int .i64 l, .int .i64 u, .int .i64 c] w fun e w' => e = .returned (.int .i64 ((l + u) / 2)) ∧ w = w' := by
  go_enter Try.func34, Try.ntmps34
  go_wp2
  go_ret
  exact ⟨rfl, rfl⟩
theorem med_any (l u c : Int) (w : World) (hl : Ch l) (hu : Ch u) (hc : Ch c) : Calls Try.prog 36 #[.int .i64 l, .int .i64 u, .int .i64 c] w fun e w' => e = .returned (.int .i64 (med l u c)) ∧ w = w' := by
  go_enter Try.func36, Try.ntmps36
  go_wp2
  all_goals go_ret
  all_goals refine ⟨ret_int ?_, rfl⟩
  all_goals unfold med
  all_goals (repeat' split at *)
  all_goals omega
theorem dst_any (t v : Int) (b : Nat) (w : World) (ht : -255 ≤ t ∧ t ≤ 510) (hv : Ch v) (hb : w.heap[b]? = some (vo (.int .i64 t) 3)) : Calls Try.prog 41 #[.int .i64 v, .pointer (some ⟨b, 0, none⟩)] w fun e w' => e = .returned (.int .i64 (dst t v)) ∧ w = w' := by
  have hc : w.cell? ⟨b, 0, none⟩ = some (.int .i64 t) := cell_of_row _ _ 0 _ _ _ hb
  go_enter Try.func41, Try.ntmps41
  go_wp2
  all_goals go_ret
  all_goals refine ⟨ret_int ?_, rfl⟩
  all_goals unfold dst
  all_goals omega
abbrev two (u c : Int) : Obj := .cells #[.int .i64 u, .int .i64 c] 3
theorem nr_ch {t a b : Int} (ha : Ch a) (hb : Ch b) : Ch (nr t a b) := by unfold nr; split <;> assumption
theorem dst_bd {t v : Int} (ht : -255 ≤ t ∧ t ≤ 510) (hv : Ch v) : 0 ≤ dst t v ∧ dst t v ≤ 1000 := by unfold Ch at hv; unfold dst; constructor <;> omega
set_option maxHeartbeats 1000000 in
theorem nearest_any (t l u c : Int) (s : Nat) (w : World) (ht : -255 ≤ t ∧ t ≤ 510) (hl : Ch l) (hu : Ch u) (hc : Ch c) (hs : w.heap[s]? = some (two u c)) :
    Calls Try.prog 38 #[.int .i64 t, .int .i64 l, .slice (some ⟨s, 0, none⟩) 2 2] w fun e w' => e = .returned (.int .i64 (nr t (nr t l u) c)) ∧ Below w.heap.size w w' := by
  have h0 := (St.start w).alloc (vo (.int .i64 t) 3)
  have hs0 : (w.alloc (vo (.int .i64 t) 3)).heap[s]? = some (two u c) := old_row hs below1
  have HD : Hid (∀ V v, w.heap.size < V.heap.size → Ch v → V.heap[w.heap.size]? = some (vo (.int .i64 t) 3) → Calls Try.prog 41 #[.int .i64 v, .pointer (some ⟨w.heap.size, 0, none⟩)] V fun e w' => e = .returned (.int .i64 (dst t v)) ∧ V = w') := fun V v _ hv hb => dst_any t v _ V ht hv hb
  go_enter Try.func38, Try.ntmps38
  go_upto_region 3 with fail
  generalize w.alloc (vo (.int .i64 t) 3) = w1 at h0 hs0 ⊢
  go_wp2
  have h1 := h0.row (b := w.heap.size) (o := vo (.int .i64 t) 3) (by simp)
  have hz := h0.lt (b := w.heap.size) (o := vo (.int .i64 t) 3) (by simp)
  have HD1 : Hid (∀ v, Ch v → Calls Try.prog 41 #[.int .i64 v, .pointer (some ⟨w.heap.size, 0, none⟩)] w1 fun e w' => e = .returned (.int .i64 (dst t v)) ∧ w1 = w') := fun v hv => HD.out _ v hz hv h1
  have c0 : w1.cell? ⟨s, 0, none⟩ = some (.int .i64 u) := cell_of_row _ _ 0 _ _ _ hs0
  have c1 : w1.cell? ⟨s, 1, none⟩ = some (.int .i64 c) := cell_of_row _ _ 1 _ _ _ hs0
  have HB := Lib.hid h0.below
  have hn1 : Ch (nr t l u) := nr_ch hl hu
  clear HD h0 hs0 hs h1 hz
  go_loopw [8, 15] (fun b i wr => ((i = .int .i64 0 ∧ b = .int .i64 l) ∨ (i = .int .i64 1 ∧ b = .int .i64 (nr t l u)) ∨ (i = .int .i64 2 ∧ b = .int .i64 (nr t (nr t l u) c))) ∧ wr = w1) (fun _ i _ => 2 - (intOf i).toNat)
  case atStart => exact ⟨.inl ⟨rfl, rfl⟩, rfl⟩
  case round =>
    rcases hrel with ⟨⟨rfl, rfl⟩ | ⟨rfl, rfl⟩ | ⟨rfl, rfl⟩, rfl⟩
    · by_cases hd : dst t u < dst t l
      · have hn : nr t l u = u := if_pos hd
        go_wp2_with (go_at_call 41; refine (HD1.out _ (by first | assumption | exact nr_ch (by assumption) (by assumption))).mono ?_; rintro e w4 ⟨rfl, rfl⟩)
        go_roundw
        case rel => exact ⟨.inr (.inl ⟨by first | rfl | trivial, by rw [hn]⟩), by first | rfl | trivial⟩
        case measure => simp [intOf]
      · have hn : nr t l u = l := if_neg hd
        go_wp2_with (go_at_call 41; refine (HD1.out _ (by first | assumption | exact nr_ch (by assumption) (by assumption))).mono ?_; rintro e w4 ⟨rfl, rfl⟩)
        go_roundw
        case rel => exact ⟨.inr (.inl ⟨by first | rfl | trivial, by rw [hn]⟩), by first | rfl | trivial⟩
        case measure => simp [intOf]
    · by_cases hd : dst t c < dst t (nr t l u)
      · have hn : nr t (nr t l u) c = c := if_pos hd
        go_wp2_with (go_at_call 41; refine (HD1.out _ (by first | assumption | exact nr_ch (by assumption) (by assumption))).mono ?_; rintro e w4 ⟨rfl, rfl⟩)
        go_roundw
        case rel => exact ⟨.inr (.inr ⟨by first | rfl | trivial, by rw [hn]⟩), by first | rfl | trivial⟩
        case measure => simp [intOf]
      · have hn : nr t (nr t l u) c = nr t l u := if_neg hd
        go_wp2_with (go_at_call 41; refine (HD1.out _ (by first | assumption | exact nr_ch (by assumption) (by assumption))).mono ?_; rintro e w4 ⟨rfl, rfl⟩)
        go_roundw
        case rel => exact ⟨.inr (.inr ⟨by first | rfl | trivial, by rw [hn]⟩), by first | rfl | trivial⟩
        case measure => simp [intOf]
    · go_wp2
      go_ret
      exact ⟨rfl, HB.out⟩
theorem pth_any (l u c : Int) (w : World) (hl : Ch l) (hu : Ch u) (hc : Ch c) : Calls Try.prog 35 #[.int .i64 l, .int .i64 u, .int .i64 c] w fun e w' => e = .returned (.int .i64 (pth l u c)) ∧ Below w.heap.size w w' := by
  have hn := World.alloc_heap_new w (two u c)
  have HN : Hid (Calls Try.prog 38 #[.int .i64 (l + u - c), .int .i64 l, .slice (some ⟨w.heap.size, 0, none⟩) 2 2] (w.alloc (two u c)) fun e w' => e = .returned (.int .i64 (pth l u c)) ∧ Below w.heap.size w w') :=
    (nearest_any (l + u - c) l u c _ _ (by unfold Ch at *; omega) hl hu hc hn).mono fun e w' ⟨h1, h2⟩ => ⟨h1, below1.trans (h2.mono (by simp))⟩
  clear hn
  go_enter Try.func35, Try.ntmps35
  go_wp2_with (go_at_call 38; refine HN.out.mono ?_; rintro e w4 ⟨rfl, h4⟩)
  go_ret
  exact ⟨rfl, h4⟩
theorem rule_any (k : Nat) (l u c : Int) (w : World) (hl : Ch l) (hu : Ch u) (hc : Ch c) : Calls Try.prog (rf k) #[.int .i64 l, .int .i64 u, .int .i64 c] w fun e w' => e = .returned (.int .i64 (prd k l u c)) ∧ Below w.heap.size w w' := by
  have q : ∀ {f : FuncId} {v : Value}, (Calls Try.prog f #[.int .i64 l, .int .i64 u, .int .i64 c] w fun e w' => e = .returned v ∧ w = w') → Calls Try.prog f #[.int .i64 l, .int .i64 u, .int .i64 c] w fun e w' => e = .returned v ∧ Below w.heap.size w w' :=
    fun h => h.mono fun e w' ⟨h1, h2⟩ => ⟨h1, h2 ▸ Below.refl _ _⟩
  match k with
  | 0 => exact q (r1_any l u c w)
  | 1 => exact q (r2_any l u c w)
  | 2 => exact q (r3_any l u c w)
  | 3 => exact q (r4_any l u c w hl hu)
  | 4 => exact pth_any l u c w hl hu hc
  | k + 5 => exact q (med_any l u c w hl hu hc)
theorem rf_enters (k : Nat) : ∀ args w, (callFunc (rf k) args).run Try.prog w = .ok (.enter (rf k) args) w := by
  match k with
  | 0 => exact enters_of Try.func31 (by kernel_rfl) rfl
  | 1 => exact enters_of Try.func32 (by kernel_rfl) rfl
  | 2 => exact enters_of Try.func33 (by kernel_rfl) rfl
  | 3 => exact enters_of Try.func34 (by kernel_rfl) rfl
  | 4 => exact enters_of Try.func35 (by kernel_rfl) rfl
  | k + 5 => exact enters_of Try.func36 (by kernel_rfl) rfl
end Go.Proofs.Ytjaipjgnchpjcaa.P
