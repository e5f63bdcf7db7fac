/-
  byOffset: the axes by decreasing offset; slices.SortStableFunc at three numbers.
-/
import Derived.Test.YtcmplgiilcfncaaKClipF
import Derived.BigRegion
namespace Go.Proofs.Ytcmplgiilcfncaa.K
open Go.RowKit
variable {W w w' : World} {L : List (Nat × Obj)}

theorem compare_any (a b : Int) (w : World) : Calls Try.prog 49 #[.int .i64 a, .int .i64 b] w fun e w' => e = .returned (.int .i64 (cmpI a b)) ∧ w = w' := by
  go_enter Try.func49, Try.ntmps49
  go_wp2_with (go_at_call 63; (with_reducible refine (nan_any _ _).mono ?_); rintro e w' ⟨rfl, rfl⟩)
  all_goals go_ret
  all_goals exact ⟨ret_int (by first | (simp [cmpI, *]; done) | (unfold cmpI; (repeat' split) <;> omega)), rfl⟩
/-- three numbers in memory -/
abbrev tri (a b c : Int) : Obj := .cells #[.int .i64 a, .int .i64 b, .int .i64 c] 24
def f3 (x y z : Int) : Nat → Int
  | 0 => x
  | 1 => y
  | _ => z
theorem cb_at {b : Nat} {x y z : Int} (h : CB w b x y z) {k : Nat} (hk : k < 3) : w.cell? ⟨b, k, none⟩ = some (.int .i64 (f3 x y z k)) := by
  rcases (by omega : k = 0 ∨ k = 1 ∨ k = 2) with rfl | rfl | rfl
  · exact h.1
  · exact h.2.1
  · exact h.2.2
theorem cmp1_any (a b g : Nat) (x y z : Int) (w : World) (ha : a < 3) (hb : b < 3) (h : CB w g x y z) :
    Calls Try.prog 48 (#[.int .i64 a, .int .i64 b] ++ #[.pointer (some ⟨g, 0, none⟩)]) w fun e w' => e = .returned (.int .i64 (cmpI (f3 x y z b) (f3 x y z a))) ∧ ∃ m, w' = w.drewN m := by
  have ca := cb_at h ha
  have cb := cb_at h hb
  have HC : Hid (∀ V, Calls Try.prog 49 #[.int .i64 (f3 x y z b), .int .i64 (f3 x y z a)] V fun e w' => e = .returned (.int .i64 (cmpI (f3 x y z b) (f3 x y z a))) ∧ V = w') := fun V => compare_any _ _ V
  generalize f3 x y z b = p at cb HC ⊢
  generalize f3 x y z a = q at ca HC ⊢
  generalize cmpI p q = r at HC ⊢
  have q1 : (0 : Int) ≤ a := by omega
  have q2 : (a : Int) < 3 := by omega
  have q3 : (0 : Int) ≤ b := by omega
  have q4 : (b : Int) < 3 := by omega
  clear h
  have key : Calls Try.prog 48 #[.int .i64 a, .int .i64 b, .pointer (some ⟨g, 0, none⟩)] w fun e w' => e = .returned (.int .i64 r) ∧ ∃ m, w' = w.drewN m := by
    go_enter Try.func48, Try.ntmps48
    go_upto_region 1 with fail
    go_quiet ((go_at_call 49; exact Calls.quiet_of_same ((HC.out _).mono fun _ _ ⟨h, h'⟩ => ⟨h, h'.symm⟩)))
    go_wp2_with fail
    go_ret
    exact ⟨rfl, _, rfl⟩
  exact key
/-- the inner loop of the insertion sort at three numbers below three -/
structure T3 where (a b c : Nat)
abbrev T3.o (t : T3) : Obj := tri t.a t.b t.c
def T3.ok (t : T3) : Prop := t.a < 3 ∧ t.b < 3 ∧ t.c < 3
def ins1 (f : Nat → Int) (t : T3) : T3 := if f t.a < f t.b then ⟨t.b, t.a, t.c⟩ else t
def ins2 (f : Nat → Int) (t : T3) : T3 := if f t.b < f t.c then ins1 f ⟨t.a, t.c, t.b⟩ else t
def insI (f : Nat → Int) : Nat → T3 → T3
  | 0, t => t
  | 1, t => ins1 f t
  | _, t => ins2 f t
def insO (f : Nat → Int) : Nat → T3
  | 0 => ⟨0, 1, 2⟩
  | 1 => ⟨0, 1, 2⟩
  | 2 => ins1 f ⟨0, 1, 2⟩
  | _ => ins2 f (ins1 f ⟨0, 1, 2⟩)
theorem insO_succ (f : Nat → Int) {i : Nat} (h1 : 1 ≤ i) (h2 : i < 3) : insO f (i + 1) = insI f i (insO f i) := by
  rcases (by omega : i = 1 ∨ i = 2) with rfl | rfl <;> rfl
theorem ins1_ok {f : Nat → Int} {t : T3} (h : t.ok) : (ins1 f t).ok := by
  unfold ins1; split
  · exact ⟨h.2.1, h.1, h.2.2⟩
  · exact h
theorem cmpI_neg (p q : Int) : decide (cmpI p q < 0) = decide (p < q) := by
  unfold cmpI
  (repeat' split) <;> simp <;> omega
set_option maxRecDepth 100000 in
set_option maxHeartbeats 8000000 in
theorem ins_any (g d : Nat) (x y z : Int) (w : World) (hs : St W ((d, tri 0 1 2) :: (g, tri x y z) :: L) w) (hd : W.heap.size ≤ d) (hall : ∀ q ∈ (g, tri x y z) :: L, q.1 ≠ d) :
    Calls Try.prog 72 #[.slice (some ⟨d, 0, none⟩) 3 3, .int .i64 0, .int .i64 3, .func (.func 48) #[] #[.pointer (some ⟨g, 0, none⟩)]] w
      fun e w' => e = .returned (.tuple #[]) ∧ St W ((d, (insO (f3 x y z) 3).o) :: (g, tri x y z) :: L) w' := by
  have ef := enters_of Try.func48 (by kernel_rfl) rfl
  have HS := Lib.hid hs; clear hs
  go_enter Try.func72, Try.ntmps72
  go_upto_region 1 with fail
  go_loopw [8] (fun v8 wr => ∃ i : Nat, 1 ≤ i ∧ i ≤ 3 ∧ v8 = .int .i64 i ∧ Hid (∃ t : T3, t = insO (f3 x y z) i ∧ t.ok ∧ St W ((d, t.o) :: (g, tri x y z) :: L) wr)) (fun i _ => 3 - (intOf i).toNat)
  case atStart => exact ⟨1, by omega, by omega, rfl, ⟨0, 1, 2⟩, rfl, ⟨by decide, by decide, by decide⟩, HS.out⟩
  case round =>
    obtain ⟨i, hi1, hi, rfl, HT⟩ := hrel
    by_cases hlt : i < 3
    · go_upto_region 4 with fail
      go_loopw [9] (fun v9 wr => ∃ j : Nat, j ≤ i ∧ v9 = .int .i64 j ∧ Hid (∃ t : T3, insI (f3 x y z) j t = insO (f3 x y z) (i + 1) ∧ t.ok ∧ St W ((d, t.o) :: (g, tri x y z) :: L) wr)) (fun i _ => (intOf i).toNat)
      case atStart =>
        obtain ⟨t, ht, hok, hst⟩ := HT.out
        exact ⟨i, Nat.le_refl _, rfl, t, by rw [ht]; exact (insO_succ _ hi1 hlt).symm, hok, hst⟩
      case round =>
        obtain ⟨j, hj, rfl, HJ⟩ := hrel
        obtain ⟨t, ht, hok, hst⟩ := HJ.out
        clear HT
        rcases (by omega : j = 0 ∨ j = 1 ∨ j = 2) with rfl | rfl | rfl
        · have HT2 : Hid (t = insO (f3 x y z) (i + 1)) := ht
          go_upto_region 4 with fail
          go_quiet (fail)
          have h2 := hst.drewN nq
          generalize wr.drewN nq = w2 at h2 ⊢
          have H2 := Lib.hid h2
          clear hst h2 ht HJ
          go_wp2_with fail
          go_roundw
          case rel => exact ⟨i + 1, by omega, by omega, by go_num, t, HT2.out, hok, H2.out⟩
          case measure => simp [intOf]; omega
        · have HC : Hid (∀ q, Calls Try.prog 48 #[.int .i64 (t.b : Nat), .int .i64 (t.a : Nat), .pointer (some ⟨g, 0, none⟩)] (wr.drewN q) fun e w' => e = .returned (.int .i64 (cmpI (f3 x y z t.a) (f3 x y z t.b))) ∧ ∃ m, w' = (wr.drewN q).drewN m) := fun q =>
            cmp1_any t.b t.a g x y z _ hok.2.1 hok.1 ((hst.drewN q).col (t := 24) (by simp))
          have hz := cmpI_neg (f3 x y z t.a) (f3 x y z t.b)
          have hI : Hid (insI (f3 x y z) 1 t = if f3 x y z t.a < f3 x y z t.b then insI (f3 x y z) 0 ⟨t.b, t.a, t.c⟩ else t) := rfl
          generalize cmpI (f3 x y z t.a) (f3 x y z t.b) = r at HC hz
          obtain ⟨c0, c1, c2⟩ := hst.col (b := d) (x := t.a) (y := t.b) (z := t.c) (t := 24) (by simp)
          go_upto_region 4 with fail
          go_quiet ((go_at_call 48; exact Calls.quiet_of (HC.out _)))
          have h2 := hst.drewN nq
          generalize wr.drewN nq = w2 at h2 ⊢
          clear HC hst c0 c1 c2
          cases hdz : decide (f3 x y z t.a < f3 x y z t.b)
          · have HT2 : Hid (t = insO (f3 x y z) (i + 1)) := by
              unfold Hid; rw [← ht, hI.out, if_neg (by simpa using hdz)]
            have H2 := Lib.hid h2
            clear h2 ht HJ hI hdz hz
            go_wp2_with fail
            go_roundw
            case rel => exact ⟨i + 1, by omega, by omega, by go_num, t, HT2.out, hok, H2.out⟩
            case measure => simp [intOf]; omega
          · have HT2 : Hid (insI (f3 x y z) 0 ⟨t.b, t.a, t.c⟩ = insO (f3 x y z) (i + 1)) := by
              unfold Hid; rw [← ht, hI.out, if_pos (by simpa using hdz)]
            clear ht HJ hI hdz hz
            obtain ⟨c0, c1, c2⟩ := h2.col (b := d) (x := t.a) (y := t.b) (z := t.c) (t := 24) (by simp)
            obtain ⟨e0, e1, e2⟩ := h2.fro (b := d) (cs := #[.int .i64 t.a, .int .i64 t.b, .int .i64 t.c]) (t := 24) (by simp)
            go_upto_region 6 with fail
            go_big_region
            have h3 : St W ((d, (T3.mk t.b t.a t.c).o) :: (g, tri x y z) :: L) (((w2.setCell ⟨d, 1, none⟩ (.int .i64 (t.a : Nat))).setCell ⟨d, 0, none⟩ (.int .i64 (t.b : Nat))).drew) := ((h2.put1 hd hall).put0 hd hall).drew
            generalize ((w2.setCell ⟨d, 1, none⟩ (.int .i64 (t.a : Nat))).setCell ⟨d, 0, none⟩ (.int .i64 (t.b : Nat))).drew = w3 at h3 ⊢
            have H3 := Lib.hid h3
            clear h3 h2 c0 c1 c2 e0 e1 e2
            go_wp2_with fail
            go_roundw
            case rel => exact ⟨0, by omega, by go_num, ⟨t.b, t.a, t.c⟩, HT2.out, ⟨hok.2.1, hok.1, hok.2.2⟩, H3.out⟩
            case measure => simp [intOf]
        · have HC : Hid (∀ q, Calls Try.prog 48 #[.int .i64 (t.c : Nat), .int .i64 (t.b : Nat), .pointer (some ⟨g, 0, none⟩)] (wr.drewN q) fun e w' => e = .returned (.int .i64 (cmpI (f3 x y z t.b) (f3 x y z t.c))) ∧ ∃ m, w' = (wr.drewN q).drewN m) := fun q =>
            cmp1_any t.c t.b g x y z _ hok.2.2 hok.2.1 ((hst.drewN q).col (t := 24) (by simp))
          have hz := cmpI_neg (f3 x y z t.b) (f3 x y z t.c)
          have hI : Hid (insI (f3 x y z) 2 t = if f3 x y z t.b < f3 x y z t.c then insI (f3 x y z) 1 ⟨t.a, t.c, t.b⟩ else t) := rfl
          generalize cmpI (f3 x y z t.b) (f3 x y z t.c) = r at HC hz
          obtain ⟨c0, c1, c2⟩ := hst.col (b := d) (x := t.a) (y := t.b) (z := t.c) (t := 24) (by simp)
          go_upto_region 4 with fail
          go_quiet ((go_at_call 48; exact Calls.quiet_of (HC.out _)))
          have h2 := hst.drewN nq
          generalize wr.drewN nq = w2 at h2 ⊢
          clear HC hst c0 c1 c2
          cases hdz : decide (f3 x y z t.b < f3 x y z t.c)
          · have HT2 : Hid (t = insO (f3 x y z) (i + 1)) := by
              unfold Hid; rw [← ht, hI.out, if_neg (by simpa using hdz)]
            have H2 := Lib.hid h2
            clear h2 ht HJ hI hdz hz
            go_wp2_with fail
            go_roundw
            case rel => exact ⟨i + 1, by omega, by omega, by go_num, t, HT2.out, hok, H2.out⟩
            case measure => simp [intOf]; omega
          · have HT2 : Hid (insI (f3 x y z) 1 ⟨t.a, t.c, t.b⟩ = insO (f3 x y z) (i + 1)) := by
              unfold Hid; rw [← ht, hI.out, if_pos (by simpa using hdz)]
            clear ht HJ hI hdz hz
            obtain ⟨c0, c1, c2⟩ := h2.col (b := d) (x := t.a) (y := t.b) (z := t.c) (t := 24) (by simp)
            obtain ⟨e0, e1, e2⟩ := h2.fro (b := d) (cs := #[.int .i64 t.a, .int .i64 t.b, .int .i64 t.c]) (t := 24) (by simp)
            go_upto_region 6 with fail
            go_big_region
            have h3 : St W ((d, (T3.mk t.a t.c t.b).o) :: (g, tri x y z) :: L) (((w2.setCell ⟨d, 2, none⟩ (.int .i64 (t.b : Nat))).setCell ⟨d, 1, none⟩ (.int .i64 (t.c : Nat))).drew) := ((h2.put2 hd hall).put1 hd hall).drew
            generalize ((w2.setCell ⟨d, 2, none⟩ (.int .i64 (t.b : Nat))).setCell ⟨d, 1, none⟩ (.int .i64 (t.c : Nat))).drew = w3 at h3 ⊢
            have H3 := Lib.hid h3
            clear h3 h2 c0 c1 c2 e0 e1 e2
            go_wp2_with fail
            go_roundw
            case rel => exact ⟨1, by omega, by go_num, ⟨t.a, t.c, t.b⟩, HT2.out, ⟨hok.1, hok.2.2, hok.2.1⟩, H3.out⟩
            case measure => simp [intOf]
    · obtain rfl : i = 3 := by omega
      obtain ⟨t, ht, hok, hst⟩ := HT.out
      rw [ht] at hst
      have H3 := Lib.hid hst
      clear HT hst ht ef
      go_wp2_with fail
      go_end0
      exact ⟨rfl, H3.out⟩
set_option maxRecDepth 100000 in
set_option maxHeartbeats 4000000 in
theorem stable_any (g d : Nat) (x y z : Int) (w : World) (hs : St W ((d, tri 0 1 2) :: (g, tri x y z) :: L) w) (hd : W.heap.size ≤ d) (hall : ∀ q ∈ (g, tri x y z) :: L, q.1 ≠ d) :
    Calls Try.prog 62 #[.slice (some ⟨d, 0, none⟩) 3 3, .int .i64 3, .func (.func 48) #[] #[.pointer (some ⟨g, 0, none⟩)]] w
      fun e w' => e = .returned (.tuple #[]) ∧ St W ((d, (insO (f3 x y z) 3).o) :: (g, tri x y z) :: L) w' := by
  have HI := Lib.hid (fun V h => ins_any (W := W) (L := L) g d x y z V h hd hall)
  have HS := Lib.hid hs
  clear hs hd hall
  go_enter Try.func62, Try.ntmps62
  go_upto_region 2 with fail
  go_loopw [7, 8] (fun v7 v8 wr => v7 = .int .i64 0 ∧ v8 = .int .i64 20 ∧ Hid (St W ((d, tri 0 1 2) :: (g, tri x y z) :: L) wr)) (fun _ _ _ => 0)
  case atStart => exact ⟨rfl, rfl, HS.out⟩
  case round =>
    obtain ⟨rfl, rfl, HT⟩ := hrel
    go_upto_region 7 with (go_at_call 72; (refine (HI.out _ HT.out).mono ?_); rintro e w2 ⟨rfl, h2⟩)
    have H2 := Lib.hid h2
    clear h2 HT HS HI
    go_loopw [6] (fun v6 wr => v6 = .int .i64 20 ∧ Hid (St W ((d, (insO (f3 x y z) 3).o) :: (g, tri x y z) :: L) wr)) (fun _ _ => 0)
    case atStart => exact ⟨rfl, H2.out⟩
    case round =>
      obtain ⟨rfl, HT⟩ := hrel
      go_wp2_with fail
      go_end0
      exact ⟨rfl, HT.out⟩
theorem sortf_any (g d : Nat) (x y z : Int) (w : World) (hs : St W ((d, tri 0 1 2) :: (g, tri x y z) :: L) w) (hd : W.heap.size ≤ d) (hall : ∀ q ∈ (g, tri x y z) :: L, q.1 ≠ d) :
    Calls Try.prog 47 #[.slice (some ⟨d, 0, none⟩) 3 3, .func (.func 48) #[] #[.pointer (some ⟨g, 0, none⟩)]] w
      fun e w' => e = .returned (.tuple #[]) ∧ St W ((d, (insO (f3 x y z) 3).o) :: (g, tri x y z) :: L) w' := by
  have HI := Lib.hid (stable_any (W := W) (L := L) g d x y z w hs hd hall)
  clear hs hd hall
  go_enter Try.func47, Try.ntmps47
  go_wp2_with (go_at_call 62; (refine HI.out.mono ?_); rintro e w2 ⟨rfl, h2⟩)
  go_end0
  exact ⟨rfl, h2⟩
set_option maxRecDepth 100000 in
theorem byOff_any (x y z : Int) (w : World) : Calls Try.prog 32 #[ag x y z] w fun e w' => e = .returned (ag (insO (f3 x y z) 3).a (insO (f3 x y z) 3).b (insO (f3 x y z) 3).c) ∧ Below w.heap.size w w' := by
  go_enter Try.func32, Try.ntmps32
  go_upto_region 2 with fail
  have hs := (((St.start w).alloc (tri x y z)).alloc (tri 0 0 0)).alloc (tri 0 1 2)
  simp only [World.size_alloc] at hs
  generalize ((w.alloc (tri x y z)).alloc (tri 0 0 0)).alloc (tri 0 1 2) = w1 at hs ⊢
  generalize hb : w.heap.size = b at hs ⊢
  have hs2 : St w ((b + 1 + 1, tri 0 1 2) :: (b, tri x y z) :: [(b + 1, tri 0 0 0)]) w1 := hs.sub (by intro z hz; simp at hz ⊢; rcases hz with h | h | h <;> simp [h])
  have HI := Lib.hid (sortf_any (W := w) (L := [(b + 1, tri 0 0 0)]) b (b + 1 + 1) x y z w1 hs2 (by omega) (by simp; omega))
  obtain ⟨t, ht⟩ : ∃ t, insO (f3 x y z) 3 = t := ⟨_, rfl⟩
  rw [ht] at HI
  have HE := Lib.hid ht
  clear ht hs hs2
  go_upto_region 3 with (go_at_call 47; (refine HI.out.mono ?_); rintro e w2 ⟨rfl, h2⟩)
  obtain ⟨l0, l1, l2⟩ := h2.col (b := b + 1 + 1) (x := t.a) (y := t.b) (z := t.c) (t := 24) (by simp)
  obtain ⟨⟨m0, m1, m2⟩, f0, f1, f2⟩ := St.out3 h2 (b := b + 1) (t := 24) (by simp)
  have hb2 := h2.below
  clear h2 HI
  go_wp2_with fail
  subst hb
  exact bodyPost_ret (v := ag t.a t.b t.c) (by simp [results, Try.results32, go_sem, *]) rfl ⟨by rw [HE.out], below_set3 hb2 (by omega) _ _ _⟩
end Go.Proofs.Ytcmplgiilcfncaa.K
