/-
  The channel functions that Over and Mix hand to combine (contracts). Over (contract). The statements' own 'sanity' returns true: the chapter's examples. Where Over and Mix are identities: the plain equations. A Mean's Add, of pixel and of the reference (contracts).
-/
import Derived.Test.YtfncldaodbfakaaGreatPure
import Derived.Laws.EntriesVeiled
namespace Go.Proofs.YtfncldaodbfakaaGreat
open Go.RowKit

abbrev ptr (b : Nat) : Value := .pointer (some ⟨b, 0, none⟩)
/-- the variables that Mix's channel function captures -/
abbrev ML (P Q : Int) (b10 bn b7 b8 : Nat) : List (Nat × Obj) :=
  [(b10, vo (nf bn) 144), (bn, vo (.int .i64 (P + Q)) 3), (b7, vo (.int .i64 P) 3), (b8, vo (.int .i64 Q) 3)]
theorem near_st {W w : World} {L : List (Nat × Obj)} (h : St W L w) (d : Int) : Calls Tryz.prog 161 #[.int .i64 d] w fun e w' => ∃ b, e = .returned (.func (.func 192) #[] #[.pointer (some ⟨b, 0, none⟩)]) ∧ St W ((b, vo (.int .i64 d) 3) :: L) w' :=
  (near_any d w).mono fun _ _ ⟨h1, h2⟩ => ⟨w.heap.size, h1, h2 ▸ h.alloc _⟩
end Go.Proofs.YtfncldaodbfakaaGreat

namespace Go.Proofs.YtfncldaodbfakaaGreat
open Go.RowKit

section
variable {W w : World} {L : List (Nat × Obj)} {x y z : Value} {t : TypeId}
theorem fin1 (h : St W L w) : St W ((w.heap.size, vo x t) :: (w.heap.size + 1, vo y t) :: L) ((w.alloc (vo x t)).alloc (vo y t)) := by
  have h1 := (h.alloc (vo x t)).alloc (vo y t)
  rw [World.size_alloc] at h1
  exact h1.sub (fun x hx => by simp only [List.mem_cons] at hx ⊢; rcases hx with h | h | h <;> simp [h])
theorem fin2 (h : St W L w) : St W ((w.heap.size + 1, vo x t) :: (w.heap.size, vo y t) :: L) ((w.alloc (vo y t)).alloc (vo x t)) := by
  have h1 := (h.alloc (vo y t)).alloc (vo x t)
  rw [World.size_alloc] at h1
  exact h1
theorem fin3 {b : Nat} (h : St W ((b, vo z t) :: L) w) (hb : W.heap.size ≤ b) (hL : ∀ x ∈ L, x.1 ≠ b) : St W ((b, vo x t) :: (w.heap.size, vo y t) :: L) ((w.setCell ⟨b, 0, none⟩ x).alloc (vo y t)) := by
  have h1 : St W ((b, vo x t) :: L) (w.setCell ⟨b, 0, none⟩ x) := h.put (j := 0) (v := x) hb hL
  have h2 := h1.alloc (vo y t)
  rw [show (w.setCell ⟨b, 0, none⟩ x).heap.size = w.heap.size by simp] at h2
  exact h2.sub (fun x hx => by simp only [List.mem_cons] at hx ⊢; rcases hx with h | h | h <;> simp [h])
theorem fin5 {b : Nat} (h : St W ((b, vo z t) :: L) w) (hb : W.heap.size ≤ b) (hL : ∀ x ∈ L, x.1 ≠ b) : St W ((w.heap.size, vo x t) :: (b, vo y t) :: L) ((w.setCell ⟨b, 0, none⟩ y).alloc (vo x t)) := by
  have h1 : St W ((b, vo y t) :: L) (w.setCell ⟨b, 0, none⟩ y) := h.put (j := 0) (v := y) hb hL
  have h2 := h1.alloc (vo x t)
  rw [show (w.setCell ⟨b, 0, none⟩ y).heap.size = w.heap.size by simp] at h2
  exact h2
theorem fin4 {b c : Nat} (h : St W ((c, vo z t) :: (b, vo z t) :: L) w) (hc : W.heap.size ≤ c) (hb : W.heap.size ≤ b) (hcb : b ≠ c) (hL : ∀ x ∈ L, x.1 ≠ b) (hL' : ∀ x ∈ L, x.1 ≠ c) : St W ((b, vo x t) :: (c, vo y t) :: L) ((w.setCell ⟨b, 0, none⟩ x).setCell ⟨c, 0, none⟩ y) := by
  have h0 : St W ((b, vo z t) :: (c, vo z t) :: L) w := h.sub (fun x hx => by simp only [List.mem_cons] at hx ⊢; rcases hx with h | h | h <;> simp [h])
  have h1 : St W ((b, vo x t) :: (c, vo z t) :: L) (w.setCell ⟨b, 0, none⟩ x) := h0.put (j := 0) (v := x) hb (fun x hx => by rcases List.mem_cons.1 hx with rfl | hx; exact (fun e => hcb e.symm); exact hL x hx)
  have h2 : St W ((c, vo z t) :: (b, vo x t) :: L) (w.setCell ⟨b, 0, none⟩ x) := h1.sub (fun x hx => by simp only [List.mem_cons] at hx ⊢; rcases hx with h | h | h <;> simp [h])
  have h3 : St W ((c, vo y t) :: (b, vo x t) :: L) ((w.setCell ⟨b, 0, none⟩ x).setCell ⟨c, 0, none⟩ y) := h2.put (j := 0) (v := y) hc (fun x hx => by rcases List.mem_cons.1 hx with rfl | hx; exact hcb; exact hL' x hx)
  exact h3.sub (fun x hx => by simp only [List.mem_cons] at hx ⊢; rcases hx with h | h | h <;> simp [h])
theorem fin6 {b c : Nat} (h : St W ((c, vo z t) :: (b, vo z t) :: L) w) (hc : W.heap.size ≤ c) (hb : W.heap.size ≤ b) (hcb : c ≠ b) (hL : ∀ x ∈ L, x.1 ≠ b) (hL' : ∀ x ∈ L, x.1 ≠ c) : St W ((c, vo x t) :: (b, vo y t) :: L) ((w.setCell ⟨c, 0, none⟩ x).setCell ⟨b, 0, none⟩ y) :=
  fin4 (z := z) (h.sub (fun x hx => by simp only [List.mem_cons] at hx ⊢; rcases hx with h | h | h <;> simp [h])) hb hc hcb hL' hL
end
end Go.Proofs.YtfncldaodbfakaaGreat

namespace Go.Proofs.YtfncldaodbfakaaGreat
open Go.RowKit

abbrev p8 (a b c d : Int) : Prop := Ch a ∧ Ch b ∧ Ch c ∧ Ch d
theorem over_ex : ovr ⟨0, 0, 255, 255⟩ ⟨255, 0, 0, 255⟩ 0 51 = ⟨51, 0, 204, 255⟩ := by kernel_rfl
theorem mix_ex : mxx ⟨255, 0, 0, 255⟩ ⟨0, 0, 0, 0⟩ 51 = ⟨255, 0, 0, 204⟩ := by kernel_rfl
end Go.Proofs.YtfncldaodbfakaaGreat

namespace Go.Proofs.YtfncldaodbfakaaGreat
open Go.RowKit

theorem rd_mul {x d : Int} (hd : 0 < d) : rd (d * x) d = x := by
  have h := rd_between (n := d * x) (d := d) (lo := x) (hi := x) hd (by rw [Int.mul_comm]; exact Int.le_refl _) (by rw [Int.mul_comm]; exact Int.le_refl _)
  omega
theorem mul_zero_left (c : Int) : mul 0 c = 0 := by
  unfold mul pr; rw [show cl 0 = 0 by decide, Int.zero_mul]; decide
theorem mul_zero_right (a : Int) : mul a 0 = 0 := by
  unfold mul pr; rw [show cl 0 = 0 by decide, Int.mul_zero]; decide
theorem ovr_solid (p0 p1 p2 p3 q0 q1 q2 : Int) : ovr ⟨p0, p1, p2, p3⟩ ⟨q0, q1, q2, 255⟩ 0 255 = ⟨q0, q1, q2, 255⟩ := by
  have hw : wgt 255 p3 = 65025 := by unfold wgt; omega
  have ho : ∀ b s, och 0 255 p3 b s = s := fun b s => by
    unfold och
    rw [hw, show osum 0 255 p3 b s = 65025 * s by
      unfold osum
      rw [show bl 0 b s = s by rfl, show (255 : Int) - 255 = 0 by decide, Int.zero_mul, Int.zero_mul, Int.add_zero, ← Int.add_mul]
      congr 1; omega]
    exact rd_mul (by decide)
  unfold ovr
  dsimp only
  rw [show mul 255 255 = 255 by decide, hw, if_neg (by decide), ho, ho, ho, show rd 65025 255 = 255 by decide]
theorem ovr_none (p0 p1 p2 p3 m : Int) (q : Px) (c : Int) (hp : Ch p3) (h : mul q.a c = 0) : ovr ⟨p0, p1, p2, p3⟩ q m c = cln ⟨p0, p1, p2, p3⟩ := by
  unfold ovr cln
  dsimp only
  rw [h]
  have hw : wgt 0 p3 = 255 * p3 := by unfold wgt; rw [Int.zero_mul]; omega
  rw [hw]
  by_cases h0 : p3 = 0
  · rw [if_pos (by omega), if_pos h0]
  · have ho : ∀ b s, och m 0 p3 b s = b := fun b s => by
      unfold och
      rw [hw, show osum m 0 p3 b s = 255 * p3 * b by
        unfold osum
        rw [Int.zero_mul, Int.zero_mul, Int.zero_mul, Int.zero_mul, show (255 : Int) - 0 = 255 by decide]; omega]
      exact rd_mul (by omega)
    rw [if_neg (by omega), if_neg h0, ho, ho, ho, rd_mul (by decide)]
theorem ovr_clear (p0 p1 p2 q0 q1 q2 q3 m c : Int) : ovr ⟨p0, p1, p2, 0⟩ ⟨q0, q1, q2, q3⟩ m c = fad ⟨q0, q1, q2, q3⟩ c := by
  unfold ovr fad cln
  dsimp only
  have hu := mul_ch q3 c
  generalize mul q3 c = u at *
  have hw : wgt u 0 = 255 * u := by unfold wgt; rw [Int.mul_zero]; omega
  rw [hw]
  by_cases h0 : u = 0
  · rw [if_pos (by omega), if_pos h0]
  · have ho : ∀ b s, och m u 0 b s = s := fun b s => by
      unfold och
      rw [hw, show osum m u 0 b s = 255 * u * s by
        unfold osum
        rw [Int.mul_zero, Int.mul_zero, Int.zero_mul, Int.zero_mul, show (255 : Int) - 0 = 255 by decide, Int.mul_comm u 255]; omega]
      exact rd_mul (by omega)
    rw [if_neg (by omega), if_neg h0, ho, ho, ho, rd_mul (by decide)]
theorem mxx_to (p q : Px) (t : Int) (O : Px) {P Q A : Int} (hP : mp p.a (cl t) = P) (hQ : mq q.a (cl t) = Q) (hA : rd (P + Q) 255 = A) (h0 : A = 0 → O = zp) (h1 : A ≠ 0 → O = ⟨mch P Q p.r q.r, mch P Q p.g q.g, mch P Q p.b q.b, A⟩) : mxx p q t = O := by
  unfold mxx; rw [hP, hQ, hA]
  by_cases h : A = 0
  · rw [if_pos h, h0 h]
  · rw [if_neg h, h1 h]
theorem mxx_first (p0 p1 p2 p3 q0 q1 q2 q3 : Int) (hp : Ch p3) : mxx ⟨p0, p1, p2, p3⟩ ⟨q0, q1, q2, q3⟩ 0 = cln ⟨p0, p1, p2, p3⟩ := by
  have hm : ∀ x y, p3 ≠ 0 → mch (255 * p3) 0 x y = x := fun x y h => by unfold mch; rw [Int.zero_mul, Int.add_zero, Int.add_zero]; exact rd_mul (by omega)
  refine mxx_to _ _ _ _ (P := 255 * p3) (Q := 0) (A := p3) (by unfold mp; rw [show cl 0 = 0 by decide]; dsimp only; omega) (by unfold mq; rw [show cl 0 = 0 by decide]; dsimp only; omega) (by rw [Int.add_zero]; exact rd_mul (by decide)) (fun h => if_pos h) (fun h => ?_)
  rw [hm _ _ h, hm _ _ h, hm _ _ h]; exact if_neg h
theorem mxx_second (p0 p1 p2 p3 q0 q1 q2 q3 : Int) (hq : Ch q3) : mxx ⟨p0, p1, p2, p3⟩ ⟨q0, q1, q2, q3⟩ 255 = cln ⟨q0, q1, q2, q3⟩ := by
  have hm : ∀ x y, q3 ≠ 0 → mch 0 (255 * q3) x y = y := fun x y h => by unfold mch; rw [Int.zero_mul, Int.zero_add, Int.zero_add]; exact rd_mul (by omega)
  refine mxx_to _ _ _ _ (P := 0) (Q := 255 * q3) (A := q3) (by unfold mp; rw [show cl 255 = 255 by decide]; dsimp only; omega) (by unfold mq; rw [show cl 255 = 255 by decide]; dsimp only; omega) (by rw [Int.zero_add]; exact rd_mul (by decide)) (fun h => if_pos h) (fun h => ?_)
  rw [hm _ _ h, hm _ _ h, hm _ _ h]; exact if_neg h
theorem mxx_swap (p q : Px) (n : Int) (hn : Ch n) : mxx p q n = mxx q p (255 - n) := by
  have h1 : mp q.a (cl (255 - n)) = mq q.a (cl n) := by unfold mp mq; rw [cl_of hn, cl_of (show Ch (255 - n) from ⟨by omega, by omega⟩), show 255 - (255 - n) = n by omega]
  have h2 : mq p.a (cl (255 - n)) = mp p.a (cl n) := by unfold mp mq; rw [cl_of hn, cl_of (show Ch (255 - n) from ⟨by omega, by omega⟩)]
  have hm : ∀ P Q x y, mch P Q x y = mch Q P y x := fun P Q x y => by unfold mch; rw [Int.add_comm (P * x), Int.add_comm P]
  unfold mxx
  rw [h1, h2, Int.add_comm (mq q.a (cl n)), hm _ _ q.r, hm _ _ q.g, hm _ _ q.b]
theorem mxx_self (p0 p1 p2 p3 n : Int) (hp : Ch p3) (hn : Ch n) : mxx ⟨p0, p1, p2, p3⟩ ⟨p0, p1, p2, p3⟩ n = cln ⟨p0, p1, p2, p3⟩ := by
  have hs : mp p3 n + mq p3 n = 255 * p3 := by unfold mp mq; rw [Int.mul_sub]; omega
  have hm : ∀ x, p3 ≠ 0 → mch (mp p3 n) (mq p3 n) x x = x := fun x h => by unfold mch; rw [← Int.add_mul, hs]; exact rd_mul (by omega)
  refine mxx_to _ _ _ _ (A := p3) rfl rfl ?_ (fun h => if_pos h) (fun h => ?_)
  · dsimp only; rw [cl_of hn, hs]; exact rd_mul (by decide)
  · dsimp only; rw [cl_of hn, hm _ h, hm _ h, hm _ h]; exact if_neg h
end Go.Proofs.YtfncldaodbfakaaGreat

namespace Go.Proofs.YtfncldaodbfakaaGreat
open Go.RowKit

/-- a Mean in memory, of pixel and of the reference: the number, the sum of the alphas, the sums of the channels -/
abbrev mo (n a x y z : Int) : Obj := .cells #[.int .i64 n, .int .i64 a, .int .i64 x, .int .i64 y, .int .i64 z] 183
abbrev mr (n a x y z : Int) : Obj := .cells #[.int .i64 a, .int .i64 x, .int .i64 y, .int .i64 z, .int .i64 n] 157
abbrev C5 (V : World) (b : Nat) (x0 x1 x2 x3 x4 : Int) : Prop :=
  (V.cell? ⟨b, 0, none⟩ = some (.int .i64 x0) ∧ V.cell? ⟨b, 1, none⟩ = some (.int .i64 x1) ∧ V.cell? ⟨b, 2, none⟩ = some (.int .i64 x2) ∧ V.cell? ⟨b, 3, none⟩ = some (.int .i64 x3) ∧ V.cell? ⟨b, 4, none⟩ = some (.int .i64 x4)) ∧ ∀ j, V.frozen? ⟨b, j, none⟩ = false
theorem St.five {W w : World} {L : List (Nat × Obj)} (h : St W L w) {b : Nat} {x0 x1 x2 x3 x4 : Int} {t : TypeId} (hm : (b, .cells #[.int .i64 x0, .int .i64 x1, .int .i64 x2, .int .i64 x3, .int .i64 x4] t) ∈ L) : C5 w b x0 x1 x2 x3 x4 :=
  ⟨⟨h.cell hm 0, h.cell hm 1, h.cell hm 2, h.cell hm 3, h.cell hm 4⟩, fun j => h.frozen hm j⟩
theorem drew_eq (w : World) : ({ heap := w.heap, tape := w.tape, drawn := w.drawn + 1, os := w.os, output := w.output } : World) = w.drew := rfl
/-- how often a pixel is added -/
def cnt (k : Int) : Int := if k < 1 then 0 else if 65536 < k then 65536 else k
theorem cnt_le (k : Int) : 0 ≤ cnt k ∧ cnt k ≤ 65536 := by unfold cnt; (repeat' split) <;> omega
/-- what the sums of a Mean obey -/
def Mb (n a x y z : Int) : Prop := (0 ≤ n ∧ n ≤ 68719476736) ∧ (0 ≤ a ∧ a ≤ 255 * n) ∧ (0 ≤ x ∧ x ≤ 255 * a) ∧ (0 ≤ y ∧ y ≤ 255 * a) ∧ (0 ≤ z ∧ z ≤ 255 * a)
theorem Mb.add {n a x y z k r g b al : Int} (h : Mb n a x y z) (hn : n ≤ 68719411200) (hr : Ch r) (hg : Ch g) (hb : Ch b) (ha : Ch al) :
    Mb (n + cnt k) (a + cnt k * al) (x + cnt k * al * r) (y + cnt k * al * g) (z + cnt k * al * b) := by
  have hc := cnt_le k
  generalize cnt k = c at *
  have h1 := nn hc ha
  have h1' : c * al ≤ 255 * c := by rw [Int.mul_comm 255]; exact Int.mul_le_mul_of_nonneg_left ha.2 hc.1
  have q : ∀ v, Ch v → 0 ≤ c * al * v ∧ c * al * v ≤ 255 * (c * al) := fun v hv => ⟨Int.mul_nonneg h1.1 hv.1, by rw [Int.mul_comm 255]; exact Int.mul_le_mul_of_nonneg_left hv.2 h1.1⟩
  have hr' := q r hr
  have hg' := q g hg
  have hb' := q b hb
  obtain ⟨h2, h3, h4, h5, h6⟩ := h
  refine ⟨?_, ?_, ?_, ?_, ?_⟩ <;> constructor <;> omega

theorem add_nil (r g b al k : Int) (w : World) : Calls Tryz.prog 127 #[.pointer none, pv r g b al, .int .i64 k] w fun e w' => e = .returned (.tuple #[]) ∧ Below w.heap.size w w' := by
  go_enter Tryz.func127, Tryz.ntmps127
  go_wp2
  refine bodyPost_ret (results_none rfl _ _ _) rfl ?_
  exact ⟨rfl, below1⟩
set_option maxRecDepth 100000 in
set_option maxHeartbeats 8000000 in
theorem add_any {W : World} {L : List (Nat × Obj)} (bm : Nat) (n a x y z r g b al k : Int) (w : World) (h : St W ((bm, mo n a x y z) :: L) w) (hbm : W.heap.size ≤ bm) (hL : ∀ x ∈ L, x.1 ≠ bm)
    (hM : Mb n a x y z) (hn : n ≤ 68719411200) (hr : Ch r) (hg : Ch g) (hb : Ch b) (ha : Ch al) :
    Calls Tryz.prog 127 #[ptr bm, pv r g b al, .int .i64 k] w fun e w' => e = .returned (.tuple #[]) ∧ St W ((bm, mo (n + cnt k) (a + cnt k * al) (x + cnt k * al * r) (y + cnt k * al * g) (z + cnt k * al * b)) :: L) w' := by
  have hM' := hM.add (k := k) hn hr hg hb ha
  have hc := cnt_le k
  by_cases hk : k < 1
  · have hc0 : cnt k = 0 := if_pos hk
    rw [hc0]
    simp only [Int.zero_mul, Int.add_zero]
    go_enter Tryz.func127, Tryz.ntmps127
    go_wp2
    refine bodyPost_ret (results_none rfl _ _ _) rfl ?_
    exact ⟨rfl, (h.alloc _).sub (fun x hx => List.mem_cons_of_mem _ hx)⟩
  have hmn : ∀ (ts : Array TypeId) (t : TypeId) (w : World), (Builtin.min_ ts t #[.int .i64 k, .int .i64 65536]).run Tryz.prog w = .ok (.int .i64 (cnt k)) w := fun ts t w => by
    have hc1 : cnt k = if (65536 : Int) < k then 65536 else k := if_neg hk
    rw [hc1]; simp only [run_min_int2]
  generalize cnt k = c at *
  have h1 := nn hc ha
  have kr := w64 hr; have kg := w64 hg; have kb := w64 hb; have ka := w64 ha
  generalize hq : c * al = q at *
  have q1 : IntKind.i64.wrap q = q := w64m ⟨by omega, by omega⟩
  have z1 := nn h1 hr
  have z2 := nn h1 hg
  have z3 := nn h1 hb
  obtain ⟨m1, m2, m3, m4, m5⟩ := hM'
  obtain ⟨o1, o2, o3, o4, o5⟩ := hM
  have n1 : IntKind.i64.wrap (n + c) = n + c := w64m ⟨by omega, by omega⟩
  have n2 : IntKind.i64.wrap (a + q) = a + q := w64m ⟨by omega, by omega⟩
  have n3 : IntKind.i64.wrap (x + q * r) = x + q * r := w64m ⟨by omega, by omega⟩
  have n4 : IntKind.i64.wrap (y + q * g) = y + q * g := w64m ⟨by omega, by omega⟩
  have n5 : IntKind.i64.wrap (z + q * b) = z + q * b := w64m ⟨by omega, by omega⟩
  have n6 : IntKind.i64.wrap (q * r) = q * r := w64m ⟨by omega, by omega⟩
  have n7 : IntKind.i64.wrap (q * g) = q * g := w64m ⟨by omega, by omega⟩
  have n8 : IntKind.i64.wrap (q * b) = q * b := w64m ⟨by omega, by omega⟩
  have hlt := h.lt (b := bm) (o := mo n a x y z) (by simp)
  have i0 : ∀ w, (Instr.index 207 (.agg #[.int .u8 r, .int .u8 g, .int .u8 b]) (.int .i64 0)).run Tryz.prog w = .ok (.int .u8 r) w := fun _ => rfl
  have i1 : ∀ w, (Instr.index 207 (.agg #[.int .u8 r, .int .u8 g, .int .u8 b]) (.int .i64 1)).run Tryz.prog w = .ok (.int .u8 g) w := fun _ => rfl
  have i2 : ∀ w, (Instr.index 207 (.agg #[.int .u8 r, .int .u8 g, .int .u8 b]) (.int .i64 2)).run Tryz.prog w = .ok (.int .u8 b) w := fun _ => rfl
  go_enter Tryz.func127, Tryz.ntmps127
  go_upto_region 1 with fail
  have h2 : St W ((bm, mo n a x y z) :: (w.heap.size, po r g b al) :: L) (w.alloc (po r g b al)) := (h.alloc (po r g b al)).sub (fun x hx => by simp only [List.mem_cons] at hx ⊢; rcases hx with h | h | h <;> simp [h])
  have hL2 : ∀ x ∈ (w.heap.size, po r g b al) :: L, x.1 ≠ bm := fun x hx => by
    rcases List.mem_cons.1 hx with rfl | hx
    · exact (Nat.ne_of_gt hlt)
    · exact hL x hx
  generalize w.alloc (po r g b al) = w1 at h2 ⊢
  generalize w.heap.size = bp at h2 hL2 ⊢
  obtain ⟨⟨c0, c1, c2, c3, c4⟩, f0⟩ := h2.five (b := bm) (x0 := n) (x1 := a) (x2 := x) (x3 := y) (x4 := z) (t := 183) (by simp)
  obtain ⟨p0, p1, p2, p3⟩ := h2.pix (b := bp) (x0 := r) (x1 := g) (x2 := b) (x3 := al) (by simp)
  have hne : bp ≠ bm := hL2 (bp, po r g b al) (by simp)
  go_upto_region 7 with fail
  have h3 := (h2.put (j := 0) (v := .int .i64 (n + c)) hbm hL2).put (j := 1) (v := .int .i64 (a + q)) hbm hL2
  simp only [List.setIfInBounds_toArray, List.set_cons_zero, List.set_cons_succ] at h3
  generalize (w1.setCell ⟨bm, 0, none⟩ (.int .i64 (n + c))).setCell ⟨bm, 1, none⟩ (.int .i64 (a + q)) = w2 at h3 ⊢
  clear h2 c0 c1 c2 c3 c4 f0 p0 p1 p2 p3
  go_loopw [45] (fun v wr => ∃ K : Int, 0 ≤ K ∧ K ≤ 3 ∧ v = .int .i64 K ∧ Hid (St W ((bm, mo (n + c) (a + q) (if 0 < K then x + q * r else x) (if 1 < K then y + q * g else y) (if 2 < K then z + q * b else z)) :: (bp, po r g b al) :: L) wr)) (fun v _ => 3 - (intOf v).toNat)
  case atStart => exact ⟨0, by omega, by omega, rfl, h3⟩
  case round =>
    obtain ⟨K, hk0, hk3, rfl, HS⟩ := hrel
    have h5 := HS.out
    clear HS h3
    rcases (by omega : K = 0 ∨ K = 1 ∨ K = 2 ∨ K = 3) with rfl | rfl | rfl | rfl
    · have h6 : St W ((bm, mo (n + c) (a + q) (x) (y) (z)) :: (bp, po r g b al) :: L) wr := h5
      clear h5
      have hd := h6.drew
      go_upto_region 9 with fail
      refine wp_region_still_tail 14 (by kernel_rfl) (by kernel_rfl) ?_
      rw [drew_eq wr]
      generalize wr.drew = wd at hd ⊢
      obtain ⟨⟨c0, c1, c2, c3, c4⟩, f0⟩ := hd.five (b := bm) (x0 := n + c) (x1 := a + q) (x2 := x) (x3 := y) (x4 := z) (t := 183) (by simp)
      simp only [List.take_succ_cons, List.take_zero, List.drop_succ_cons, List.drop_zero]
      repeat still_step
      refine wpStill_nil ?_
      go_wp2_with fail
      go_roundw
      case rel =>
        have h7 := hd.put (j := 2) (v := .int .i64 (x + q * r)) hbm hL2
        simp only [List.setIfInBounds_toArray, List.set_cons_zero, List.set_cons_succ] at h7
        exact ⟨1, by omega, by omega, rfl, h7⟩
      case measure => simp [intOf]
    · have h6 : St W ((bm, mo (n + c) (a + q) (x + q * r) (y) (z)) :: (bp, po r g b al) :: L) wr := h5
      clear h5
      have hd := h6.drew
      go_upto_region 9 with fail
      refine wp_region_still_tail 14 (by kernel_rfl) (by kernel_rfl) ?_
      rw [drew_eq wr]
      generalize wr.drew = wd at hd ⊢
      obtain ⟨⟨c0, c1, c2, c3, c4⟩, f0⟩ := hd.five (b := bm) (x0 := n + c) (x1 := a + q) (x2 := x + q * r) (x3 := y) (x4 := z) (t := 183) (by simp)
      simp only [List.take_succ_cons, List.take_zero, List.drop_succ_cons, List.drop_zero]
      repeat still_step
      refine wpStill_nil ?_
      go_wp2_with fail
      go_roundw
      case rel =>
        have h7 := hd.put (j := 3) (v := .int .i64 (y + q * g)) hbm hL2
        simp only [List.setIfInBounds_toArray, List.set_cons_zero, List.set_cons_succ] at h7
        exact ⟨2, by omega, by omega, rfl, h7⟩
      case measure => simp [intOf]
    · have h6 : St W ((bm, mo (n + c) (a + q) (x + q * r) (y + q * g) (z)) :: (bp, po r g b al) :: L) wr := h5
      clear h5
      have hd := h6.drew
      go_upto_region 9 with fail
      refine wp_region_still_tail 14 (by kernel_rfl) (by kernel_rfl) ?_
      rw [drew_eq wr]
      generalize wr.drew = wd at hd ⊢
      obtain ⟨⟨c0, c1, c2, c3, c4⟩, f0⟩ := hd.five (b := bm) (x0 := n + c) (x1 := a + q) (x2 := x + q * r) (x3 := y + q * g) (x4 := z) (t := 183) (by simp)
      simp only [List.take_succ_cons, List.take_zero, List.drop_succ_cons, List.drop_zero]
      repeat still_step
      refine wpStill_nil ?_
      go_wp2_with fail
      go_roundw
      case rel =>
        have h7 := hd.put (j := 4) (v := .int .i64 (z + q * b)) hbm hL2
        simp only [List.setIfInBounds_toArray, List.set_cons_zero, List.set_cons_succ] at h7
        exact ⟨3, by omega, by omega, rfl, h7⟩
      case measure => simp [intOf]
    · have h6 : St W ((bm, mo (n + c) (a + q) (x + q * r) (y + q * g) (z + q * b)) :: (bp, po r g b al) :: L) wr := h5
      go_wp2_with fail
      go_end0
      exact ⟨rfl, h6.sub (fun x hx => by simp only [List.mem_cons] at hx ⊢; rcases hx with h | h <;> simp [h])⟩
end Go.Proofs.YtfncldaodbfakaaGreat
