/-
  A plane as a value and in memory; loads, stores and indices of it. The predictors: what they predict from three neighbours (contracts of the functions in the table of rules). The transform of colours and its inverse (contracts), their maths. The neighbours of a value of a plane, and its prediction: the closures over a plane (contracts).
-/
import Derived.Test.YtfncldaodbfakaaGreatTZero
namespace Go.Proofs.YtfncldaodbfakaaGreat.P
open Go.RowKit T
variable {W w w' : World} {L : List (Nat × Obj)}

/-- the cells of a plane whose value number i is f i -/
def pc (f : Nat → Int) : Array Value := ((List.range 64).map fun i => Value.int .u8 (f i)).toArray
theorem pc_size (f : Nat → Int) : (pc f).size = 64 := by unfold pc; simp
theorem pc_get (f : Nat → Int) (i : Nat) (hi : i < 64) : (pc f)[i]? = some (.int .u8 (f i)) := by
  unfold pc; rw [List.getElem?_toArray, List.getElem?_map, List.getElem?_range hi]; rfl
theorem pc_of {cs : Array Value} (f : Nat → Int) (hs : cs.size = 64) (h : ∀ i, i < 64 → cs[i]? = some (.int .u8 (f i))) : cs = pc f := by
  apply Array.ext_getElem?
  intro k
  by_cases hk : k < 64
  · rw [h k hk, pc_get f k hk]
  · rw [Array.getElem?_eq_none (by omega), Array.getElem?_eq_none (by rw [pc_size]; omega)]
theorem pc_ext {f g : Nat → Int} (h : ∀ i, i < 64 → f i = g i) : pc f = pc g := pc_of _ (pc_size f) fun i hi => by rw [pc_get f i hi, h i hi]
theorem pc_inj {f g : Nat → Int} (h : pc f = pc g) (i : Nat) (hi : i < 64) : f i = g i := by
  have h1 := pc_get f i hi
  rw [h, pc_get g i hi] at h1
  simpa using h1.symm
theorem pc_one (f : Nat → Int) : (pc f).all (·.oneCell') = true := by
  unfold pc
  apply all_oneCell_toArray
  intro v hv
  obtain ⟨i, _, hi⟩ := List.mem_map.1 hv
  rw [← hi]; rfl
/-- a plane as a value, and in memory -/
abbrev pv (f : Nat → Int) : Value := .agg (pc f)
abbrev pob (f : Nat → Int) : Obj := .cells (pc f) 231
def zn : Nat → Int := fun _ => 0
theorem info_pl : (Tryz.prog.info? 231).map (·.size) = some 64 := by kernel_rfl
set_option maxRecDepth 100000 in
theorem zero_pl (w : World) : (zeroValue 231).run Tryz.prog w = .ok (pv zn) w := by kernel_rfl
theorem load_pl (b : Nat) (f : Nat → Int) (w : World) (h : w.heap[b]? = some (pob f)) : (Instr.loadAt 231 (ptrB b)).run Tryz.prog w = .ok (pv f) w := by
  have := run_loadAt_mid w b 0 231 (pc f).toList _ (fun j v hv => by rw [Nat.zero_add, cell_of_row w b j _ _ (0, 0) h]; simpa using hv) Tryz.underlying231 rfl (by rw [info_pl, Array.length_toList, pc_size])
  simpa using this
theorem store_pl (b : Nat) (f g : Nat → Int) (w : World) (h : w.heap[b]? = some (pob f)) : (Instr.storeAt 231 (ptrB b) (pv g)).run Tryz.prog w = .ok () (w.setRow b (pc g)) := by
  simp only [Instr.storeAt, Instr.sureAddr, Sem.run_bind, Sem.run_pure, Result.andThen_ok, run_storeVar_row w b _ 231 _ _ h (by rw [info_pl, pc_size]) (by rw [pc_size, pc_size]) (pc_one g)]
set_option maxRecDepth 100000 in
theorem index_pl (b i : Nat) (hi : i < 64) (w : World) : (Instr.indexAt 231 (.pointer (some ⟨b, 0, none⟩)) (.int .i64 i)).run Tryz.prog w = .ok (.pointer (some ⟨b, i, none⟩)) w := by
  have hs : (sizeOf 5).run Tryz.prog w = .ok 1 w := by kernel_rfl
  have h2 : 0 ≤ (i : Int) ∧ (i : Int) < (64 : Nat) := ⟨by omega, by omega⟩
  have ha : (⟨b, 0, none⟩ : Addr).add (i * 1) = ⟨b, i, none⟩ := by rw [Addr.add_mid, Nat.zero_add, Nat.mul_one]
  simp only [Instr.indexAt, asIntOf, Instr.sureAddr, Sem.run_bind, Sem.run_pure, Result.andThen_ok, run_underlying Tryz.underlying231, hs, if_pos h2, Int.toNat_natCast, ha]
theorem part_u8 {cs : Array Value} {i : Nat} {v : Value} (h : cs[i]? = some v) (w : World) : (part 5 cs i).run Tryz.prog w = .ok v w := by
  have ht : (isAgg 5).run Tryz.prog w = .ok false w := by kernel_rfl
  unfold part
  simp only [Sem.run_bind, ht, Result.andThen_ok, Bool.false_eq_true, if_false, h, Sem.run_pure]
set_option maxRecDepth 100000 in
theorem index_pv (f : Nat → Int) (i : Nat) (hi : i < 64) (w : World) : (Instr.index 231 (pv f) (.int .i64 (i : Int))).run Tryz.prog w = .ok (.int .u8 (f i)) w := by
  have h2 : 0 ≤ (i : Int) ∧ (i : Int) < (64 : Nat) := ⟨by omega, by omega⟩
  have hg := pc_get f i hi
  have hs : (sizeOf 5).run Tryz.prog w = .ok 1 w := by kernel_rfl
  simp only [Instr.index, asIntOf, Sem.run_bind, Sem.run_pure, Result.andThen_ok, run_underlying Tryz.underlying231, hs, if_pos h2, Int.toNat_natCast, Nat.mul_one, part_u8 hg]
/-- the plane f with the value number i replaced -/
def ups (f : Nat → Int) (i : Nat) (x : Int) : Nat → Int := fun k => if k = i then x else f k
theorem pc_set (f : Nat → Int) (i : Nat) (x : Int) (hi : i < 64) : (pc f).setIfInBounds i (.int .u8 x) = pc (ups f i x) := by
  refine pc_of _ (by simp [pc_size]) fun k hk => ?_
  rw [Array.getElem?_setIfInBounds]
  unfold ups
  by_cases h : i = k
  · subst h
    rw [if_pos rfl, if_pos (by rw [pc_size]; exact hi), if_pos rfl]
  · rw [if_neg h, pc_get f k hk, if_neg (by omega)]
/-- the plane f of which the first n values are those of g -/
def ct (f g : Nat → Int) (n : Nat) : Nat → Int := fun k => if k < n then g k else f k
theorem ct_zero (f g : Nat → Int) : ct f g 0 = f := by funext k; simp [ct]
theorem ct_all (f g : Nat → Int) : pc (ct f g 64) = pc g := pc_ext fun _ hi => if_pos hi
theorem ct_succ (f g : Nat → Int) (n : Nat) : ups (ct f g n) n (g n) = ct f g (n + 1) := by
  funext k
  unfold ups ct
  by_cases h : k = n
  · subst h; rw [if_pos rfl, if_pos (by omega)]
  · rw [if_neg h]; by_cases h2 : k < n
    · rw [if_pos h2, if_pos (by omega)]
    · rw [if_neg h2, if_neg (by omega)]
theorem ct_at (f g : Nat → Int) (n k : Nat) (h : k < n) : ct f g n k = g k := if_pos h
theorem St.setp {b i : Nat} {f : Nat → Int} (x : Int) (h : St W ((b, pob f) :: L) w) (hi : i < 64) (hb : W.heap.size ≤ b) (hL : ∀ x ∈ L, x.1 ≠ b) : St W ((b, pob (ups f i x)) :: L) (w.setCell ⟨b, i, none⟩ (.int .u8 x)) := by
  rw [setCell_eq_setRow w b i (pc f) 231 (0, 0) _ (h.row (List.mem_cons_self ..)), pc_set f i x hi]
  exact St.rowset h hb hL
theorem St.pl (h : St W L w) {b : Nat} {f : Nat → Int} (hm : (b, pob f) ∈ L) : w.heap[b]? = some (pob f) := h.row hm
theorem St.pcell (h : St W L w) {b : Nat} {f : Nat → Int} (hm : (b, pob f) ∈ L) {i : Nat} (hi : i < 64) : w.cell? ⟨b, i, none⟩ = some (.int .u8 (f i)) := (h.cell hm i).trans (pc_get f i hi)
end Go.Proofs.YtfncldaodbfakaaGreat.P

namespace Go.Proofs.YtfncldaodbfakaaGreat.P
open Go.RowKit T

def dst (t v : Int) : Int := max (v - t) (t - v)
/-- the nearer of two values, the first one if they are equally near -/
def nr (t b v : Int) : Int := if dst t v < dst t b then v else b
def pth (l u c : Int) : Int := nr (l + u - c) (nr (l + u - c) l u) c
def med (l u c : Int) : Int := if max l u ≤ c then min l u else if c ≤ min l u then max l u else l + u - c
/-- what predictor k predicts -/
def prd (k : Nat) (l u c : Int) : Int := match k with
  | 0 => 0 | 1 => l | 2 => u | 3 => (l + u) / 2 | 4 => pth l u c | _ => med l u c
/-- its function -/
def rf (k : Nat) : FuncId := match k with
  | 0 => 202 | 1 => 203 | 2 => 204 | 3 => 205 | 4 => 206 | _ => 207
theorem r1_any (l u c : Int) (w : World) : Calls Tryz.prog 202 #[.int .i64 l, .int .i64 u, .int .i64 c] w fun e w' => e = .returned (.int .i64 0) ∧ w = w' := by
  go_enter Tryz.func202, Tryz.ntmps202
  go_wp2
  go_ret
  exact ⟨rfl, rfl⟩
theorem r2_any (l u c : Int) (w : World) : Calls Tryz.prog 203 #[.int .i64 l, .int .i64 u, .int .i64 c] w fun e w' => e = .returned (.int .i64 l) ∧ w = w' := by
  go_enter Tryz.func203, Tryz.ntmps203
  go_wp2
  go_ret
  exact ⟨rfl, rfl⟩
theorem r3_any (l u c : Int) (w : World) : Calls Tryz.prog 204 #[.int .i64 l, .int .i64 u, .int .i64 c] w fun e w' => e = .returned (.int .i64 u) ∧ w = w' := by
  go_enter Tryz.func204, Tryz.ntmps204
  go_wp2
  go_ret
  exact ⟨rfl, rfl⟩
theorem r4_any (l u c : Int) (w : World) (hl : Ch l) (hu : Ch u) : Calls Tryz.prog 205 #[.int .i64 l, .int .i64 u, .int .i64 c] w fun e w' => e = .returned (.int .i64 ((l + u) / 2)) ∧ w = w' := by
  go_enter Tryz.func205, Tryz.ntmps205
  go_wp2
  go_ret
  exact ⟨rfl, rfl⟩
theorem med_any (l u c : Int) (w : World) (hl : Ch l) (hu : Ch u) (hc : Ch c) : Calls Tryz.prog 207 #[.int .i64 l, .int .i64 u, .int .i64 c] w fun e w' => e = .returned (.int .i64 (med l u c)) ∧ w = w' := by
  go_enter Tryz.func207, Tryz.ntmps207
  go_wp2
  all_goals go_ret
  all_goals refine ⟨ret_int ?_, rfl⟩
  all_goals unfold med
  all_goals (repeat' split at *)
  all_goals omega
theorem dst_any (t v : Int) (b : Nat) (w : World) (ht : -255 ≤ t ∧ t ≤ 510) (hv : Ch v) (hb : w.heap[b]? = some (vo (.int .i64 t) 3)) : Calls Tryz.prog 235 #[.int .i64 v, .pointer (some ⟨b, 0, none⟩)] w fun e w' => e = .returned (.int .i64 (dst t v)) ∧ w = w' := by
  have hc : w.cell? ⟨b, 0, none⟩ = some (.int .i64 t) := cell_of_row _ _ 0 _ _ _ hb
  go_enter Tryz.func235, Tryz.ntmps235
  go_wp2
  all_goals go_ret
  all_goals refine ⟨ret_int ?_, rfl⟩
  all_goals unfold dst
  all_goals omega
abbrev two (u c : Int) : Obj := .cells #[.int .i64 u, .int .i64 c] 3
theorem nr_ch {t a b : Int} (ha : Ch a) (hb : Ch b) : Ch (nr t a b) := by unfold nr; split <;> assumption
theorem dst_bd {t v : Int} (ht : -255 ≤ t ∧ t ≤ 510) (hv : Ch v) : 0 ≤ dst t v ∧ dst t v ≤ 1000 := by unfold Ch at hv; unfold dst; constructor <;> omega
set_option maxHeartbeats 1000000 in
theorem nearest_any (t l u c : Int) (s : Nat) (w : World) (ht : -255 ≤ t ∧ t ≤ 510) (hl : Ch l) (hu : Ch u) (hc : Ch c) (hs : w.heap[s]? = some (two u c)) :
    Calls Tryz.prog 219 #[.int .i64 t, .int .i64 l, .slice (some ⟨s, 0, none⟩) 2 2] w fun e w' => e = .returned (.int .i64 (nr t (nr t l u) c)) ∧ Below w.heap.size w w' := by
  have h0 := (St.start w).alloc (vo (.int .i64 t) 3)
  have hs0 : (w.alloc (vo (.int .i64 t) 3)).heap[s]? = some (two u c) := old_row hs below1
  have HD : Hid (∀ V v, w.heap.size < V.heap.size → Ch v → V.heap[w.heap.size]? = some (vo (.int .i64 t) 3) → Calls Tryz.prog 235 #[.int .i64 v, .pointer (some ⟨w.heap.size, 0, none⟩)] V fun e w' => e = .returned (.int .i64 (dst t v)) ∧ V = w') := fun V v _ hv hb => dst_any t v _ V ht hv hb
  go_enter Tryz.func219, Tryz.ntmps219
  go_upto_region 3 with fail
  generalize w.alloc (vo (.int .i64 t) 3) = w1 at h0 hs0 ⊢
  go_wp2
  have h1 := h0.row (b := w.heap.size) (o := vo (.int .i64 t) 3) (by simp)
  have hz := h0.lt (b := w.heap.size) (o := vo (.int .i64 t) 3) (by simp)
  have HD1 : Hid (∀ v, Ch v → Calls Tryz.prog 235 #[.int .i64 v, .pointer (some ⟨w.heap.size, 0, none⟩)] w1 fun e w' => e = .returned (.int .i64 (dst t v)) ∧ w1 = w') := fun v hv => HD.out _ v hz hv h1
  have c0 : w1.cell? ⟨s, 0, none⟩ = some (.int .i64 u) := cell_of_row _ _ 0 _ _ _ hs0
  have c1 : w1.cell? ⟨s, 1, none⟩ = some (.int .i64 c) := cell_of_row _ _ 1 _ _ _ hs0
  have HB := Lib.hid h0.below
  have hn1 : Ch (nr t l u) := nr_ch hl hu
  clear HD h0 hs0 hs h1 hz
  go_loopw [8, 15] (fun b i wr => ((i = .int .i64 0 ∧ b = .int .i64 l) ∨ (i = .int .i64 1 ∧ b = .int .i64 (nr t l u)) ∨ (i = .int .i64 2 ∧ b = .int .i64 (nr t (nr t l u) c))) ∧ wr = w1) (fun _ i _ => 2 - (intOf i).toNat)
  case atStart => exact ⟨.inl ⟨rfl, rfl⟩, rfl⟩
  case round =>
    rcases hrel with ⟨⟨rfl, rfl⟩ | ⟨rfl, rfl⟩ | ⟨rfl, rfl⟩, rfl⟩
    · by_cases hd : dst t u < dst t l
      · have hn : nr t l u = u := if_pos hd
        go_wp2_with (go_at_call 235; refine (HD1.out _ (by first | assumption | exact nr_ch (by assumption) (by assumption))).mono ?_; rintro e w4 ⟨rfl, rfl⟩)
        go_roundw
        case rel => exact ⟨.inr (.inl ⟨by first | rfl | trivial, by rw [hn]⟩), by first | rfl | trivial⟩
        case measure => simp [intOf]
      · have hn : nr t l u = l := if_neg hd
        go_wp2_with (go_at_call 235; refine (HD1.out _ (by first | assumption | exact nr_ch (by assumption) (by assumption))).mono ?_; rintro e w4 ⟨rfl, rfl⟩)
        go_roundw
        case rel => exact ⟨.inr (.inl ⟨by first | rfl | trivial, by rw [hn]⟩), by first | rfl | trivial⟩
        case measure => simp [intOf]
    · by_cases hd : dst t c < dst t (nr t l u)
      · have hn : nr t (nr t l u) c = c := if_pos hd
        go_wp2_with (go_at_call 235; refine (HD1.out _ (by first | assumption | exact nr_ch (by assumption) (by assumption))).mono ?_; rintro e w4 ⟨rfl, rfl⟩)
        go_roundw
        case rel => exact ⟨.inr (.inr ⟨by first | rfl | trivial, by rw [hn]⟩), by first | rfl | trivial⟩
        case measure => simp [intOf]
      · have hn : nr t (nr t l u) c = nr t l u := if_neg hd
        go_wp2_with (go_at_call 235; refine (HD1.out _ (by first | assumption | exact nr_ch (by assumption) (by assumption))).mono ?_; rintro e w4 ⟨rfl, rfl⟩)
        go_roundw
        case rel => exact ⟨.inr (.inr ⟨by first | rfl | trivial, by rw [hn]⟩), by first | rfl | trivial⟩
        case measure => simp [intOf]
    · go_wp2
      go_ret
      exact ⟨rfl, HB.out⟩
theorem pth_any (l u c : Int) (w : World) (hl : Ch l) (hu : Ch u) (hc : Ch c) : Calls Tryz.prog 206 #[.int .i64 l, .int .i64 u, .int .i64 c] w fun e w' => e = .returned (.int .i64 (pth l u c)) ∧ Below w.heap.size w w' := by
  have hn := World.alloc_heap_new w (two u c)
  have HN : Hid (Calls Tryz.prog 219 #[.int .i64 (l + u - c), .int .i64 l, .slice (some ⟨w.heap.size, 0, none⟩) 2 2] (w.alloc (two u c)) fun e w' => e = .returned (.int .i64 (pth l u c)) ∧ Below w.heap.size w w') :=
    (nearest_any (l + u - c) l u c _ _ (by unfold Ch at *; omega) hl hu hc hn).mono fun e w' ⟨h1, h2⟩ => ⟨h1, below1.trans (h2.mono (by simp))⟩
  clear hn
  go_enter Tryz.func206, Tryz.ntmps206
  go_wp2_with (go_at_call 219; refine HN.out.mono ?_; rintro e w4 ⟨rfl, h4⟩)
  go_ret
  exact ⟨rfl, h4⟩
theorem rule_any (k : Nat) (l u c : Int) (w : World) (hl : Ch l) (hu : Ch u) (hc : Ch c) : Calls Tryz.prog (rf k) #[.int .i64 l, .int .i64 u, .int .i64 c] w fun e w' => e = .returned (.int .i64 (prd k l u c)) ∧ Below w.heap.size w w' := by
  have q : ∀ {f : FuncId} {v : Value}, (Calls Tryz.prog f #[.int .i64 l, .int .i64 u, .int .i64 c] w fun e w' => e = .returned v ∧ w = w') → Calls Tryz.prog f #[.int .i64 l, .int .i64 u, .int .i64 c] w fun e w' => e = .returned v ∧ Below w.heap.size w w' :=
    fun h => h.mono fun e w' ⟨h1, h2⟩ => ⟨h1, h2 ▸ Below.refl _ _⟩
  match k with
  | 0 => exact q (r1_any l u c w)
  | 1 => exact q (r2_any l u c w)
  | 2 => exact q (r3_any l u c w)
  | 3 => exact q (r4_any l u c w hl hu)
  | 4 => exact pth_any l u c w hl hu hc
  | k + 5 => exact q (med_any l u c w hl hu hc)
theorem rf_enters (k : Nat) : ∀ args w, (callFunc (rf k) args).run Tryz.prog w = .ok (.enter (rf k) args) w := by
  match k with
  | 0 => exact enters_of Tryz.func202 (by kernel_rfl) rfl
  | 1 => exact enters_of Tryz.func203 (by kernel_rfl) rfl
  | 2 => exact enters_of Tryz.func204 (by kernel_rfl) rfl
  | 3 => exact enters_of Tryz.func205 (by kernel_rfl) rfl
  | 4 => exact enters_of Tryz.func206 (by kernel_rfl) rfl
  | k + 5 => exact enters_of Tryz.func207 (by kernel_rfl) rfl
end Go.Proofs.YtfncldaodbfakaaGreat.P

namespace Go.Proofs.YtfncldaodbfakaaGreat.P
open Go.RowKit T

def b8 (x : Int) : Int := x % 256
/-- y, u and v of a colour, and the way back -/
def sU (r b : Int) : Int := b8 (r - b)
def sM (r b : Int) : Int := b8 (b + sU r b / 2)
def sV (r g b : Int) : Int := b8 (g - sM r b)
def sY (r g b : Int) : Int := b8 (sM r b + sV r g b / 2)
def kM (y v : Int) : Int := b8 (y - v / 2)
def kG (y v : Int) : Int := b8 (v + kM y v)
def kB (y u v : Int) : Int := b8 (kM y v - u / 2)
def kR (y u v : Int) : Int := b8 (kB y u v + u)
theorem b8_ch (x : Int) : Ch (b8 x) := by unfold b8; constructor <;> omega
theorem back_swap {r g b : Int} (hr : Ch r) (hg : Ch g) (hb : Ch b) : kR (sY r g b) (sU r b) (sV r g b) = r ∧ kG (sY r g b) (sV r g b) = g ∧ kB (sY r g b) (sU r b) (sV r g b) = b := by
  unfold Ch at *
  have e : kM (sY r g b) (sV r g b) = sM r b := by
    have h1 := b8_ch (b + sU r b / 2)
    unfold kM sY b8
    unfold sM at *
    unfold b8 at *
    omega
  have e2 : kB (sY r g b) (sU r b) (sV r g b) = b := by
    unfold kB; rw [e]; unfold sM b8; omega
  refine ⟨?_, ?_, e2⟩
  · unfold kR; rw [e2]; unfold sU b8; omega
  · unfold kG; rw [e]; unfold sV b8; omega
theorem swap_back {y u v : Int} (hy : Ch y) (hu : Ch u) (hv : Ch v) : sY (kR y u v) (kG y v) (kB y u v) = y ∧ sU (kR y u v) (kB y u v) = u ∧ sV (kR y u v) (kG y v) (kB y u v) = v := by
  unfold Ch at *
  have e1 : sU (kR y u v) (kB y u v) = u := by
    unfold sU kR b8; omega
  have e2 : sM (kR y u v) (kB y u v) = kM y v := by
    unfold sM; rw [e1]; unfold kB; have := b8_ch (y - v / 2); unfold kM at *; unfold b8 at *; omega
  have e3 : sV (kR y u v) (kG y v) (kB y u v) = v := by
    unfold sV; rw [e2]; unfold kG b8; omega
  refine ⟨?_, e1, e3⟩
  unfold sY; rw [e2, e3]; unfold kM b8; omega
theorem swap_grey {r : Int} (hr : Ch r) : sY r r r = r ∧ sU r r = 0 ∧ sV r r r = 0 := by
  unfold Ch at *
  have e1 : sU r r = 0 := by unfold sU b8; omega
  have e2 : sM r r = r := by unfold sM; rw [e1]; unfold b8; omega
  have e3 : sV r r r = 0 := by unfold sV; rw [e2]; unfold b8; omega
  refine ⟨?_, e1, e3⟩
  unfold sY; rw [e2, e3]; unfold b8; omega
theorem swap_any (r g b : Int) (w : World) (_hr : Ch r) (_hg : Ch g) (_hb : Ch b) : Calls Tryz.prog 208 #[.int .u8 r, .int .u8 g, .int .u8 b] w fun e w' => e = .returned (.tuple #[.int .u8 (sY r g b), .int .u8 (sU r b), .int .u8 (sV r g b)]) ∧ w = w' := by
  go_enter Tryz.func208, Tryz.ntmps208
  go_wp2
  exact bodyPost_ret (v := .tuple #[.int .u8 (sY r g b), .int .u8 (sU r b), .int .u8 (sV r g b)]) (by simp [results, Tryz.results208, go_sem, sY, sV, sM, sU, b8]) rfl ⟨rfl, rfl⟩
theorem back_any (y u v : Int) (w : World) (_hy : Ch y) (hu : Ch u) (hv : Ch v) : Calls Tryz.prog 243 #[.int .u8 y, .int .u8 u, .int .u8 v] w fun e w' => e = .returned (.tuple #[.int .u8 (kR y u v), .int .u8 (kG y v), .int .u8 (kB y u v)]) ∧ w = w' := by
  go_enter Tryz.func243, Tryz.ntmps243
  go_wp2
  exact bodyPost_ret (v := .tuple #[.int .u8 (kR y u v), .int .u8 (kG y v), .int .u8 (kB y u v)]) (by simp [results, Tryz.results243, go_sem, kR, kG, kB, kM, b8]) rfl ⟨rfl, rfl⟩
theorem refSwap_any (r g b : Int) (w : World) (_hr : Ch r) (_hg : Ch g) (_hb : Ch b) : Calls Tryz.prog 198 #[.agg #[.int .u8 r, .int .u8 g, .int .u8 b]] w fun e w' => e = .returned (.agg #[.int .u8 (sY r g b), .int .u8 (sU r b), .int .u8 (sV r g b)]) ∧ Below w.heap.size w w' := by
  go_enter Tryz.func198, Tryz.ntmps198
  go_wp2
  exact bodyPost_ret (v := .agg #[.int .u8 (sY r g b), .int .u8 (sU r b), .int .u8 (sV r g b)]) (by simp [results, Tryz.results198, go_sem, sY, sV, sM, sU, b8]) rfl ⟨rfl, below1.alloc (by simp) _⟩
theorem count_any (w : World) : Calls Tryz.prog 178 #[] w fun e w' => e = .returned (.int .i64 6) ∧ w = w' := by
  go_enter Tryz.func178, Tryz.ntmps178
  go_wp2
  go_ret
  exact ⟨rfl, rfl⟩
theorem isP_any (k : Int) (w : World) : Calls Tryz.prog 179 #[.int .i64 k] w fun e w' => e = .returned (.bool (decide (0 ≤ k) && decide (k < 6))) ∧ w = w' := by
  by_cases h0 : 0 ≤ k
  · by_cases h1 : k < 6
    · go_enter Tryz.func179, Tryz.ntmps179
      go_wp2_with (go_at_call 178; refine (count_any _).mono ?_; rintro e w1 ⟨rfl, rfl⟩)
      go_ret
      exact ⟨by simp [h0, h1], rfl⟩
    · go_enter Tryz.func179, Tryz.ntmps179
      go_wp2_with (go_at_call 178; refine (count_any _).mono ?_; rintro e w1 ⟨rfl, rfl⟩)
      go_ret
      exact ⟨by simp [h0], rfl⟩
  · go_enter Tryz.func179, Tryz.ntmps179
    go_wp2_with (go_at_call 178; refine (count_any _).mono ?_; rintro e w1 ⟨rfl, rfl⟩)
    go_ret
    exact ⟨by simp; omega, rfl⟩
end Go.Proofs.YtfncldaodbfakaaGreat.P

namespace Go.Proofs.YtfncldaodbfakaaGreat.P
open Go.RowKit T
set_option maxRecDepth 100000

/-- the neighbours of the value number i -/
def nL (f : Nat → Int) (i : Nat) : Int := if 0 < i % 8 then f (i - 1) else if 0 < i / 8 then f (i - 8) else 0
def nU (f : Nat → Int) (i : Nat) : Int := if 0 < i / 8 then f (i - 8) else if 0 < i % 8 then f (i - 1) else 0
def nC (f : Nat → Int) (i : Nat) : Int := if 0 < i % 8 then (if 0 < i / 8 then f (i - 9) else f (i - 1)) else if 0 < i / 8 then f (i - 8) else 0
/-- what predictor k predicts for the value number i -/
def gs (k : Nat) (f : Nat → Int) (i : Nat) : Int := b8 (prd k (nL f i) (nU f i) (nC f i))
theorem quiet_same {P : Program} {f : FuncId} {args : Array Value} {w : World} {n : Nat} {v : Value} (h : Calls P f args (w.drewN n) fun e w' => e = .returned v ∧ w.drewN n = w') : Calls P f args (w.drewN n) fun e w' => e = .returned v ∧ ∃ m, w' = w.drewN m :=
  h.mono fun _ _ ⟨h1, h2⟩ => ⟨h1, n, h2.symm⟩
/-- the box of the plane's address, and that of the closure over it -/
abbrev bx (b : Nat) : Obj := vo (ptrB b) 261
abbrev atO (n : Nat) : Obj := vo (.func (.func 236) #[] #[ptrB n]) 34
theorem at_any (f : Nat → Int) (x y n b : Nat) (w : World) (hx : x < 8) (hy : y < 8) (hn : w.heap[n]? = some (bx b)) (hb : w.heap[b]? = some (pob f)) (hf : ∀ i, i < 64 → Ch (f i)) :
    Calls Tryz.prog 236 #[.int .i64 x, .int .i64 y, ptrB n] w fun e w' => e = .returned (.int .i64 (f (8 * y + x))) ∧ w = w' := by
  have hc : w.cell? ⟨n, 0, none⟩ = some (ptrB b) := cell_of_row _ _ 0 _ _ _ hn
  have hp : w.cell? ⟨b, 8 * y + x, none⟩ = some (.int .u8 (f (8 * y + x))) := by rw [cell_of_row w b _ _ _ _ hb]; exact pc_get f _ (by omega)
  have hi := fun W => index_pl b (8 * y + x) (by omega) W
  have e : wrap64 (f (8 * y + x)) = f (8 * y + x) := by have := hf (8 * y + x) (by omega); unfold Ch at this; exact IntWalk.wrap64_in _ (by omega)
  go_enter Tryz.func236, Tryz.ntmps236
  go_wp2
  go_ret
  exact ⟨ret_int (by first | rfl | exact e), rfl⟩
theorem f_fact {f : Nat → Int} {i j : Nat} (h : j = i) : f j = f i := by rw [h]
set_option maxHeartbeats 1000000 in
theorem nei_any (f : Nat → Int) (i m n b : Nat) (w : World) (hi : i < 64) (hm : w.heap[m]? = some (atO n)) (hn : w.heap[n]? = some (bx b)) (hb : w.heap[b]? = some (pob f)) (hf : ∀ i, i < 64 → Ch (f i)) :
    Calls Tryz.prog 237 #[.int .i64 i, ptrB m] w fun e w' => e = .returned (.tuple #[.int .i64 (nL f i), .int .i64 (nU f i), .int .i64 (nC f i)]) ∧ Below w.heap.size w w' := by
  have hc : w.cell? ⟨m, 0, none⟩ = some (.func (.func 236) #[] #[ptrB n]) := cell_of_row _ _ 0 _ _ _ hm
  have HA : Hid (∀ nq (X Y : Int) (x y : Nat), X = x → Y = y → x < 8 → y < 8 → Calls Tryz.prog 236 #[.int .i64 X, .int .i64 Y, ptrB n] (w.drewN nq) fun e w' => e = .returned (.int .i64 (f (8 * y + x))) ∧ w.drewN nq = w') := fun nq X Y x y hX hY hx hy => by
    subst hX hY
    exact at_any f x y n b _ hx hy hn hb hf
  obtain ⟨x, hx⟩ : ∃ x, x = i % 8 := ⟨_, rfl⟩
  obtain ⟨y, hy⟩ : ∃ y, y = i / 8 := ⟨_, rfl⟩
  have hx8 : x < 8 := by omega
  have hy8 : y < 8 := by omega
  have ei : i = 8 * y + x := by omega
  have HB : Hid (∀ (X Y : Int) (x y : Nat), X = x → Y = y → x < 8 → y < 8 → Calls Tryz.prog 236 #[.int .i64 X, .int .i64 Y, ptrB n] w fun e w' => e = .returned (.int .i64 (f (8 * y + x))) ∧ w = w') := fun X Y x y hX hY hx hy => by
    subst hX hY
    exact at_any f x y n b _ hx hy hn hb hf
  clear hm hn hb hf
  have k1 : (i : Int) % 8 = x := by omega
  have k2 : (i : Int) / 8 = y := by omega
  by_cases h1 : 0 < x
  · have k3 : (0 : Int) < x := by omega
    by_cases h2 : 0 < y
    · have eL : nL f i = f (8 * y + (x - 1)) := by unfold nL; rw [← hx, if_pos h1]; congr 1; omega
      have eU : nU f i = f (8 * (y - 1) + x) := by unfold nU; rw [← hy, if_pos h2]; congr 1; omega
      have eC : nC f i = f (8 * (y - 1) + (x - 1)) := by unfold nC; rw [← hx, ← hy, if_pos h1, if_pos h2]; congr 1; omega
      have k4 : (0 : Int) < y := by omega
      rw [eL, eU, eC]
      clear hx hy ei eL eU eC
      go_enter Tryz.func237, Tryz.ntmps237
      go_upto_region 3 with fail
      simp only [k1]
      go_quiet ((go_at_call 236; (first | (exact quiet_same (HA.out _ _ _ (x - 1) (y - 1) (by omega) (by omega) (by omega) (by omega))) | (exact quiet_same (HA.out _ _ _ (x - 1) (y) (by omega) (by omega) (by omega) (by omega))) | (exact quiet_same (HA.out _ _ _ (x) (y - 1) (by omega) (by omega) (by omega) (by omega))))))
      go_wp2
      exact bodyPost_ret (v := .tuple #[.int .i64 (f (8 * y + (x - 1))), .int .i64 (f (8 * (y - 1) + x)), .int .i64 (f (8 * (y - 1) + (x - 1)))]) (by simp [results, Tryz.results237, go_sem]) rfl ⟨rfl, ⟨rfl, rfl, rfl, Nat.le_refl _, fun _ _ => rfl⟩⟩
    · obtain rfl : y = 0 := by omega
      have e1 : f (i - 1) = f (8 * 0 + (x - 1)) := by congr 1; omega
      have eL : nL f i = f (8 * 0 + (x - 1)) := by unfold nL; rw [← hx, if_pos h1, e1]
      have eU : nU f i = f (8 * 0 + (x - 1)) := by unfold nU; rw [← hx, ← hy, if_neg (by omega), if_pos h1, e1]
      have eC : nC f i = f (8 * 0 + (x - 1)) := by unfold nC; rw [← hx, ← hy, if_pos h1, if_neg (by omega), e1]
      rw [eL, eU, eC]
      clear hx hy ei eL eU eC e1
      have k2' : (i : Int) / 8 = 0 := k2
      clear k2
      go_enter Tryz.func237, Tryz.ntmps237
      go_upto_region 5 with fail
      simp only [k1]
      go_wp2_with (go_at_call 236; refine (HB.out _ _ (x - 1) (0) (by omega) (by omega) (by omega) (by omega)).mono ?_; rintro e w4 ⟨rfl, rfl⟩)
      exact bodyPost_ret (v := .tuple #[.int .i64 (f (8 * 0 + (x - 1))), .int .i64 (f (8 * 0 + (x - 1))), .int .i64 (f (8 * 0 + (x - 1)))]) (by simp [results, Tryz.results237, go_sem]) rfl ⟨rfl, Below.refl _ _⟩
  · obtain rfl : x = 0 := by omega
    by_cases h2 : 0 < y
    · have k4 : (0 : Int) < y := by omega
      have e1 : f (i - 8) = f (8 * (y - 1) + 0) := by congr 1; omega
      have eL : nL f i = f (8 * (y - 1) + 0) := by unfold nL; rw [← hx, ← hy, if_neg (by omega), if_pos h2, e1]
      have eU : nU f i = f (8 * (y - 1) + 0) := by unfold nU; rw [← hy, if_pos h2, e1]
      have eC : nC f i = f (8 * (y - 1) + 0) := by unfold nC; rw [← hx, ← hy, if_neg (by omega), if_pos h2, e1]
      rw [eL, eU, eC]
      clear hx hy ei eL eU eC e1
      have k1' : (i : Int) % 8 = 0 := k1
      clear k1
      go_enter Tryz.func237, Tryz.ntmps237
      go_wp2_with (go_at_call 236; refine (HB.out _ _ (0) (y - 1) (by omega) (by omega) (by omega) (by omega)).mono ?_; rintro e w4 ⟨rfl, rfl⟩)
      exact bodyPost_ret (v := .tuple #[.int .i64 (f (8 * (y - 1) + 0)), .int .i64 (f (8 * (y - 1) + 0)), .int .i64 (f (8 * (y - 1) + 0))]) (by simp [results, Tryz.results237, go_sem]) rfl ⟨rfl, Below.refl _ _⟩
    · obtain rfl : y = 0 := by omega
      obtain rfl : i = 0 := by omega
      clear hx hy ei HA HB
      go_enter Tryz.func237, Tryz.ntmps237
      go_wp2
      exact bodyPost_ret (v := .tuple #[.int .i64 0, .int .i64 0, .int .i64 0]) (by simp [results, Tryz.results237, go_sem]) rfl ⟨rfl, Below.refl _ _⟩
end Go.Proofs.YtfncldaodbfakaaGreat.P
