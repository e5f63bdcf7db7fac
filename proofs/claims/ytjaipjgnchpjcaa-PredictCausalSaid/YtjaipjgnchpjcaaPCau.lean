/-
  Which residuals a change of a pixel reaches (plain maths), and the laws' same (contract).
-/
import Derived.Test.YtjaipjgnchpjcaaPInvM
namespace Go.Proofs.Ytjaipjgnchpjcaa.P
open Go.RowKit T Go.Shelf
set_option maxRecDepth 100000

/-- the value of a pixel in a plane -/
def pval (p : Px) (n : Nat) : Int := match n with
  | 0 => sY p.r p.g p.b | 1 => sU p.r p.b | 2 => sV p.r p.g p.b | _ => p.a
def sm (p q : Px) (n : Nat) : Bool := pval p n == pval q n
def b4 (x0 x1 x2 x3 : Bool) (n : Nat) : Bool := match n with
  | 0 => x0 | 1 => x1 | 2 => x2 | _ => x3
theorem idx4 (x0 x1 x2 x3 : Bool) (n : Nat) (hn : n < 4) (W : World) : (Instr.index 67 (.agg #[.bool x0, .bool x1, .bool x2, .bool x3]) (.int .i64 (n : Int))).run Try.prog W = .ok (.bool (b4 x0 x1 x2 x3 n)) W := by
  rcases (by omega : n = 0 ∨ n = 1 ∨ n = 2 ∨ n = 3) with rfl | rfl | rfl | rfl <;> rfl
theorem sm_b4 (a b c d e f g h : Int) (n : Nat) : sm ⟨a, b, c, d⟩ ⟨e, f, g, h⟩ n = b4 (sY a b c == sY e f g) (sU a c == sU e g) (sV a b c == sV e f g) (d == h) n := by
  match n with
  | 0 => rfl
  | 1 => rfl
  | 2 => rfl
  | n + 3 => rfl
theorem same_any (p q : Px) (n : Nat) (w : World) (hn : n < 4) (hp : Pc p) (hq : Pc q) : Calls Try.prog 21 #[p.v, q.v, .int .i64 n] w fun e w' => e = .returned (.bool (sm p q n)) ∧ Below w.heap.size w w' := by
  obtain ⟨hp0, hp1, hp2, hp3⟩ := hp
  obtain ⟨hq0, hq1, hq2, hq3⟩ := hq
  obtain ⟨a, b, c, d⟩ := p
  obtain ⟨e, f, g, h⟩ := q
  have HB : Hid (Below w.heap.size w ((w.alloc (.cells #[.int .u8 a, .int .u8 b, .int .u8 c, .int .u8 d] 23)).alloc (.cells #[.int .u8 e, .int .u8 f, .int .u8 g, .int .u8 h] 23))) := below1.alloc (by simp) _
  have HP : Hid (∀ V, Calls Try.prog 14 #[.int .u8 a, .int .u8 b, .int .u8 c] V fun e w' => e = .returned (.tuple #[.int .u8 (sY a b c), .int .u8 (sU a c), .int .u8 (sV a b c)]) ∧ V = w') := fun V => swap_any a b c V hp0 hp1 hp2
  have HQ : Hid (∀ V, Calls Try.prog 14 #[.int .u8 e, .int .u8 f, .int .u8 g] V fun e' w' => e' = .returned (.tuple #[.int .u8 (sY e f g), .int .u8 (sU e g), .int .u8 (sV e f g)]) ∧ V = w') := fun V => swap_any e f g V hq0 hq1 hq2
  rw [sm_b4]
  have hix := fun x0 x1 x2 x3 W => idx4 x0 x1 x2 x3 n hn W
  clear hp0 hp1 hp2 hp3 hq0 hq1 hq2 hq3
  generalize sY a b c = y1 at *
  generalize sY e f g = y2 at *
  generalize sU a c = u1 at *
  generalize sU e g = u2 at *
  generalize sV a b c = v1 at *
  generalize sV e f g = v2 at *
  go_enter Try.func21, Try.ntmps21
  go_wp2_with (first
    | (go_at_call 14; (with_reducible refine (HP.out _).mono ?_); rintro e' w1 ⟨rfl, rfl⟩)
    | (go_at_call 14; (with_reducible refine (HQ.out _).mono ?_); rintro e' w1 ⟨rfl, rfl⟩))
  go_ret
  exact ⟨rfl, HB.out⟩
/-! ### planes of a tile by number -/
def pln (n : Nat) (f : Nat → Px) : Nat → Int := fun i => pval (f i) n
theorem pval_ch {p : Px} (hp : Pc p) (n : Nat) : Ch (pval p n) := by
  match n with
  | 0 => exact b8_ch _
  | 1 => exact b8_ch _
  | 2 => exact b8_ch _
  | n + 3 => exact hp.2.2.2
/-- the byte number i of plane n of the residuals -/
theorem fwd_byte (k : Nat) (f : Nat → Px) (n i : Nat) (hn : n < 4) (hi : i < 64) : (fwd k f)[64 * n + i]? = some (u8 (res k (pln n f) i)) := by
  unfold fwd
  rw [bl_get _ 256 _ (by omega)]
  refine congrArg (fun x => some (u8 x)) ?_
  rcases (by omega : n = 0 ∨ n = 1 ∨ n = 2 ∨ n = 3) with rfl | rfl | rfl | rfl
  · unfold jn; rw [if_pos (by omega), show 64 * 0 + i = i by omega]; rfl
  · unfold jn; rw [if_neg (by omega), if_pos (by omega), show 64 * 1 + i - 64 = i by omega]; rfl
  · unfold jn; rw [if_neg (by omega), if_neg (by omega), if_pos (by omega), show 64 * 2 + i - 128 = i by omega]; rfl
  · unfold jn; rw [if_neg (by omega), if_neg (by omega), if_neg (by omega), show 64 * 3 + i - 192 = i by omega]; rfl
theorem pln_upd (n : Nat) (f : Nat → Px) (m : Nat) (p : Px) (i : Nat) (h : i ≠ m) : pln n (upd f m p) i = pln n f i := by unfold pln; rw [upd_other f p h]
/-- behind the change all is as it was -/
theorem res_upd (k n : Nat) (f : Nat → Px) (m : Nat) (p : Px) (i : Nat) (h : i < m) : res k (pln n (upd f m p)) i = res k (pln n f) i := by
  unfold res
  rw [pln_upd n f m p i (by omega), gs_ext k _ (pln n f) i (fun j hj => pln_upd n f m p j (by omega))]
theorem res_eq (k n : Nat) (f : Nat → Px) (m : Nat) (p : Px) (hf : Pc (f m)) (hp : Pc p) : (res k (pln n f) m == res k (pln n (upd f m p)) m) = sm (f m) p n := by
  unfold res sm
  rw [gs_ext k (pln n (upd f m p)) (pln n f) m (fun j hj => pln_upd n f m p j (by omega))]
  have h1 := pval_ch hf n
  have h2 := pval_ch hp n
  have e : pln n (upd f m p) m = pval p n := by unfold pln; rw [upd_self]
  have e2 : pln n f m = pval (f m) n := rfl
  rw [e, e2]
  generalize pval (f m) n = x at *
  generalize pval p n = y at *
  unfold Ch at *
  rw [Bool.eq_iff_iff, beq_iff_eq, beq_iff_eq]
  unfold b8
  omega
/-- the bytes of plane n behind the change's place -/
theorem ext_upd (k n : Nat) (f : Nat → Px) (m : Nat) (p : Px) (hn : n < 4) (hm : m < 64) : (str (fwd k (upd f m p))).extract (64 * n) (64 * n + m) = (str (fwd k f)).extract (64 * n) (64 * n + m) := by
  apply ByteArray.ext
  apply Array.toList_inj.1
  have e : ∀ l : List UInt8, ((str l).extract (64 * n) (64 * n + m)).data.toList = (l.drop (64 * n)).take m := fun l => by
    simp [str, ByteArray.data_extract]
  rw [e, e]
  apply List.ext_getElem?
  intro i
  by_cases hi : i < m
  · rw [List.getElem?_take_of_lt hi, List.getElem?_take_of_lt hi, List.getElem?_drop, List.getElem?_drop, fwd_byte k _ n i hn (by omega), fwd_byte k _ n i hn (by omega), res_upd k n f m p i hi]
  · rw [List.getElem?_eq_none (by rw [List.length_take]; omega), List.getElem?_eq_none (by rw [List.length_take]; omega)]
end Go.Proofs.Ytjaipjgnchpjcaa.P
