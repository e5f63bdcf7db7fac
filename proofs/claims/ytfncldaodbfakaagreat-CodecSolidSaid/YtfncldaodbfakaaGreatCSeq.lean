/-
  The adaptive arithmetic coder as plain mathematics: narrowing, shifting, writing, reading. Memory in a walk: blocks of one's own that hold what is listed, each block listed once; writers and readers in memory; bytes in slices of one's own.
-/
import Derived.Test.YtfncldaodbfakaaGreatRows
import Derived.WalkKit
import Derived.WalkSpells
import Derived.WalkLawsBesides
import Derived.Laws.BitsAllLaws
import Derived.PlainAid
import Derived.Outline
import Derived.Lib.Hide
import Derived.Laws.Rows
import Derived.Laws.CopyOwn
import Derived.Laws.OwnMore
import Derived.Lib.Strings
import Derived.Deep.AppendLies
import Derived.Deep.Draws
import Derived.StillTailTactics
import Derived.Deep.QuietTactic
import Derived.BigQuiet
import Derived.Deep.RegionHeld3
import Derived.Deep.Cut
import Derived.Deep.CutBlock
import Derived.Deep.CutRange
import Derived.Deep.RegionWith
import Derived.Deep.DeepCutAuto
import Derived.Deep.WholeRow
import Derived.Deep.MidRow
namespace Go.Proofs.YtfncldaodbfakaaGreat.C

structure Cd where
  p : Nat → Nat
  lo : Nat
  hi : Nat
def mid (c : Cd) (k : Nat) : Nat := c.lo + (c.hi - c.lo) / 4096 * c.p k
def lrn (q b : Nat) : Nat := if b = 1 then q + (4096 - q) / 32 else q - q / 32
def upd (f : Nat → Nat) (k v : Nat) : Nat → Nat := fun i => if i = k then v else f i
def nl (c : Cd) (k b : Nat) : Nat := if b = 1 then c.lo else mid c k + 1
def nh (c : Cd) (k b : Nat) : Nat := if b = 1 then mid c k else c.hi
/-- shifts, at most so many: the bytes removed and what is left -/
def shf : Nat → Nat → Nat → List UInt8 × Nat × Nat
  | 0, lo, hi => ([], lo, hi)
  | n + 1, lo, hi => if lo / 16777216 = hi / 16777216 then
      (UInt8.ofNat (lo / 16777216) :: (shf n (lo * 256 % 4294967296) ((hi * 256 + 255) % 4294967296)).1, (shf n (lo * 256 % 4294967296) ((hi * 256 + 255) % 4294967296)).2)
    else ([], lo, hi)
def out (c : Cd) (k b : Nat) : List UInt8 := (shf 4 (nl c k b) (nh c k b)).1
def stp (c : Cd) (k b : Nat) : Cd := ⟨upd c.p k (lrn (c.p k) b), (shf 4 (nl c k b) (nh c k b)).2.1, (shf 4 (nl c k b) (nh c k b)).2.2⟩
structure Ok (c : Cd) : Prop where
  lt : c.lo < c.hi
  hi : c.hi < 4294967296
  pr : ∀ k, 1 ≤ c.p k ∧ c.p k ≤ 4095
theorem lrn_ok {q : Nat} (b : Nat) (h : 1 ≤ q ∧ q ≤ 4095) : 1 ≤ lrn q b ∧ lrn q b ≤ 4095 := by unfold lrn; split <;> omega
theorem mid_btw {c : Cd} (h : Ok c) (k : Nat) : c.lo ≤ mid c k ∧ mid c k < c.hi := by
  have h1 := h.lt
  have h2 := (h.pr k).2
  unfold mid
  have h3 := Nat.mul_le_mul_left ((c.hi - c.lo) / 4096) h2
  generalize (c.hi - c.lo) / 4096 * c.p k = x at h3 ⊢
  have h4 : (c.hi - c.lo) / 4096 * 4096 ≤ c.hi - c.lo := Nat.div_mul_le_self ..
  generalize (c.hi - c.lo) / 4096 = e at h3 h4
  omega
/-- how wide an interval is at least when so many shifts may follow -/
def wid : Nat → Nat | 0 => 4294967296 | 1 => 16777216 | 2 => 65536 | 3 => 256 | _ => 1
structure Sh (m lo hb : Nat) : Prop where
  n : m ≤ 4
  le : lo ≤ hb
  hi : hb < 4294967296
  wd : wid m ≤ hb - lo + 1
theorem Sh.start {lo hi : Nat} (h1 : lo ≤ hi) (h2 : hi < 4294967296) : Sh 4 lo hi := ⟨by omega, h1, h2, by show 1 ≤ _; omega⟩
theorem Sh.pos {n lo hi : Nat} (h : Sh n lo hi) (e : lo / 16777216 = hi / 16777216) : ∃ m, n = m + 1 := by
  cases n with
  | zero => have := h.wd; have := h.hi; have := h.le; simp only [wid] at *; omega
  | succ m => exact ⟨m, rfl⟩
theorem Sh.next {n lo hi : Nat} (h : Sh (n + 1) lo hi) (e : lo / 16777216 = hi / 16777216) : Sh n (lo * 256 % 4294967296) ((hi * 256 + 255) % 4294967296) := by
  have h1 := h.n; have h2 := h.le; have h3 := h.hi; have h4 := h.wd
  refine ⟨by omega, by omega, by omega, ?_⟩
  have : n = 0 ∨ n = 1 ∨ n = 2 ∨ n = 3 := by omega
  rcases this with rfl | rfl | rfl | rfl <;> simp only [wid] at * <;> omega
theorem Sh.grows {n lo hi : Nat} (h : Sh (n + 1) lo hi) (e : lo / 16777216 = hi / 16777216) : hi - lo < (hi * 256 + 255) % 4294967296 - lo * 256 % 4294967296 := by
  have h1 := h.n; have h2 := h.le; have h3 := h.hi
  omega
theorem shf_ne {lo hi : Nat} (n : Nat) (h : ¬ lo / 16777216 = hi / 16777216) : shf n lo hi = ([], lo, hi) := by
  cases n with
  | zero => rfl
  | succ n => rw [shf, if_neg h]
theorem shf_eq {lo hi : Nat} (n : Nat) (h : lo / 16777216 = hi / 16777216) : shf (n + 1) lo hi = (UInt8.ofNat (lo / 16777216) :: (shf n (lo * 256 % 4294967296) ((hi * 256 + 255) % 4294967296)).1, (shf n (lo * 256 % 4294967296) ((hi * 256 + 255) % 4294967296)).2) := by
  rw [shf, if_pos h]
theorem shf_ok : ∀ (n lo hi : Nat), Sh n lo hi → (shf n lo hi).2.1 < (shf n lo hi).2.2 ∧ (shf n lo hi).2.2 < 4294967296 ∧ (shf n lo hi).1.length ≤ n := by
  intro n
  induction n with
  | zero =>
    intro lo hi h
    have h1 := h.wd; have h2 := h.hi; have h3 := h.le
    simp only [wid] at h1
    exact ⟨by show lo < hi; omega, h2, Nat.le_refl _⟩
  | succ n ih =>
    intro lo hi h
    by_cases e : lo / 16777216 = hi / 16777216
    · rw [shf_eq n e]
      have := ih _ _ (h.next e)
      exact ⟨this.1, this.2.1, by simpa using this.2.2⟩
    · rw [shf_ne _ e]
      have h2 := h.hi; have h3 := h.le
      refine ⟨?_, h2, Nat.zero_le _⟩
      show lo < hi
      rcases Nat.lt_or_ge lo hi with h4 | h4
      · exact h4
      · exact absurd (by rw [Nat.le_antisymm h3 h4]) e
theorem nar_sh {c : Cd} (h : Ok c) (k b : Nat) : Sh 4 (nl c k b) (nh c k b) := by
  have h1 := mid_btw h k
  have h2 := h.hi
  refine Sh.start ?_ ?_
  · unfold nl nh; split <;> omega
  · unfold nh; split <;> omega
theorem stp_ok {c : Cd} (h : Ok c) (k b : Nat) : Ok (stp c k b) := by
  have h1 := shf_ok _ _ _ (nar_sh h k b)
  refine ⟨h1.1, h1.2.1, fun i => ?_⟩
  show 1 ≤ upd _ _ _ i ∧ upd _ _ _ i ≤ 4095
  unfold upd
  split
  · exact lrn_ok b (h.pr k)
  · exact h.pr i
theorem out_len {c : Cd} (h : Ok c) (k b : Nat) : (out c k b).length ≤ 4 := (shf_ok _ _ _ (nar_sh h k b)).2.2

/-! ### writing -/
def wt : Cd → List (Nat × Nat) → List UInt8
  | _, [] => []
  | c, x :: l => out c x.1 x.2 ++ wt (stp c x.1 x.2) l
def fin : Cd → List (Nat × Nat) → Cd
  | c, [] => c
  | c, x :: l => fin (stp c x.1 x.2) l
theorem fin_app (c : Cd) (l m : List (Nat × Nat)) : fin c (l ++ m) = fin (fin c l) m := by
  induction l generalizing c with
  | nil => rfl
  | cons x l ih => exact ih _
theorem wt_app (c : Cd) (l m : List (Nat × Nat)) : wt c (l ++ m) = wt c l ++ wt (fin c l) m := by
  induction l generalizing c with
  | nil => rfl
  | cons x l ih => show out _ _ _ ++ wt _ (l ++ m) = (out _ _ _ ++ wt _ l) ++ wt (fin _ l) m; rw [ih, List.append_assoc]
theorem fin_snoc (c : Cd) (l : List (Nat × Nat)) (k b : Nat) : fin c (l ++ [(k, b)]) = stp (fin c l) k b := by rw [fin_app]; rfl
theorem wt_snoc (c : Cd) (l : List (Nat × Nat)) (k b : Nat) : wt c (l ++ [(k, b)]) = wt c l ++ out (fin c l) k b := by rw [wt_app]; simp [wt]
theorem fin_ok {c : Cd} (h : Ok c) (l : List (Nat × Nat)) : Ok (fin c l) := by
  induction l generalizing c with
  | nil => exact h
  | cons x l ih => exact ih (stp_ok h _ _)
theorem wt_len {c : Cd} (h : Ok c) (l : List (Nat × Nat)) : (wt c l).length ≤ 4 * l.length := by
  induction l generalizing c with
  | nil => exact Nat.le_refl _
  | cons x l ih =>
    have h1 := out_len h x.1 x.2
    have h2 := ih (stp_ok h x.1 x.2)
    show (out _ _ _ ++ wt _ l).length ≤ _
    rw [List.length_append, List.length_cons]; omega
def c0 : Cd := ⟨fun _ => 2048, 0, 4294967295⟩
theorem c0_ok : Ok c0 := ⟨by decide, by decide, fun _ => ⟨by show 1 ≤ 2048; omega, by show 2048 ≤ 4095; omega⟩⟩
def be4 (n : Nat) : List UInt8 := [UInt8.ofNat (n / 16777216), UInt8.ofNat (n / 65536), UInt8.ofNat (n / 256), UInt8.ofNat n]
theorem be4_len (n : Nat) : (be4 n).length = 4 := rfl
/-- what a writer's Bytes are after such bits -/
def byts (l : List (Nat × Nat)) : List UInt8 := wt c0 l ++ be4 (fin c0 l).lo

/-! ### reading -/
def val (f : Nat → Nat) (n : Nat) : Nat := f n * 16777216 + f (n + 1) * 65536 + f (n + 2) * 256 + f (n + 3)
def Byt (f : Nat → Nat) : Prop := ∀ i, f i < 256
theorem val_lt {f : Nat → Nat} (h : Byt f) (n : Nat) : val f n < 4294967296 := by
  have h0 := h n; have h1 := h (n + 1); have h2 := h (n + 2); have h3 := h (n + 3)
  unfold val; omega
theorem val_succ {f : Nat → Nat} (h : Byt f) (n : Nat) : val f (n + 1) = (val f n * 256 + f (n + 4)) % 4294967296 ∧ val f n / 16777216 = f n := by
  have h0 := h n; have h1 := h (n + 1); have h2 := h (n + 2); have h3 := h (n + 3); have h4 := h (n + 4)
  unfold val
  rw [show n + 1 + 1 = n + 2 from rfl, show n + 1 + 2 = n + 3 from rfl, show n + 1 + 3 = n + 4 from rfl]
  generalize f n = a0 at *; generalize f (n + 1) = a1 at *; generalize f (n + 2) = a2 at *; generalize f (n + 3) = a3 at *; generalize f (n + 4) = a4 at *
  omega
def rbit (c : Cd) (f : Nat → Nat) (n k : Nat) : Nat := if val f n ≤ mid c k then 1 else 0
theorem rbit_lt (c : Cd) (f : Nat → Nat) (n k : Nat) : rbit c f n k ≤ 1 := by unfold rbit; split <;> omega
def Rds (f : Nat → Nat) : Cd → Nat → List (Nat × Nat) → Prop
  | _, _, [] => True
  | c, n, x :: l => x.2 = rbit c f n x.1 ∧ Rds f (stp c x.1 x.2) (n + (out c x.1 x.2).length) l
/-- the bytes of l stand in f from n on -/
def At (f : Nat → Nat) (n : Nat) (l : List UInt8) : Prop := ∀ (i : Nat) (b : UInt8), l[i]? = some b → f (n + i) = b.toNat
theorem At.nil (f : Nat → Nat) (n : Nat) : At f n [] := fun i b h => by simp at h
theorem At.cons {f : Nat → Nat} {n : Nat} {b : UInt8} {l : List UInt8} (h0 : f n = b.toNat) (h : At f (n + 1) l) : At f n (b :: l) := fun i c hc => by
  cases i with
  | zero => simp at hc; subst hc; exact h0
  | succ i => have := h i c (by simpa using hc); rw [← this]; congr 1; omega
theorem At.tail {f : Nat → Nat} {n : Nat} {b : UInt8} {l : List UInt8} (h : At f n (b :: l)) : f n = b.toNat ∧ At f (n + 1) l :=
  ⟨h 0 b rfl, fun i c hc => by have := h (i + 1) c (by simpa using hc); rw [← this]; congr 1; omega⟩
theorem At.app {f : Nat → Nat} {n : Nat} {l m : List UInt8} (h : At f n l) (h2 : At f (n + l.length) m) : At f n (l ++ m) := by
  induction l generalizing n with
  | nil => exact h2
  | cons b l ih =>
    have h3 := h.tail
    exact At.cons h3.1 (ih h3.2 (by rw [show n + 1 + l.length = n + (b :: l).length by rw [List.length_cons]; omega]; exact h2))
theorem At.split {f : Nat → Nat} {n : Nat} {l m : List UInt8} (h : At f n (l ++ m)) : At f n l ∧ At f (n + l.length) m := by
  induction l generalizing n with
  | nil => exact ⟨At.nil _ _, h⟩
  | cons b l ih =>
    have h3 := At.tail h
    have h4 := ih h3.2
    exact ⟨At.cons h3.1 h4.1, by rw [List.length_cons, show n + (l.length + 1) = n + 1 + l.length by omega]; exact h4.2⟩
theorem top_u8 {a : Nat} (h : a < 4294967296) : (UInt8.ofNat (a / 16777216)).toNat = a / 16777216 := by
  rw [UInt8.toNat_ofNat']; omega
theorem shf_read {f : Nat → Nat} (hf : Byt f) : ∀ (j lo hi m : Nat), Sh j lo hi → lo ≤ val f m → val f m ≤ hi →
    At f m (shf j lo hi).1 ∧ (shf j lo hi).2.1 ≤ val f (m + (shf j lo hi).1.length) ∧ val f (m + (shf j lo hi).1.length) ≤ (shf j lo hi).2.2 := by
  intro j
  induction j with
  | zero => intro lo hi m _ h1 h2; exact ⟨At.nil _ _, h1, h2⟩
  | succ j ih =>
    intro lo hi m hs h1 h2
    by_cases e : lo / 16777216 = hi / 16777216
    · rw [shf_eq j e]
      have hv := val_succ hf m
      have h4 := hf (m + 4)
      have h5 := hs.hi
      have h6 := val_lt hf m
      have hn := ih _ _ (m + 1) (hs.next e) (by omega) (by omega)
      refine ⟨At.cons ?_ hn.1, ?_, ?_⟩
      · rw [top_u8 (by omega)]; omega
      · rw [List.length_cons, show ∀ q, m + (q + 1) = m + 1 + q from fun q => by omega]; exact hn.2.1
      · rw [List.length_cons, show ∀ q, m + (q + 1) = m + 1 + q from fun q => by omega]; exact hn.2.2
    · rw [shf_ne _ e]; exact ⟨At.nil _ _, h1, h2⟩
theorem shf_back {f : Nat → Nat} (hf : Byt f) : ∀ (j lo hi m : Nat), Sh j lo hi → At f m (shf j lo hi).1 → (shf j lo hi).2.1 ≤ val f (m + (shf j lo hi).1.length) → val f (m + (shf j lo hi).1.length) ≤ (shf j lo hi).2.2 →
    lo ≤ val f m ∧ val f m ≤ hi := by
  intro j
  induction j with
  | zero => intro lo hi m _ _ h1 h2; exact ⟨h1, h2⟩
  | succ j ih =>
    intro lo hi m hs ha h1 h2
    by_cases e : lo / 16777216 = hi / 16777216
    · rw [shf_eq j e] at ha h1 h2
      have h3 := At.tail ha
      rw [List.length_cons, show ∀ q, m + (q + 1) = m + 1 + q from fun q => by omega] at h1 h2
      have hn := ih _ _ (m + 1) (hs.next e) h3.2 h1 h2
      have hv := val_succ hf m
      have h4 := hf (m + 4)
      have h5 := hs.hi
      have h6 := val_lt hf m
      have h7 := h3.1
      rw [top_u8 (by have := hs.le; omega)] at h7
      have h8 := hs.le
      omega
    · rw [shf_ne _ e] at h1 h2; exact ⟨h1, h2⟩
theorem rds_read {f : Nat → Nat} (hf : Byt f) : ∀ (l : List (Nat × Nat)) (c : Cd) (n : Nat), Ok c → c.lo ≤ val f n → val f n ≤ c.hi → Rds f c n l →
    At f n (wt c l) ∧ (fin c l).lo ≤ val f (n + (wt c l).length) ∧ val f (n + (wt c l).length) ≤ (fin c l).hi := by
  intro l
  induction l with
  | nil => intro c n _ h1 h2 _; exact ⟨At.nil _ _, h1, h2⟩
  | cons x l ih =>
    intro c n ok h1 h2 hr
    have hb := hr.1
    have hm := mid_btw ok x.1
    have hs := shf_read hf 4 (nl c x.1 x.2) (nh c x.1 x.2) n (nar_sh ok _ _) (by unfold nl; rw [hb]; unfold rbit; split <;> simp <;> omega) (by unfold nh; rw [hb]; unfold rbit; split <;> simp <;> omega)
    have hn := ih (stp c x.1 x.2) _ (stp_ok ok _ _) hs.2.1 hs.2.2 hr.2
    refine ⟨At.app hs.1 hn.1, ?_, ?_⟩
    · show (fin (stp c x.1 x.2) l).lo ≤ val f (n + (out c x.1 x.2 ++ wt _ l).length)
      rw [List.length_append, ← Nat.add_assoc]; exact hn.2.1
    · show val f (n + (out c x.1 x.2 ++ wt _ l).length) ≤ _
      rw [List.length_append, ← Nat.add_assoc]; exact hn.2.2
theorem rds_back {f : Nat → Nat} (hf : Byt f) : ∀ (l : List (Nat × Nat)) (c : Cd) (n : Nat), Ok c → (∀ x ∈ l, x.2 ≤ 1) → At f n (wt c l) → (fin c l).lo ≤ val f (n + (wt c l).length) → val f (n + (wt c l).length) ≤ (fin c l).hi →
    Rds f c n l ∧ c.lo ≤ val f n ∧ val f n ≤ c.hi := by
  intro l
  induction l with
  | nil => intro c n _ _ _ h1 h2; exact ⟨trivial, h1, h2⟩
  | cons x l ih =>
    intro c n ok hb ha h1 h2
    have hsp : At f n (out c x.1 x.2 ++ wt (stp c x.1 x.2) l) := ha
    have h3 := hsp.split
    have e : n + (out c x.1 x.2 ++ wt (stp c x.1 x.2) l).length = n + (out c x.1 x.2).length + (wt (stp c x.1 x.2) l).length := by rw [List.length_append, ← Nat.add_assoc]
    have h1' : (fin (stp c x.1 x.2) l).lo ≤ val f (n + (out c x.1 x.2).length + (wt (stp c x.1 x.2) l).length) := by rw [← e]; exact h1
    have h2' : val f (n + (out c x.1 x.2).length + (wt (stp c x.1 x.2) l).length) ≤ (fin (stp c x.1 x.2) l).hi := by rw [← e]; exact h2
    have hn := ih (stp c x.1 x.2) _ (stp_ok ok _ _) (fun y hy => hb y (List.mem_cons_of_mem _ hy)) h3.2 h1' h2'
    have hs := shf_back hf 4 (nl c x.1 x.2) (nh c x.1 x.2) n (nar_sh ok _ _) h3.1 hn.2.1 hn.2.2
    have hm := mid_btw ok x.1
    have hx := hb x (List.mem_cons_self ..)
    have : x.2 = 0 ∨ x.2 = 1 := by omega
    refine ⟨⟨?_, hn.1⟩, ?_⟩
    · unfold rbit
      unfold nl nh at hs
      rcases this with h0 | h0 <;> rw [h0] at hs <;> simp at hs <;> rw [h0] <;> split <;> omega
    · unfold nl nh at hs
      rcases this with h0 | h0 <;> rw [h0] at hs <;> simp at hs <;> omega
theorem rds_snoc {f : Nat → Nat} : ∀ (l : List (Nat × Nat)) (c : Cd) (n k b : Nat), Rds f c n (l ++ [(k, b)]) ↔ Rds f c n l ∧ b = rbit (fin c l) f (n + (wt c l).length) k := by
  intro l
  induction l with
  | nil => intro c n k b; simp [Rds, fin, wt]
  | cons x l ih =>
    intro c n k b
    show (_ ∧ Rds f _ _ (l ++ [(k, b)])) ↔ (_ ∧ Rds f _ _ l) ∧ b = rbit (fin (stp c x.1 x.2) l) f (n + (out c x.1 x.2 ++ wt (stp c x.1 x.2) l).length) k
    rw [ih, List.length_append, ← Nat.add_assoc, and_assoc]

/-! ### strings -/
/-- the bytes of a string, zeros behind it -/
def sx (s : List UInt8) (i : Nat) : Nat := (s[i]?.map UInt8.toNat).getD 0
theorem sx_byt (s : List UInt8) : Byt (sx s) := fun i => by
  unfold sx
  cases s[i]? with
  | none => simp
  | some b => exact b.toNat_lt
theorem sx_at {s : List UInt8} {l : List UInt8} {n : Nat} (h : ∀ i b, l[i]? = some b → s[n + i]? = some b) : At (sx s) n l := fun i b hb => by
  unfold sx; rw [h i b hb]; rfl
theorem val_be4 {f : Nat → Nat} {n x : Nat} (hx : x < 4294967296) (h : At f n (be4 x)) : val f n = x := by
  have h0 := h 0 _ rfl; have h1 := h 1 _ rfl; have h2 := h 2 _ rfl; have h3 := h 3 _ rfl
  unfold val
  rw [Nat.add_zero] at h0
  rw [h0, h1, h2, h3, UInt8.toNat_ofNat', UInt8.toNat_ofNat', UInt8.toNat_ofNat', UInt8.toNat_ofNat']
  omega
/-- what a writer wrote is read back, whatever bytes follow -/
theorem back (l : List (Nat × Nat)) (hb : ∀ x ∈ l, x.2 ≤ 1) (more : List UInt8) : Rds (sx (byts l ++ more)) c0 0 l := by
  have ha : At (sx (byts l ++ more)) 0 (byts l) := sx_at fun i b h => by
    rw [Nat.zero_add, List.getElem?_append_left (List.getElem?_eq_some_iff.1 h).1, h]
  have h2 := At.split ha
  have ok := fin_ok c0_ok l
  have hv := val_be4 (by have := ok.lt; have := ok.hi; omega) h2.2
  exact (rds_back (sx_byt _) l c0 0 c0_ok hb h2.1 (by rw [hv]; exact Nat.le_refl _) (by rw [hv]; exact Nat.le_of_lt ok.lt)).1
/-- a string is a writer's bytes for the bits read from it exactly if the reader has used all of it and its code is the lower bound -/
theorem whole {s : List UInt8} {l : List (Nat × Nat)} (h : Rds (sx s) c0 0 l) : ((wt c0 l).length + 4 = s.length ∧ val (sx s) (wt c0 l).length = (fin c0 l).lo) ↔ byts l = s := by
  have hr := rds_read (sx_byt s) l c0 0 c0_ok (Nat.zero_le _) (by have := val_lt (sx_byt s) 0; show val _ 0 ≤ 4294967295; omega) h
  have ok := fin_ok c0_ok l
  rw [Nat.zero_add] at hr
  constructor
  · rintro ⟨h1, h2⟩
    have hb : At (sx s) (wt c0 l).length (be4 (fin c0 l).lo) := by
      have g0 := sx_byt s (wt c0 l).length; have g1 := sx_byt s ((wt c0 l).length + 1); have g2 := sx_byt s ((wt c0 l).length + 2); have g3 := sx_byt s ((wt c0 l).length + 3)
      unfold val at h2
      intro i b hb
      have hi : i < 4 := (List.getElem?_eq_some_iff.1 hb).1
      have : i = 0 ∨ i = 1 ∨ i = 2 ∨ i = 3 := by omega
      rw [← Nat.add_zero (wt c0 l).length] at h2 g0
      simp only [Nat.add_assoc, Nat.zero_add] at h2 g1 g2 g3
      rcases this with rfl | rfl | rfl | rfl <;> simp only [be4, List.getElem?_cons_zero, List.getElem?_cons_succ, Option.some.injEq] at hb <;> rw [← hb, UInt8.toNat_ofNat'] <;> omega
    have ha : At (sx s) 0 (byts l) := At.app hr.1 (by rw [Nat.zero_add]; exact hb)
    apply List.ext_getElem?
    intro i
    have hlen : (byts l).length = s.length := by unfold byts; rw [List.length_append, be4_len, h1]
    by_cases hi : i < (byts l).length
    · have h3 := ha i _ (List.getElem?_eq_getElem hi)
      have hi2 : i < s.length := by omega
      rw [Nat.zero_add] at h3
      unfold sx at h3
      rw [List.getElem?_eq_getElem hi2] at h3
      rw [List.getElem?_eq_getElem hi, List.getElem?_eq_getElem hi2]
      exact congrArg some (UInt8.toNat_inj.1 h3.symm)
    · rw [List.getElem?_eq_none (by omega), List.getElem?_eq_none (by omega)]
  · intro e
    have hlen : (byts l).length = s.length := by rw [e]
    unfold byts at hlen
    rw [List.length_append, be4_len] at hlen
    have ha : At (sx s) 0 (byts l) := sx_at fun i b h => by rw [Nat.zero_add, ← e, h]
    have h2 := (At.split ha).2
    rw [Nat.zero_add] at h2
    exact ⟨hlen, val_be4 (by have := ok.lt; have := ok.hi; omega) h2⟩
/-- the bits of a byte with their contexts -/
def bops (b : Nat) : List (Nat × Nat) := [((256 + b) / 256, b / 128 % 2), ((256 + b) / 128, b / 64 % 2), ((256 + b) / 64, b / 32 % 2), ((256 + b) / 32, b / 16 % 2), ((256 + b) / 16, b / 8 % 2), ((256 + b) / 8, b / 4 % 2), ((256 + b) / 4, b / 2 % 2), ((256 + b) / 2, b % 2)]
def sops (s : List UInt8) : List (Nat × Nat) := s.flatMap fun b => bops b.toNat
theorem bops_le (b : Nat) : ∀ x ∈ bops b, x.2 ≤ 1 := by
  intro x hx
  unfold bops at hx
  simp only [List.mem_cons, List.not_mem_nil, or_false] at hx
  rcases hx with rfl | rfl | rfl | rfl | rfl | rfl | rfl | rfl <;> simp only <;> omega
theorem sops_le (s : List UInt8) : ∀ x ∈ sops s, x.2 ≤ 1 := by
  intro x hx
  obtain ⟨b, _, hb⟩ := List.mem_flatMap.1 hx
  exact bops_le _ x hb
theorem sops_app (s t : List UInt8) : sops (s ++ t) = sops s ++ sops t := List.flatMap_append
theorem sops_snoc (s : List UInt8) (b : UInt8) : sops (s ++ [b]) = sops s ++ bops b.toNat := by rw [sops_app]; simp [sops]
theorem sops_len (s : List UInt8) : (sops s).length = 8 * s.length := by
  induction s with
  | nil => rfl
  | cons b s ih =>
    have : sops (b :: s) = bops b.toNat ++ sops s := by simp [sops]
    rw [this, List.length_append, ih, List.length_cons]
    show 8 + _ = _
    omega
def enc (s : List UInt8) : List UInt8 := byts (sops s)
/-- a byte read: the contexts follow one another -/
structure St1 where
  c : Cd
  n : Nat
  x : Nat
def rstp (f : Nat → Nat) (s : St1) : St1 := ⟨stp s.c s.x (rbit s.c f s.n s.x), s.n + (out s.c s.x (rbit s.c f s.n s.x)).length, 2 * s.x + rbit s.c f s.n s.x⟩
def rit (f : Nat → Nat) : Nat → St1 → St1
  | 0, s => s
  | j + 1, s => rstp f (rit f j s)
def rbyt (f : Nat → Nat) (c : Cd) (n : Nat) : St1 := rit f 8 ⟨c, n, 1⟩
def rlst (f : Nat → Nat) : Nat → List UInt8 × Cd × Nat
  | 0 => ([], c0, 0)
  | j + 1 => let r := rlst f j; let q := rbyt f r.2.1 r.2.2; (r.1 ++ [UInt8.ofNat q.x], q.c, q.n)
theorem rit_ok (f : Nat → Nat) : ∀ (j : Nat) (s : St1), Ok s.c → Ok (rit f j s).c
  | 0, _, h => h
  | j + 1, s, h => stp_ok (rit_ok f j s h) _ _
theorem rit_x (f : Nat → Nat) (c : Cd) (n : Nat) : ∀ j, 2 ^ j ≤ (rit f j ⟨c, n, 1⟩).x ∧ (rit f j ⟨c, n, 1⟩).x < 2 ^ (j + 1)
  | 0 => ⟨Nat.le_refl _, by show 1 < 2; omega⟩
  | j + 1 => by
    have h := rit_x f c n j
    have hb := rbit_lt (rit f j ⟨c, n, 1⟩).c f (rit f j ⟨c, n, 1⟩).n (rit f j ⟨c, n, 1⟩).x
    show _ ≤ 2 * (rit f j ⟨c, n, 1⟩).x + rbit _ f _ _ ∧ 2 * (rit f j ⟨c, n, 1⟩).x + rbit _ f _ _ < _
    rw [Nat.pow_succ] at h ⊢
    rw [Nat.pow_succ, Nat.pow_succ]
    omega
theorem rlst_ok (f : Nat → Nat) : ∀ j, Ok (rlst f j).2.1
  | 0 => c0_ok
  | j + 1 => rit_ok f 8 _ (rlst_ok f j)
theorem rlst_len (f : Nat → Nat) : ∀ j, (rlst f j).1.length = j
  | 0 => rfl
  | j + 1 => by show ((rlst f j).1 ++ [_]).length = _; rw [List.length_append, rlst_len f j]; rfl
theorem rds_app {f : Nat → Nat} : ∀ (l m : List (Nat × Nat)) (c : Cd) (n : Nat), Rds f c n (l ++ m) ↔ Rds f c n l ∧ Rds f (fin c l) (n + (wt c l).length) m := by
  intro l
  induction l with
  | nil => intro m c n; simp [Rds, fin, wt]
  | cons x l ih =>
    intro m c n
    show (_ ∧ Rds f _ _ (l ++ m)) ↔ (_ ∧ Rds f _ _ l) ∧ Rds f (fin (stp c x.1 x.2) l) (n + (out c x.1 x.2 ++ wt (stp c x.1 x.2) l).length) m
    rw [ih, List.length_append, ← Nat.add_assoc, and_assoc]
/-- one byte: its bits are those read exactly if the reader's last context has them -/
theorem rbyt_rds (f : Nat → Nat) (c : Cd) (n b : Nat) (hb : b < 256) : (Rds f c n (bops b) ↔ (rbyt f c n).x = 256 + b) ∧ ((rbyt f c n).x = 256 + b → (rbyt f c n).c = fin c (bops b) ∧ (rbyt f c n).n = n + (wt c (bops b)).length) := by
  have key : ∀ (l : List (Nat × Nat)) (j : Nat) (s : St1) (y : Nat), l = ((List.range j).reverse.map fun r => (y / 2 ^ (r + 1), y / 2 ^ r % 2)) → s.x = y / 2 ^ j → (Rds f s.c s.n l ↔ (rit f j s).x = y) ∧ ((rit f j s).x = y → (rit f j s).c = fin s.c l ∧ (rit f j s).n = s.n + (wt s.c l).length) := by
    have sh : ∀ (j : Nat) (s : St1), rit f (j + 1) s = rit f j (rstp f s) := by
      intro j
      induction j with
      | zero => intro s; rfl
      | succ j ih => intro s; show rstp f (rit f (j + 1) s) = rstp f (rit f j (rstp f s)); rw [ih]
    have xi : ∀ (j : Nat) (s : St1), (rit f j s).x / 2 ^ j = s.x := by
      intro j
      induction j with
      | zero => intro s; simp [rit]
      | succ j ih =>
        intro s
        rw [sh, Nat.pow_succ, ← Nat.div_div_eq_div_mul, ih]
        show (2 * s.x + rbit s.c f s.n s.x) / 2 = s.x
        have := rbit_lt s.c f s.n s.x
        omega
    intro l j
    induction j generalizing l with
    | zero => intro s y hl hx; subst hl; simp at hx; simp [Rds, rit, fin, wt, hx]
    | succ j ih =>
      intro s y hl hx
      rw [List.range_succ, List.reverse_append, List.map_append] at hl
      simp only [List.reverse_cons, List.reverse_nil, List.nil_append, List.map_cons, List.map_nil, List.singleton_append] at hl
      subst hl
      rw [sh]
      have hrx : (rstp f s).x = 2 * s.x + rbit s.c f s.n s.x := rfl
      have hle := rbit_lt s.c f s.n s.x
      by_cases hbit : y / 2 ^ j % 2 = rbit s.c f s.n s.x
      · have hx2 : (rstp f s).x = y / 2 ^ j := by
          rw [hrx, ← hbit, hx, Nat.pow_succ, ← Nat.div_div_eq_div_mul]
          omega
        have h := ih _ (rstp f s) y rfl hx2
        have hxs : y / 2 ^ (j + 1) = s.x := hx.symm
        have e1 : (rstp f s).c = stp s.c (y / 2 ^ (j + 1)) (y / 2 ^ j % 2) := by rw [hxs, hbit]; rfl
        have e2 : (rstp f s).n = s.n + (out s.c (y / 2 ^ (j + 1)) (y / 2 ^ j % 2)).length := by rw [hxs, hbit]; rfl
        rw [e1, e2] at h
        refine ⟨⟨fun hr => h.1.1 hr.2, fun hr => ⟨by show y / 2 ^ j % 2 = rbit s.c f s.n (y / 2 ^ (j + 1)); rw [hxs]; exact hbit, h.1.2 hr⟩⟩, fun hr => ?_⟩
        have h2 := h.2 hr
        refine ⟨h2.1, ?_⟩
        rw [h2.2]
        show _ = s.n + (out _ _ _ ++ wt _ _).length
        rw [List.length_append, Nat.add_assoc]
      · have hne : (rit f j (rstp f s)).x ≠ y := by
          intro hy
          have := xi j (rstp f s)
          rw [hy, hrx] at this
          omega
        refine ⟨⟨fun hr => absurd (by have := hr.1; rw [show y / 2 ^ (j + 1) = s.x from hx.symm] at this; exact this) hbit, fun hr => absurd hr hne⟩, fun hr => absurd hr hne⟩
  have h := key (bops b) 8 ⟨c, n, 1⟩ (256 + b) (by
    unfold bops
    simp only [show List.range 8 = [0, 1, 2, 3, 4, 5, 6, 7] from rfl, List.reverse_cons, List.reverse_nil, List.nil_append, List.cons_append, List.map_cons, List.map_nil]
    have hm : ∀ r, r ≤ 7 → (256 + b) / 2 ^ r % 2 = b / 2 ^ r % 2 := by
      intro r hr
      have : r = 0 ∨ r = 1 ∨ r = 2 ∨ r = 3 ∨ r = 4 ∨ r = 5 ∨ r = 6 ∨ r = 7 := by omega
      rcases this with rfl | rfl | rfl | rfl | rfl | rfl | rfl | rfl <;> simp only [Nat.reducePow] <;> omega
    rw [hm 7 (by omega), hm 6 (by omega), hm 5 (by omega), hm 4 (by omega), hm 3 (by omega), hm 2 (by omega), hm 1 (by omega), hm 0 (by omega)]
    simp only [Nat.reducePow, Nat.reduceAdd, Nat.div_one]) (by show 1 = (256 + b) / 2 ^ 8; omega)
  exact h
theorem rlst_rds (f : Nat → Nat) : ∀ j, Rds f c0 0 (sops (rlst f j).1) ∧ (rlst f j).2.1 = fin c0 (sops (rlst f j).1) ∧ (rlst f j).2.2 = (wt c0 (sops (rlst f j).1)).length
  | 0 => ⟨trivial, rfl, rfl⟩
  | j + 1 => by
    have ih := rlst_rds f j
    have hx := rit_x f (rlst f j).2.1 (rlst f j).2.2 8
    have hq : ∃ b, b < 256 ∧ (rbyt f (rlst f j).2.1 (rlst f j).2.2).x = 256 + b := ⟨(rbyt f (rlst f j).2.1 (rlst f j).2.2).x - 256, by unfold rbyt; omega, by unfold rbyt; omega⟩
    obtain ⟨b, hb, hxb⟩ := hq
    have h := rbyt_rds f (rlst f j).2.1 (rlst f j).2.2 b hb
    have h2 := h.2 hxb
    have eb : (UInt8.ofNat (rbyt f (rlst f j).2.1 (rlst f j).2.2).x).toNat = b := by rw [hxb, UInt8.toNat_ofNat']; omega
    show Rds f c0 0 (sops ((rlst f j).1 ++ [UInt8.ofNat (rbyt f (rlst f j).2.1 (rlst f j).2.2).x])) ∧ (rbyt f (rlst f j).2.1 (rlst f j).2.2).c = fin c0 (sops ((rlst f j).1 ++ [UInt8.ofNat (rbyt f (rlst f j).2.1 (rlst f j).2.2).x])) ∧
      (rbyt f (rlst f j).2.1 (rlst f j).2.2).n = (wt c0 (sops ((rlst f j).1 ++ [UInt8.ofNat (rbyt f (rlst f j).2.1 (rlst f j).2.2).x]))).length
    rw [sops_snoc, eb, rds_app, fin_app, wt_app, List.length_append, h2.1, h2.2, Nat.zero_add]
    have h1 := h.1.2 hxb
    rw [ih.2.1, ih.2.2] at h1 ⊢
    exact ⟨⟨ih.1, h1⟩, rfl, rfl⟩
theorem rlst_back (f : Nat → Nat) (s : List UInt8) (h : Rds f c0 0 (sops s)) : ∀ j, j ≤ s.length → (rlst f j).1 = s.take j
  | 0, _ => rfl
  | j + 1, hj => by
    have ih := rlst_back f s h j (by omega)
    have hr := rlst_rds f j
    have hs : s = s.take j ++ (s[j] :: s.drop (j + 1)) := by rw [List.getElem_cons_drop, List.take_append_drop]
    have h2 := h
    rw [hs, sops_app, rds_app] at h2
    have h3 := h2.2
    rw [show sops (s[j] :: s.drop (j + 1)) = bops s[j].toNat ++ sops (s.drop (j + 1)) from List.flatMap_cons, rds_app] at h3
    have h4 := h3.1
    rw [← ih, Nat.zero_add, ← hr.2.1, ← hr.2.2] at h4
    have hx := (rbyt_rds f _ _ _ s[j].toNat_lt).1.1 h4
    show (rlst f j).1 ++ [UInt8.ofNat (rbyt f (rlst f j).2.1 (rlst f j).2.2).x] = _
    rw [ih, hx, List.take_add_one, List.getElem?_eq_getElem (by omega)]
    congr 1
    show [_] = [_]
    congr 1
    apply UInt8.toNat_inj.1
    have := s[j].toNat_lt
    rw [UInt8.toNat_ofNat']; omega
/-- what the encoding of s, and then bytes more, is decoded to -/
theorem dec_back (s more : List UInt8) : (rlst (sx (enc s ++ more)) s.length).1 = s := by
  have h := rlst_back _ s (back (sops s) (sops_le s) more) s.length (Nat.le_refl _)
  exact h.trans (List.take_length ..)
/-- the reader has used all of s, and its code is the lower bound: then s is the encoding of what was read -/
theorem dec_whole (s : List UInt8) (j : Nat) : ((rlst (sx s) j).2.2 + 4 = s.length ∧ val (sx s) (rlst (sx s) j).2.2 = (rlst (sx s) j).2.1.lo) ↔ enc (rlst (sx s) j).1 = s := by
  have h := rlst_rds (sx s) j
  rw [h.2.1, h.2.2]
  exact whole h.1
end Go.Proofs.YtfncldaodbfakaaGreat.C

namespace Go.Proofs.YtfncldaodbfakaaGreat.C
open Go.RowKit
set_option maxRecDepth 100000
variable {W w w' : World} {L : List (Nat × Obj)}

structure HS (W : World) (L : List (Nat × Obj)) (w : World) : Prop where
  below : Below W.heap.size W w
  rows : ∀ x ∈ L, w.heap[x.1]? = some x.2
  own : ∀ x ∈ L, W.heap.size ≤ x.1
  nd : (L.map Prod.fst).Nodup
theorem HS.start (w : World) : HS w [] w := ⟨Below.refl _ _, by simp, by simp, by simp⟩
theorem HS.later (h : HS W L w) (hb : Below w.heap.size w w') : HS W L w' :=
  ⟨h.below.trans (hb.mono h.below.size), fun x hx => by
    have h1 := h.rows x hx
    rw [hb.block x.1 (Array.getElem?_eq_some_iff.1 h1).1]; exact h1, h.own, h.nd⟩
theorem HS.drew (h : HS W L w) : HS W L w.drew := h.later (Below.refl _ w).drew
theorem HS.drewN (h : HS W L w) (n : Nat) : HS W L (w.drewN n) := h.later ⟨rfl, rfl, rfl, Nat.le_refl _, fun _ _ => rfl⟩
theorem HS.row (h : HS W L w) {b : Nat} {o : Obj} (hm : (b, o) ∈ L) : w.heap[b]? = some o := h.rows _ hm
theorem HS.hd {b : Nat} {o : Obj} (h : HS W ((b, o) :: L) w) : w.heap[b]? = some o := h.row (List.mem_cons_self ..)
theorem HS.lt (h : HS W L w) {b : Nat} {o : Obj} (hm : (b, o) ∈ L) : b < w.heap.size := (Array.getElem?_eq_some_iff.1 (h.row hm)).1
theorem HS.cell (h : HS W L w) {b : Nat} {cs : Array Value} {t : TypeId} (hm : (b, .cells cs t) ∈ L) (j : Nat) : w.cell? ⟨b, j, none⟩ = cs[j]? := cell_of_row _ _ _ _ _ _ (h.row hm)
theorem HS.frozen (h : HS W L w) {b : Nat} {cs : Array Value} {t : TypeId} (hm : (b, .cells cs t) ∈ L) (j : Nat) : w.frozen? ⟨b, j, none⟩ = false := frozen_of_row _ _ _ _ _ (h.row hm)
theorem HS.perm {L' : List (Nat × Obj)} (h : HS W L w) (p : L'.Perm L) : HS W L' w :=
  ⟨h.below, fun x hx => h.rows x (p.mem_iff.1 hx), fun x hx => h.own x (p.mem_iff.1 hx), (p.map _).nodup_iff.2 h.nd⟩
theorem HS.sub {L' : List (Nat × Obj)} (h : HS W L w) (p : L'.Sublist L) : HS W L' w :=
  ⟨h.below, fun x hx => h.rows x (p.subset hx), fun x hx => h.own x (p.subset hx), h.nd.sublist (p.map _)⟩
theorem HS.tl {x : Nat × Obj} (h : HS W (x :: L) w) : HS W L w := h.sub (List.sublist_cons_self ..)
theorem HS.right {l : List (Nat × Obj)} (h : HS W (l ++ L) w) : HS W L w := h.sub (List.sublist_append_right ..)
theorem HS.left {l : List (Nat × Obj)} (h : HS W (l ++ L) w) : HS W l w := h.sub (List.sublist_append_left ..)
theorem HS.comm {l : List (Nat × Obj)} (h : HS W (l ++ L) w) : HS W (L ++ l) w := h.perm List.perm_append_comm
theorem HS.mid {l : List (Nat × Obj)} {x : Nat × Obj} (h : HS W (l ++ x :: L) w) : HS W (x :: (l ++ L)) w := h.perm List.perm_middle.symm
theorem HS.unmid {l : List (Nat × Obj)} {x : Nat × Obj} (h : HS W (x :: (l ++ L)) w) : HS W (l ++ x :: L) w := h.perm List.perm_middle
theorem HS.alloc (h : HS W L w) (o : Obj) : HS W ((w.heap.size, o) :: L) (w.alloc o) := by
  have h2 := h.later ((Below.refl _ w).alloc (Nat.le_refl _) o)
  refine ⟨h2.below, fun x hx => ?_, fun x hx => ?_, ?_⟩
  · rcases List.mem_cons.1 hx with rfl | hx
    · exact heap_alloc_new w o
    · exact h2.rows x hx
  · rcases List.mem_cons.1 hx with rfl | hx
    · exact h.below.size
    · exact h.own x hx
  · rw [List.map_cons, List.nodup_cons]
    refine ⟨fun hm => ?_, h.nd⟩
    obtain ⟨x, hx, e⟩ := List.mem_map.1 hm
    have := (Array.getElem?_eq_some_iff.1 (h.rows x hx)).1
    omega
theorem HS.ne {b : Nat} {o : Obj} (h : HS W ((b, o) :: L) w) : ∀ x ∈ L, x.1 ≠ b := fun x hx e => by
  have := h.nd
  rw [List.map_cons, List.nodup_cons] at this
  exact this.1 (List.mem_map.2 ⟨x, hx, e⟩)
theorem HS.rowset {b : Nat} {cs ds : Array Value} {t : TypeId} (h : HS W ((b, .cells cs t) :: L) w) : HS W ((b, .cells ds t) :: L) (w.setRow b ds) := by
  have hL := h.ne
  have hb : W.heap.size ≤ b := h.own (b, .cells cs t) (List.mem_cons_self ..)
  refine ⟨h.below.trans ⟨rfl, rfl, rfl, by simp [World.setRow], fun k hk => setRow_other w b k ds (by omega)⟩, fun x hx => ?_, fun x hx => ?_, h.nd⟩
  · rcases List.mem_cons.1 hx with rfl | hx
    · exact setRow_heap w b cs ds t (0, 0) h.hd
    · rw [setRow_other w b x.1 ds (hL x hx)]
      exact h.rows x (List.mem_cons_of_mem _ hx)
  · rcases List.mem_cons.1 hx with rfl | hx
    · exact hb
    · exact h.own x (List.mem_cons_of_mem _ hx)
theorem HS.put {b : Nat} {cs : Array Value} {t : TypeId} (h : HS W ((b, .cells cs t) :: L) w) (j : Nat) (v : Value) : HS W ((b, .cells (cs.setIfInBounds j v) t) :: L) (w.setCell ⟨b, j, none⟩ v) := by
  rw [setCell_eq_setRow w b j cs t (0, 0) v h.hd]
  exact h.rowset
theorem HS.call {P : Program} {f : FuncId} {args : Array Value} {v : Value} (h : HS W L w) (hc : Calls P f args w fun e w' => e = .returned v ∧ Below w.heap.size w w') :
    Calls P f args w fun e w' => e = .returned v ∧ HS W L w' := hc.mono fun _ _ ⟨h1, h2⟩ => ⟨h1, h.later h2⟩

theorem ret_int {k : IntKind} {a b : Int} (h : a = b) : Ending.returned (.int k a) = .returned (.int k b) := by rw [h]
theorem val_int {k : IntKind} {a b : Int} (h : a = b) : Value.int k a = .int k b := by rw [h]
theorem old_row {b : Nat} {o : Obj} (h : w.heap[b]? = some o) (hb : Below w.heap.size w w') : w'.heap[b]? = some o := (hb.block b (Array.getElem?_eq_some_iff.1 h).1).trans h
theorem i64_mask (k : Nat) (hk : k ≤ 62) (n : Int) : bits .and .i64 n ((2 ^ k - 1 : Nat) : Int) = n % ((2 ^ k : Nat) : Int) := by
  have hp : 2 ^ k ≤ 2 ^ 62 := Nat.pow_le_pow_right (by omega) hk
  have hp0 := Nat.two_pow_pos k
  have hm : (BitVec.ofInt 64 ((2 ^ k - 1 : Nat) : Int)).toNat = 2 ^ k - 1 := by
    rw [BitVec.ofInt_natCast, BitVec.toNat_ofNat]; exact Nat.mod_eq_of_lt (by omega)
  have key : (BitVec.ofInt 64 n &&& BitVec.ofInt 64 ((2 ^ k - 1 : Nat) : Int)).toNat = (n % ((2 ^ 64 : Nat) : Int)).toNat % 2 ^ k := by
    rw [BitVec.toNat_and, BitVec.toNat_ofInt, hm, Nat.and_two_pow_sub_one_eq_mod]
  have hn : (((n % ((2 ^ 64 : Nat) : Int)).toNat % 2 ^ k : Nat) : Int) = n % ((2 ^ k : Nat) : Int) := by
    rw [Int.natCast_emod, Int.toNat_of_nonneg (by omega)]
    exact Int.emod_emod_of_dvd n (Int.natCast_dvd_natCast.2 (Nat.pow_dvd_pow 2 (by omega)))
  show IntKind.i64.wrap ((BitVec.ofInt 64 n &&& BitVec.ofInt 64 ((2 ^ k - 1 : Nat) : Int)).toNat : Nat) = _
  rw [key, hn]
  have h1 : 0 ≤ n % ((2 ^ k : Nat) : Int) := Int.emod_nonneg _ (by omega)
  have h2 : n % ((2 ^ k : Nat) : Int) < ((2 ^ k : Nat) : Int) := Int.emod_lt_of_pos _ (by omega)
  exact IntWalk.i64_in _ ⟨by omega, by omega⟩

/-- a call that changes nothing, in a region of quiet calls -/
theorem quiet1 {P : Program} {f : FuncId} {args : Array Value} {w : World} {n : Nat} {v : Value} (h : Calls P f args (w.drewN n) fun e w' => e = .returned v ∧ w.drewN n = w') : Calls P f args (w.drewN n) fun e w'' => e = .returned v ∧ ∃ m, w'' = w.drewN m :=
  h.mono fun _ _ ⟨he, hm⟩ => ⟨he, n, hm.symm⟩
theorem below_drewN {w : World} (n : Nat) : Below w.heap.size w (w.drewN n) := ⟨rfl, rfl, rfl, Nat.le_refl _, fun _ _ => rfl⟩

/-! ### 256 numbers, and what follows them -/
def mc (d : Nat → Int) (r : List Value) : Array Value := (((List.range 256).map fun i => Value.int .i64 (d i)) ++ r).toArray
theorem mc_size (d : Nat → Int) (r : List Value) : (mc d r).size = 256 + r.length := by unfold mc; simp
theorem mc_lt (d : Nat → Int) (r : List Value) (i : Nat) (hi : i < 256) : (mc d r)[i]? = some (.int .i64 (d i)) := by
  unfold mc; rw [List.getElem?_toArray, List.getElem?_append_left (by simpa using hi), List.getElem?_map, List.getElem?_range hi]; rfl
theorem mc_ge (d : Nat → Int) (r : List Value) (j : Nat) : (mc d r)[256 + j]? = r[j]? := by
  unfold mc; rw [List.getElem?_toArray, List.getElem?_append_right (by simp)]; simp
theorem mc_ext {d e : Nat → Int} (r : List Value) (h : ∀ i, i < 256 → d i = e i) : mc d r = mc e r := by
  unfold mc; rw [List.map_congr_left fun i hi => by rw [h i (by simpa using hi)]]
def updI (d : Nat → Int) (k : Nat) (x : Int) : Nat → Int := fun i => if i = k then x else d i
theorem mc_put (d : Nat → Int) (r : List Value) (k : Nat) (x : Int) (hk : k < 256) : (mc d r).setIfInBounds k (.int .i64 x) = mc (updI d k x) r := by
  apply Array.ext_getElem?
  intro i
  rw [Array.getElem?_setIfInBounds]
  by_cases h : k = i
  · subst h
    rw [if_pos rfl, if_pos (by rw [mc_size]; omega), mc_lt _ _ _ hk]
    unfold updI; rw [if_pos rfl]
  · rw [if_neg h]
    by_cases hi : i < 256
    · rw [mc_lt _ _ _ hi, mc_lt _ _ _ hi]; unfold updI; rw [if_neg (fun e => h e.symm)]
    · obtain ⟨j, rfl⟩ : ∃ j, i = 256 + j := ⟨i - 256, by omega⟩
      rw [mc_ge, mc_ge]
theorem mc_set (d : Nat → Int) (r : List Value) (j : Nat) (v : Value) : (mc d r).setIfInBounds (256 + j) v = mc d (r.set j v) := by
  unfold mc
  rw [List.setIfInBounds_toArray, List.set_append_right _ _ (by simp)]
  simp
theorem mc_one (d : Nat → Int) (r : List Value) (h : ∀ v ∈ r, v.oneCell' = true) : (mc d r).all (·.oneCell') = true := by
  unfold mc
  apply all_oneCell_toArray
  intro v hv
  rcases List.mem_append.1 hv with hv | hv
  · obtain ⟨i, _, hi⟩ := List.mem_map.1 hv
    rw [← hi]; rfl
  · exact h v hv
abbrev mob (t : TypeId) (d : Nat → Int) (r : List Value) : Obj := .cells (mc d r) t
theorem HS.putd {b : Nat} {t : TypeId} {d : Nat → Int} {r : List Value} (h : HS W ((b, mob t d r) :: L) w) (k : Nat) (x : Int) (hk : k < 256) : HS W ((b, mob t (updI d k x) r) :: L) (w.setCell ⟨b, k, none⟩ (.int .i64 x)) := by
  have := h.put k (.int .i64 x)
  rwa [mc_put d r k x hk] at this
theorem HS.putr {b : Nat} {t : TypeId} {d : Nat → Int} {r : List Value} (h : HS W ((b, mob t d r) :: L) w) (j : Nat) (v : Value) : HS W ((b, mob t d (r.set j v)) :: L) (w.setCell ⟨b, 256 + j, none⟩ v) := by
  have := h.put (256 + j) v
  rwa [mc_set d r j v] at this
theorem HS.celld {b : Nat} {t : TypeId} {d : Nat → Int} {r : List Value} (h : HS W L w) (hm : (b, mob t d r) ∈ L) (k : Nat) (hk : k < 256) : w.cell? ⟨b, k, none⟩ = some (.int .i64 (d k)) := (h.cell hm k).trans (mc_lt d r k hk)
theorem HS.cellr {b : Nat} {t : TypeId} {d : Nat → Int} {r : List Value} (h : HS W L w) (hm : (b, mob t d r) ∈ L) (j : Nat) : w.cell? ⟨b, 256 + j, none⟩ = r[j]? := (h.cell hm (256 + j)).trans (mc_ge d r j)

theorem HS.hfro {b : Nat} {cs : Array Value} {t : TypeId} (h : HS W ((b, .cells cs t) :: L) w) (j : Nat) : w.frozen? ⟨b, j, none⟩ = false := frozen_of_row _ _ _ _ _ h.hd
theorem HS.hd_d {b : Nat} {t : TypeId} {d : Nat → Int} {r : List Value} (h : HS W ((b, mob t d r) :: L) w) (k : Nat) (hk : k < 256) : w.cell? ⟨b, k, none⟩ = some (.int .i64 (d k)) := (cell_of_row _ _ _ _ _ _ h.hd).trans (mc_lt d r k hk)
theorem HS.hd_r {b : Nat} {t : TypeId} {d : Nat → Int} {r : List Value} (h : HS W ((b, mob t d r) :: L) w) (j : Nat) : w.cell? ⟨b, 256 + j, none⟩ = r[j]? := (cell_of_row _ _ _ _ _ _ h.hd).trans (mc_ge d r j)
theorem HS.val {a : Addr} {k : IntKind} {x y : Int} (e : x = y) (h : HS W L (w.setCell a (.int k y))) : HS W L (w.setCell a (.int k x)) := e ▸ h
theorem drew_eq (w : World) : { w with drawn := w.drawn + 1 } = w.drew := rfl
theorem quiet_sym {P : Program} {f : FuncId} {args : Array Value} {w : World} {v : Value} (h : Calls P f args w fun e w' => e = .returned v ∧ w = w') : Calls P f args w fun e w' => e = .returned v ∧ w' = w := h.mono fun _ _ ⟨h1, h2⟩ => ⟨h1, h2.symm⟩

/-! ### bytes -/
def str (l : List UInt8) : ByteArray := ⟨l.toArray⟩
def bcell (b : UInt8) : Value := .int .u8 (b.toNat : Int)
def OwnsB (B : Nat) (w : World) (v : Value) (p : List UInt8) : Prop := w.ownsRow B 5 1 v p.length (p.map bcell)
theorem infoB : (Tryz.prog.info? 5).map (fun i => (i.zero, i.size, i.bytes)) = some (some (.int .u8 0), 1, 1) := by kernel_rfl
theorem info_parts {t : TypeId} {z : Value} {n m : Nat} (h : (Tryz.prog.info? t).map (fun i => (i.zero, i.size, i.bytes)) = some (some z, n, m)) : ∃ i, Tryz.prog.info? t = some i ∧ i.zero = some z ∧ i.size = n ∧ i.bytes = m := by
  cases hi : Tryz.prog.info? t with
  | none => rw [hi] at h; cases h
  | some i => rw [hi] at h; simp at h; exact ⟨i, rfl, h.1, h.2.1, h.2.2⟩
/-- a slice of one's own that holds the bytes, and the rows that it takes -/
def SL (v : Value) (bs : List UInt8) (l : List (Nat × Obj)) : Prop :=
  (v = .slice none 0 0 ∧ bs = [] ∧ l = []) ∨ ∃ g cap cur, v = .slice (some ⟨g, 0, none⟩) bs.length cap ∧ l = [(g, .cells cur 5)] ∧ bs.length ≤ cap ∧ cap ≤ maxLen ∧ cur.size = cap ∧ cur.toList.take bs.length = bs.map bcell
theorem SL.nil : SL (.slice none 0 0) [] [] := .inl ⟨rfl, rfl, rfl⟩
theorem SL.owns {v : Value} {bs : List UInt8} {l : List (Nat × Obj)} (h : SL v bs l) (hs : HS W (l ++ L) w) : OwnsB W.heap.size w v bs := by
  rcases h with ⟨rfl, rfl, rfl⟩ | ⟨g, cap, cur, rfl, rfl, h1, h2, h3, h4⟩
  · exact World.ownsRow_nil _ _ _ _
  · exact ⟨by simp, .inr ⟨g, cap, cur, rfl, hs.own (g, .cells cur 5) (by simp), hs.row (b := g) (by simp), h1, h2, by omega, by simpa using h4⟩⟩
theorem SL.lt {v : Value} {bs : List UInt8} {l : List (Nat × Obj)} (h : SL v bs l) (hs : HS W (l ++ L) w) : ∀ k, v.ownBlock = some k → W.heap.size ≤ k ∧ k < w.heap.size ∧ ∀ x ∈ L, x.1 ≠ k := by
  intro k hk
  rcases h with ⟨rfl, rfl, rfl⟩ | ⟨g, cap, cur, rfl, rfl, h1, h2, h3, h4⟩
  · cases hk
  · have : g = k := by simpa [Value.ownBlock] using hk
    subst this
    exact ⟨hs.own (g, .cells cur 5) (by simp), hs.lt (b := g) (o := .cells cur 5) (by simp), hs.ne⟩
theorem SL.grown {v v' : Value} {bs cs : List UInt8} {l : List (Nat × Obj)} (h : SL v bs l) (hs : HS W (l ++ L) w) (ho : w'.ownsRow W.heap.size 5 1 v' cs.length (cs.map bcell)) (hg : w.grownBy w' v.ownBlock)
    (hb : v'.ownBlock = v.ownBlock ∨ v'.ownBlock = some w.heap.size) : ∃ l', SL v' cs l' ∧ HS W (l' ++ L) w' := by
  have hlt := h.lt hs
  have hR : HS W L w' := ⟨h.owns hs |> fun _ => hs.below.grown hg hs.below.size (fun k hk => (hlt k hk).1), fun x hx => by
      have h1 := hs.right.rows x hx
      have h2 := (Array.getElem?_eq_some_iff.1 h1).1
      rw [hg.block x.1 h2 (fun e => (hlt x.1 e.symm).2.2 x hx rfl)]; exact h1, hs.right.own, hs.right.nd⟩
  obtain ⟨_, ⟨rfl, h0⟩ | ⟨g, cap, cur, rfl, h1, h2, h3, h4, h5, h6⟩⟩ := ho
  · have : cs = [] := List.eq_nil_of_length_eq_zero h0
    subst this
    exact ⟨[], SL.nil, hR⟩
  · refine ⟨[(g, .cells cur 5)], .inr ⟨g, cap, cur, rfl, rfl, h3, h4, by omega, by simpa using h6⟩, hR.below, fun x hx => ?_, fun x hx => ?_, ?_⟩
    · rcases List.mem_cons.1 hx with rfl | hx
      · exact h2
      · exact hR.rows x hx
    · rcases List.mem_cons.1 hx with rfl | hx
      · exact h1
      · exact hR.own x hx
    · show (g :: L.map Prod.fst).Nodup
      rw [List.nodup_cons]
      refine ⟨fun hm => ?_, hR.nd⟩
      obtain ⟨x, hx, e⟩ := List.mem_map.1 hm
      have h7 : some g = v.ownBlock ∨ some g = some w.heap.size := hb
      rcases h7 with h7 | h7
      · exact (hlt g h7.symm).2.2 x hx e
      · have := (Array.getElem?_eq_some_iff.1 (hs.right.rows x hx)).1
        simp at h7; omega
theorem owns_conv {B : Nat} {w : World} {v : Value} {p : List UInt8} (h : OwnsB B w v p) : (convert 84 9 v).run Tryz.prog w = .ok (.string (str p)) w := by
  obtain ⟨hl, h | ⟨g, cap, cur, rfl, hg, hh, hn, hc, hs, ht⟩⟩ := h
  · obtain ⟨rfl, h0⟩ := h
    have : p = [] := List.eq_nil_of_length_eq_zero h0
    subst this
    exact run_convert_bytes_nil w _ _ Tryz.underlying84 Tryz.underlying5 _ _ _ Tryz.underlying9
  · refine run_convert_bytes_back w _ _ _ ⟨g, 0, none⟩ cap p Tryz.underlying84 Tryz.underlying5 Tryz.underlying9 fun j hj => ?_
    have hadd : (⟨g, 0, none⟩ : Addr).add j = ⟨g, j, none⟩ := by unfold Addr.add; split <;> simp_all
    rw [hadd, cell_of_row _ _ _ _ _ _ hh]
    have h2 : (cur.toList.take (p.length * 1))[j]? = (p.map bcell)[j]? := by rw [ht]
    rw [List.getElem?_take_of_lt (by omega)] at h2
    rw [← Array.getElem?_toList, h2]; simp [hj, bcell]
/-- what is appended: nothing, or bytes that stand in memory -/
def Src (w : World) (y : Value) (ms : List UInt8) : Prop := (y = .slice none 0 0 ∧ ms = []) ∨ ∃ q c, y = .slice (some ⟨q, 0, none⟩) ms.length c ∧ ∀ j u, (ms.map bcell)[j]? = some u → w.cell? ((⟨q, 0, none⟩ : Addr).add j) = some u
theorem Src.one (q : Nat) (b : UInt8) (hq : w.heap[q]? = some (.cells #[.int .u8 (b.toNat : Int)] 5)) : Src w (.slice (some ⟨q, 0, none⟩) 1 1) [b] := by
  refine .inr ⟨q, 1, rfl, fun j u hj => ?_⟩
  have hadd : (⟨q, 0, none⟩ : Addr).add j = ⟨q, j, none⟩ := by unfold Addr.add; split <;> simp_all
  rw [hadd, cell_of_row _ _ _ _ _ _ hq]
  match j with
  | 0 => simpa [bcell] using hj
  | j + 1 => simp at hj
theorem Src.one' (q : Nat) (b : UInt8) {y : Int} (e : y = (b.toNat : Int)) (hq : w.heap[q]? = some (.cells #[.int .u8 y] 5)) : Src w (.slice (some ⟨q, 0, none⟩) 1 1) [b] := Src.one q b (by rw [← e]; exact hq)
theorem Src.of {v : Value} {bs : List UInt8} {l : List (Nat × Obj)} (h : SL v bs l) (hs : HS W l w) : Src w v bs := by
  rcases h with ⟨rfl, rfl, rfl⟩ | ⟨g, cap, cur, rfl, rfl, h1, h2, h3, h4⟩
  · exact .inl ⟨rfl, rfl⟩
  · refine .inr ⟨g, cap, rfl, fun j u hj => ?_⟩
    have hadd : (⟨g, 0, none⟩ : Addr).add j = ⟨g, j, none⟩ := by unfold Addr.add; split <;> simp_all
    rw [hadd, cell_of_row _ _ _ _ _ _ (hs.row (b := g) (o := .cells cur 5) (by simp))]
    have hl : j < bs.length := by have := (List.getElem?_eq_some_iff.1 hj).1; simpa using this
    rw [← h4, List.getElem?_take_of_lt hl] at hj
    rw [← hj]; exact (Array.getElem?_toList ..).symm
theorem run_app {v y : Value} {bs ms : List UInt8} {l : List (Nat × Obj)} (ty : TypeId) (h : SL v bs l) (hs : HS W (l ++ L) w) (hy : Src w y ms) (hlen : bs.length + ms.length ≤ 1000000) :
    ∃ v' w' l', (Builtin.append_ #[84, 84] ty #[v, y]).run Tryz.prog w = .ok v' w' ∧ SL v' (bs ++ ms) l' ∧ HS W (l' ++ L) w' := by
  obtain ⟨i0, hi, hz0, hz1, hz2⟩ := info_parts infoB
  rcases hy with ⟨rfl, rfl⟩ | ⟨q, c, rfl, hm⟩
  · exact ⟨v, w, l, run_append_owned_none w W.heap.size 84 ty 5 i0 1 Tryz.underlying84 hi v bs.length (bs.map bcell) (h.owns hs), by rw [List.append_nil]; exact h, hs⟩
  · obtain ⟨v', w', h1, h2, h3, _, h5⟩ := run_append_own_at (P := Tryz.prog) w W.heap.size 84 ty 5 i0 (.int .u8 0) 1 1 Tryz.underlying84 hi hz0 hz1 hz2 rfl (by decide) v bs.length (bs.map bcell) (h.owns hs) ⟨q, 0, none⟩ ms.length c (ms.map bcell) (by simp) hm
      (by intro u hu; simp at hu; obtain ⟨b, _, rfl⟩ := hu; rfl) (by unfold maxLen; omega) (by omega) hs.below.size
    have h2' : w'.ownsRow W.heap.size 5 1 v' (bs ++ ms).length ((bs ++ ms).map bcell) := by rw [List.length_append, List.map_append]; exact h2
    obtain ⟨l', h6, h7⟩ := h.grown hs h2' h3 h5
    exact ⟨v', w', l', h1, h6, h7⟩
/-- 'append' behind a slice of one's own -/
theorem wp_app {o : Oper} {a : Act} {K : Act → World → Prop} {Q : Exit → Act → World → Prop} (s x : Operand) (ho : o.op = .call { callee := .builtin .append, args := #[s, x], argTypes := #[84, 84] })
    (v y : Value) (bs ms : List UInt8) (l : List (Nat × Obj)) (hv : a.eval s = v) (hx : a.eval x = y) (h : SL v bs l) (hs : HS W (l ++ L) w) (hy : Src w y ms) (hlen : bs.length + ms.length ≤ 1000000)
    (k : ∀ v' w' l', SL v' (bs ++ ms) l' → HS W (l' ++ L) w' → K (a.put o.dst v') w') : o.wp Tryz.prog a w K Q := by
  obtain ⟨v', w', l', hr, h1, h2⟩ := run_app o.type h hs hy hlen
  unfold Oper.wp execOp
  simp only [ho, resolve, invoke, builtin, Sem.run_bind, Sem.run_pure, Result.andThen_ok, List.map_toArray, List.map_cons, List.map_nil, hv, hx, hr]
  exact k v' w' l' h1 h2
theorem wpList_app {ops : Array Oper} {rest : List Oper} {o : Oper} {a : Act} {Q : Exit → Act → World → Prop} (hg : o.guard = none) (s x : Operand) (ho : o.op = .call { callee := .builtin .append, args := #[s, x], argTypes := #[84, 84] })
    (v y : Value) (bs ms : List UInt8) (l : List (Nat × Obj)) (hv : a.eval s = v) (hx : a.eval x = y) (h : SL v bs l) (hs : HS W (l ++ L) w) (hy : Src w y ms) (hlen : bs.length + ms.length ≤ 1000000)
    (k : ∀ v' w' l', SL v' (bs ++ ms) l' → HS W (l' ++ L) w' → wpList Tryz.prog ops Q rest (a.put o.dst v') w') : wpList Tryz.prog ops Q (o :: rest) a w :=
  wpList_plain hg fun _ hK => wp_app s x ho v y bs ms l hv hx h hs hy hlen fun v' w' l' h1 h2 => hK _ _ (k v' w' l' h1 h2)
end Go.Proofs.YtfncldaodbfakaaGreat.C
