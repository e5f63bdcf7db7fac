/-
  SHA-256 in plain numbers: words, rounds, padding, blocks; the hexadecimal form. Nothing of the program stands here.
-/
namespace Go.Proofs.YtligojllbnahcaaDoor.D

def putN : Nat → Nat → List UInt8
  | _, 0 => []
  | u, k + 1 => putN (u / 256) k ++ [UInt8.ofNat (u % 256)]
theorem putN_len (u k : Nat) : (putN u k).length = k := by
  induction k generalizing u with
  | zero => rfl
  | succ k ih => simp [putN, ih]

namespace Sha
def rotr (x n : Nat) : Nat := x >>> n ||| x <<< (32 - n) % 4294967296
def s0 (x : Nat) : Nat := rotr x 7 ^^^ rotr x 18 ^^^ x >>> 3
def s1 (x : Nat) : Nat := rotr x 17 ^^^ rotr x 19 ^^^ x >>> 10
def S0 (x : Nat) : Nat := rotr x 2 ^^^ rotr x 13 ^^^ rotr x 22
def S1 (x : Nat) : Nat := rotr x 6 ^^^ rotr x 11 ^^^ rotr x 25
def ch (e f g : Nat) : Nat := (e &&& f) ^^^ ((4294967295 - e) &&& g)
def maj (a b c : Nat) : Nat := (a &&& b) ^^^ (a &&& c) ^^^ (b &&& c)

theorem rotr_lt {x n : Nat} (h : x < 4294967296) : rotr x n < 4294967296 := by
  unfold rotr
  exact Nat.or_lt_two_pow (n := 32) (Nat.lt_of_le_of_lt (by rw [Nat.shiftRight_eq_div_pow]; exact Nat.div_le_self _ _) h) (Nat.mod_lt _ (by decide))
theorem shr_lt {x n : Nat} (h : x < 4294967296) : x >>> n < 4294967296 := Nat.lt_of_le_of_lt (by rw [Nat.shiftRight_eq_div_pow]; exact Nat.div_le_self _ _) h
theorem xor_lt {x y : Nat} (hx : x < 4294967296) (hy : y < 4294967296) : x ^^^ y < 4294967296 := Nat.xor_lt_two_pow (n := 32) hx hy
theorem and_lt {x y : Nat} (hy : y < 4294967296) : x &&& y < 4294967296 := Nat.and_lt_two_pow (n := 32) x hy
theorem s0_lt {x : Nat} (h : x < 4294967296) : s0 x < 4294967296 := xor_lt (xor_lt (rotr_lt h) (rotr_lt h)) (shr_lt h)
theorem s1_lt {x : Nat} (h : x < 4294967296) : s1 x < 4294967296 := xor_lt (xor_lt (rotr_lt h) (rotr_lt h)) (shr_lt h)
theorem S0_lt {x : Nat} (h : x < 4294967296) : S0 x < 4294967296 := xor_lt (xor_lt (rotr_lt h) (rotr_lt h)) (rotr_lt h)
theorem S1_lt {x : Nat} (h : x < 4294967296) : S1 x < 4294967296 := xor_lt (xor_lt (rotr_lt h) (rotr_lt h)) (rotr_lt h)
theorem ch_lt {e f g : Nat} (hf : f < 4294967296) (hg : g < 4294967296) : ch e f g < 4294967296 := xor_lt (and_lt hf) (and_lt hg)
theorem maj_lt {a b c : Nat} (hb : b < 4294967296) (hc : c < 4294967296) : maj a b c < 4294967296 := xor_lt (xor_lt (and_lt hb) (and_lt hc)) (and_lt hc)

theorem not_bit {e : Nat} (h : e < 4294967296) (i : Nat) : (4294967295 - e).testBit i = (decide (i < 32) && !e.testBit i) := by
  have := Nat.testBit_two_pow_sub_succ (n := 32) h i
  rw [← this]; congr 1; omega
/-- the reference's forms -/
theorem ch_or {e f g : Nat} (h : e < 4294967296) : (e &&& f) ||| ((4294967295 - e) &&& g) = ch e f g := by
  unfold ch
  apply Nat.eq_of_testBit_eq
  intro i
  simp only [Nat.testBit_or, Nat.testBit_xor, Nat.testBit_and, not_bit h]
  cases e.testBit i <;> cases f.testBit i <;> cases g.testBit i <;> simp
theorem maj_or (a b c : Nat) : ((a &&& b) ||| (a &&& c)) ||| (b &&& c) = maj a b c := by
  unfold maj
  apply Nat.eq_of_testBit_eq
  intro i
  simp only [Nat.testBit_or, Nat.testBit_xor, Nat.testBit_and]
  cases a.testBit i <;> cases b.testBit i <;> cases c.testBit i <;> simp
theorem not_xor {e : Nat} (h : e < 4294967296) : 4294967295 ^^^ e = 4294967295 - e := by
  apply Nat.eq_of_testBit_eq
  intro i
  rw [not_bit h, Nat.testBit_xor]
  have : (4294967295 : Nat) = 2 ^ 32 - 1 := by decide
  rw [this, Nat.testBit_two_pow_sub_one]
  by_cases hi : i < 32
  · simp [hi]
  · have : e.testBit i = false := Nat.testBit_lt_two_pow (Nat.lt_of_lt_of_le h (Nat.pow_le_pow_right (n := 2) (by omega) (show 32 ≤ i by omega)))
    simp [hi, this]

def byt (s : List UInt8) (i : Nat) : Nat := (s.getD i 0).toNat
theorem byt_lt (s : List UInt8) (i : Nat) : byt s i < 256 := (s.getD i 0).toNat_lt
def word (s : List UInt8) (i : Nat) : Nat := byt s (4 * i) * 16777216 + byt s (4 * i + 1) * 65536 + byt s (4 * i + 2) * 256 + byt s (4 * i + 3)
theorem word_lt (s : List UInt8) (i : Nat) : word s i < 4294967296 := by
  have h0 := byt_lt s (4 * i); have h1 := byt_lt s (4 * i + 1); have h2 := byt_lt s (4 * i + 2); have h3 := byt_lt s (4 * i + 3)
  unfold word; omega
theorem or_sum {a b c d : Nat} (hb : b < 256) (hc : c < 256) (hd : d < 256) : ((a * 16777216 ||| b * 65536) ||| c * 256) ||| d = a * 16777216 + b * 65536 + c * 256 + d := by
  have e1 := Nat.two_pow_add_eq_or_of_lt (i := 24) (b := b * 65536) (by omega) a
  rw [show (2 : Nat) ^ 24 * a = a * 16777216 from by rw [Nat.mul_comm]] at e1
  rw [← e1]
  have e2 := Nat.two_pow_add_eq_or_of_lt (i := 16) (b := c * 256) (by omega) (a * 256 + b)
  rw [show (2 : Nat) ^ 16 * (a * 256 + b) = a * 16777216 + b * 65536 from by rw [show (2 : Nat) ^ 16 = 65536 from rfl]; omega] at e2
  rw [← e2]
  have e3 := Nat.two_pow_add_eq_or_of_lt (i := 8) (b := d) (by omega) (a * 65536 + b * 256 + c)
  rw [show (2 : Nat) ^ 8 * (a * 65536 + b * 256 + c) = a * 16777216 + b * 65536 + c * 256 from by rw [show (2 : Nat) ^ 8 = 256 from rfl]; omega] at e3
  rw [← e3]

/-- the first n words of the schedule -/
def schedL (s : List UInt8) : Nat → List Nat
  | 0 => []
  | n + 1 => schedL s n ++ [if n < 16 then word s n else (s1 ((schedL s n).getD (n - 2) 0) + (schedL s n).getD (n - 7) 0 + s0 ((schedL s n).getD (n - 15) 0) + (schedL s n).getD (n - 16) 0) % 4294967296]
theorem schedL_len (s : List UInt8) (n : Nat) : (schedL s n).length = n := by
  induction n with
  | zero => rfl
  | succ n ih => simp [schedL, ih]
def wd (s : List UInt8) (i : Nat) : Nat := (schedL s (i + 1)).getD i 0
theorem schedL_get (s : List UInt8) {j n : Nat} (h : j < n) : (schedL s n).getD j 0 = wd s j := by
  induction n with
  | zero => omega
  | succ n ih =>
    by_cases hj : j < n
    · rw [← ih hj, schedL, List.getD_eq_getElem?_getD, List.getElem?_append_left (by rw [schedL_len]; exact hj), ← List.getD_eq_getElem?_getD]
    · obtain rfl : j = n := by omega
      rfl
theorem wd_new (s : List UInt8) (n : Nat) : wd s n = if n < 16 then word s n else (s1 ((schedL s n).getD (n - 2) 0) + (schedL s n).getD (n - 7) 0 + s0 ((schedL s n).getD (n - 15) 0) + (schedL s n).getD (n - 16) 0) % 4294967296 := by
  unfold wd
  rw [schedL, List.getD_eq_getElem?_getD, List.getElem?_append_right (by rw [schedL_len]; exact Nat.le_refl _), schedL_len]; simp
theorem wd_low (s : List UInt8) {i : Nat} (h : i < 16) : wd s i = word s i := by rw [wd_new, if_pos h]
theorem wd_high (s : List UInt8) {i : Nat} (h : 16 ≤ i) : wd s i = (s1 (wd s (i - 2)) + wd s (i - 7) + s0 (wd s (i - 15)) + wd s (i - 16)) % 4294967296 := by
  rw [wd_new, if_neg (by omega), schedL_get s (by omega), schedL_get s (by omega), schedL_get s (by omega), schedL_get s (by omega)]
theorem wd_lt (s : List UInt8) (i : Nat) : wd s i < 4294967296 := by
  by_cases h : i < 16
  · rw [wd_low s h]; exact word_lt s i
  · rw [wd_high s (by omega)]; exact Nat.mod_lt _ (by decide)

def KL : List Nat := [1116352408, 1899447441, 3049323471, 3921009573, 961987163, 1508970993, 2453635748, 2870763221, 3624381080, 310598401, 607225278, 1426881987, 1925078388, 2162078206, 2614888103, 3248222580, 3835390401, 4022224774, 264347078, 604807628, 770255983, 1249150122, 1555081692, 1996064986, 2554220882, 2821834349, 2952996808, 3210313671, 3336571891, 3584528711, 113926993, 338241895, 666307205, 773529912, 1294757372, 1396182291, 1695183700, 1986661051, 2177026350, 2456956037, 2730485921, 2820302411, 3259730800, 3345764771, 3516065817, 3600352804, 4094571909, 275423344, 430227734, 506948616, 659060556, 883997877, 958139571, 1322822218, 1537002063, 1747873779, 1955562222, 2024104815, 2227730452, 2361852424, 2428436474, 2756734187, 3204031479, 3329325298]
def K (i : Nat) : Nat := KL.getD i 0
theorem K_lt (i : Nat) : K i < 4294967296 := by
  by_cases h : i < 64
  · have : ∀ j : Fin 64, K j.val < 4294967296 := by decide +kernel
    exact this ⟨i, h⟩
  · unfold K; rw [List.getD_eq_getElem?_getD, List.getElem?_eq_none (by have : KL.length = 64 := rfl; omega)]; decide

/-- the eight words of a hash value -/
structure St where
  a : Nat
  b : Nat
  c : Nat
  d : Nat
  e : Nat
  f : Nat
  g : Nat
  h : Nat
deriving DecidableEq

structure St.ok (s : St) : Prop where
  a : s.a < 4294967296
  b : s.b < 4294967296
  c : s.c < 4294967296
  d : s.d < 4294967296
  e : s.e < 4294967296
  f : s.f < 4294967296
  g : s.g < 4294967296
  h : s.h < 4294967296

def t1 (s : St) (k w : Nat) : Nat := (s.h + S1 s.e + ch s.e s.f s.g + k + w) % 4294967296
def t2 (s : St) : Nat := (S0 s.a + maj s.a s.b s.c) % 4294967296
def round (s : St) (k w : Nat) : St := { a := (t1 s k w + t2 s) % 4294967296, b := s.a, c := s.b, d := s.c, e := (s.d + t1 s k w) % 4294967296, f := s.e, g := s.f, h := s.g }
def add (s t : St) : St := { a := (s.a + t.a) % 4294967296, b := (s.b + t.b) % 4294967296, c := (s.c + t.c) % 4294967296, d := (s.d + t.d) % 4294967296, e := (s.e + t.e) % 4294967296, f := (s.f + t.f) % 4294967296, g := (s.g + t.g) % 4294967296, h := (s.h + t.h) % 4294967296 }
theorem round_ok {s : St} (h : s.ok) (k w : Nat) : (round s k w).ok := ⟨Nat.mod_lt _ (by decide), h.a, h.b, h.c, Nat.mod_lt _ (by decide), h.e, h.f, h.g⟩
theorem add_ok (s t : St) : (add s t).ok := ⟨Nat.mod_lt _ (by decide), Nat.mod_lt _ (by decide), Nat.mod_lt _ (by decide), Nat.mod_lt _ (by decide), Nat.mod_lt _ (by decide), Nat.mod_lt _ (by decide), Nat.mod_lt _ (by decide), Nat.mod_lt _ (by decide)⟩
def stAt (h : St) (s : List UInt8) : Nat → St
  | 0 => h
  | i + 1 => round (stAt h s i) (K i) (wd s i)
theorem stAt_ok {h : St} (hh : h.ok) (s : List UInt8) (i : Nat) : (stAt h s i).ok := by
  induction i with
  | zero => exact hh
  | succ i ih => exact round_ok ih _ _
def comp (h : St) (s : List UInt8) : St := add h (stAt h s 64)

/-- the hash value behind k blocks of l -/
def absTo (h : St) (l : List UInt8) : Nat → St
  | 0 => h
  | k + 1 => comp (absTo h l k) ((l.drop (64 * k)).take 64)
theorem absTo_ok {h : St} (hh : h.ok) (l : List UInt8) (k : Nat) : (absTo h l k).ok := by
  cases k with
  | zero => exact hh
  | succ k => exact add_ok _ _
theorem absTo_left {h : St} {l m : List UInt8} {k : Nat} (hk : 64 * k ≤ l.length) : absTo h (l ++ m) k = absTo h l k := by
  induction k with
  | zero => rfl
  | succ k ih =>
    rw [absTo, absTo, ih (by omega), List.drop_append_of_le_length (by omega), List.take_append_of_le_length (by simp; omega)]
theorem absTo_append {h : St} {l m : List UInt8} {k : Nat} (hk : 64 * k = l.length) (j : Nat) : absTo (absTo h l k) m j = absTo h (l ++ m) (k + j) := by
  induction j with
  | zero => rw [Nat.add_zero, absTo_left (by omega)]; rfl
  | succ j ih =>
    rw [absTo, ih, ← Nat.add_assoc, absTo, Nat.mul_add, hk, List.drop_append, List.drop_of_length_le (by omega : l.length ≤ l.length + 64 * j), List.nil_append, Nat.add_sub_cancel_left]

def zeros (n : Nat) : Nat := (119 - n % 64) % 64
def pad (l : List UInt8) : List UInt8 := 128 :: (List.replicate (zeros l.length) 0 ++ putN (8 * l.length) 8)
theorem pad_len (l : List UInt8) : (pad l).length = 9 + zeros l.length := by simp [pad, putN_len]; omega
theorem pad_div (l : List UInt8) : (l ++ pad l).length % 64 = 0 := by rw [List.length_append, pad_len]; unfold zeros; omega

def H0 : St := ⟨1779033703, 3144134277, 1013904242, 2773480762, 1359893119, 2600822924, 528734635, 1541459225⟩
theorem H0_ok : H0.ok := ⟨by decide, by decide, by decide, by decide, by decide, by decide, by decide, by decide⟩
def St.toL (s : St) : List Nat := [s.a, s.b, s.c, s.d, s.e, s.f, s.g, s.h]
def outTo (s : St) : Nat → List UInt8
  | 0 => []
  | i + 1 => outTo s i ++ putN (s.toL.getD i 0) 4
theorem outTo_len (s : St) (i : Nat) : (outTo s i).length = 4 * i := by
  induction i with
  | zero => rfl
  | succ i ih => simp [outTo, ih, putN_len]; omega
def sha (l : List UInt8) : List UInt8 := outTo (absTo H0 (l ++ pad l) ((l ++ pad l).length / 64)) 8
theorem sha_len (l : List UInt8) : (sha l).length = 32 := outTo_len _ _
theorem toL_lt {s : St} (h : s.ok) (i : Nat) : s.toL.getD i 0 < 4294967296 := by
  match i with
  | 0 => exact h.a
  | 1 => exact h.b
  | 2 => exact h.c
  | 3 => exact h.d
  | 4 => exact h.e
  | 5 => exact h.f
  | 6 => exact h.g
  | 7 => exact h.h
  | i + 8 => rw [List.getD_eq_getElem?_getD, List.getElem?_eq_none (by simp [St.toL])]; decide

/- A way for the kernel to reckon it: every number is made plain before it is used again. -/
def force {α : Type} (n : Nat) (k : Nat → α) : α := match n with
  | 0 => k 0
  | m + 1 => k (Nat.succ m)
theorem force_eq {α : Type} (n : Nat) (k : Nat → α) : force n k = k n := by cases n <;> rfl
def run : List Nat → Nat → Nat → Nat → Nat → Nat → Nat → Nat → Nat → Nat → Nat → Nat → Nat → Nat → Nat → Nat → Nat → Nat → Nat → Nat → Nat → Nat → Nat → Nat → Nat → St
  | [], _, _, _, _, _, _, _, _, _, _, _, _, _, _, _, _, a, b, c, d, e, f, g, h => ⟨a, b, c, d, e, f, g, h⟩
  | k :: ks, w0, w1, w2, w3, w4, w5, w6, w7, w8, w9, w10, w11, w12, w13, w14, w15, a, b, c, d, e, f, g, h => force ((s1 w14 + w9 + s0 w1 + w0) % 4294967296) fun nw =>
      force ((h + S1 e + ch e f g + k + w0) % 4294967296) fun x => force ((x + (S0 a + maj a b c) % 4294967296) % 4294967296) fun a' => force ((d + x) % 4294967296) fun e' => run ks w1 w2 w3 w4 w5 w6 w7 w8 w9 w10 w11 w12 w13 w14 w15 nw a' a b c e' e f g
def fadd (s t : St) : St := force ((s.a + t.a) % 4294967296) fun a => force ((s.b + t.b) % 4294967296) fun b => force ((s.c + t.c) % 4294967296) fun c => force ((s.d + t.d) % 4294967296) fun d =>
  force ((s.e + t.e) % 4294967296) fun e => force ((s.f + t.f) % 4294967296) fun f => force ((s.g + t.g) % 4294967296) fun g => force ((s.h + t.h) % 4294967296) fun h => ⟨a, b, c, d, e, f, g, h⟩
theorem run_eq (h : St) (s : List UInt8) (n : Nat) : ∀ i, i + n = 64 → run (KL.drop i) (wd s i) (wd s (i + 1)) (wd s (i + 2)) (wd s (i + 3)) (wd s (i + 4)) (wd s (i + 5)) (wd s (i + 6)) (wd s (i + 7)) (wd s (i + 8)) (wd s (i + 9)) (wd s (i + 10)) (wd s (i + 11)) (wd s (i + 12)) (wd s (i + 13)) (wd s (i + 14)) (wd s (i + 15)) (stAt h s i).a (stAt h s i).b (stAt h s i).c (stAt h s i).d (stAt h s i).e (stAt h s i).f (stAt h s i).g (stAt h s i).h = stAt h s 64 := by
  induction n with
  | zero =>
    intro i hi
    obtain rfl : i = 64 := by omega
    rw [show KL.drop 64 = [] from rfl]; rfl
  | succ n ih =>
    intro i hi
    have hlen : KL.length = 64 := rfl
    have e1 : KL.drop i = K i :: KL.drop (i + 1) := by
      rw [List.drop_eq_getElem_cons (by omega)]; unfold K; rw [List.getD_eq_getElem?_getD, List.getElem?_eq_getElem (by omega)]; rfl
    rw [e1]
    simp only [run, force_eq]
    have e4 : (s1 (wd s (i + 14)) + wd s (i + 9) + s0 (wd s (i + 1)) + wd s i) % 4294967296 = wd s (i + 16) := by
      rw [wd_high s (i := i + 16) (by omega)]
      rw [show i + 16 - 2 = i + 14 from by omega, show i + 16 - 7 = i + 9 from by omega, show i + 16 - 15 = i + 1 from by omega, show i + 16 - 16 = i from by omega]
    rw [e4]
    have := ih (i + 1) (by omega)
    simp only [Nat.add_assoc, Nat.reduceAdd] at this
    exact this
def compK (h : St) (s : List UInt8) : St := force (word s 0) fun w0 => force (word s 1) fun w1 => force (word s 2) fun w2 => force (word s 3) fun w3 => force (word s 4) fun w4 => force (word s 5) fun w5 => force (word s 6) fun w6 => force (word s 7) fun w7 => force (word s 8) fun w8 => force (word s 9) fun w9 => force (word s 10) fun w10 => force (word s 11) fun w11 => force (word s 12) fun w12 => force (word s 13) fun w13 => force (word s 14) fun w14 => force (word s 15) fun w15 => fadd h (run KL w0 w1 w2 w3 w4 w5 w6 w7 w8 w9 w10 w11 w12 w13 w14 w15 h.a h.b h.c h.d h.e h.f h.g h.h)
theorem compK_eq (h : St) (s : List UInt8) : compK h s = comp h s := by
  unfold compK comp
  have := run_eq h s 64 0 (by omega)
  simp only [Nat.zero_add, List.drop_zero] at this
  rw [wd_low s (show (0 : Nat) < 16 by decide), wd_low s (show (1 : Nat) < 16 by decide), wd_low s (show (2 : Nat) < 16 by decide), wd_low s (show (3 : Nat) < 16 by decide), wd_low s (show (4 : Nat) < 16 by decide), wd_low s (show (5 : Nat) < 16 by decide), wd_low s (show (6 : Nat) < 16 by decide), wd_low s (show (7 : Nat) < 16 by decide), wd_low s (show (8 : Nat) < 16 by decide), wd_low s (show (9 : Nat) < 16 by decide), wd_low s (show (10 : Nat) < 16 by decide), wd_low s (show (11 : Nat) < 16 by decide), wd_low s (show (12 : Nat) < 16 by decide), wd_low s (show (13 : Nat) < 16 by decide), wd_low s (show (14 : Nat) < 16 by decide), wd_low s (show (15 : Nat) < 16 by decide)] at this
  have e1 : stAt h s 0 = h := rfl
  rw [e1] at this
  simp only [force_eq]
  rw [this]
  simp only [fadd, force_eq]; rfl
theorem sha_one {l b : List UInt8} {h : St} (hb : l ++ pad l = b) (hl : b.length = 64) (hc : compK H0 b = h) : sha l = outTo h 8 := by
  unfold sha
  rw [hb, hl, ← hc, compK_eq, show 64 / 64 = 0 + 1 from rfl, absTo, absTo, Nat.mul_zero, List.drop_zero, List.take_of_length_le (by omega)]
theorem sha_two {l b : List UInt8} {h h1 : St} (hb : l ++ pad l = b) (hl : b.length = 128) (hc1 : compK H0 (b.take 64) = h1) (hc : compK h1 (b.drop 64) = h) : sha l = outTo h 8 := by
  unfold sha
  rw [hb, hl, ← hc, ← hc1, compK_eq, compK_eq, show 128 / 64 = 0 + 1 + 1 from rfl, absTo, absTo, absTo, Nat.mul_zero, List.drop_zero, List.take_of_length_le (l := b.drop (64 * (0 + 1))) (by simp; omega)]
theorem comp_empty : compK H0 [128, 0, 0, 0, 0, 0, 0, 0, 0, 0, 0, 0, 0, 0, 0, 0, 0, 0, 0, 0, 0, 0, 0, 0, 0, 0, 0, 0, 0, 0, 0, 0, 0, 0, 0, 0, 0, 0, 0, 0, 0, 0, 0, 0, 0, 0, 0, 0, 0, 0, 0, 0, 0, 0, 0, 0, 0, 0, 0, 0, 0, 0, 0, 0] = ⟨3820012610, 2566659092, 2600203464, 2574235940, 665731556, 1687917388, 2761267483, 2018687061⟩ := by decide +kernel
theorem sha_empty : sha [] = [227, 176, 196, 66, 152, 252, 28, 20, 154, 251, 244, 200, 153, 111, 185, 36, 39, 174, 65, 228, 100, 155, 147, 76, 164, 149, 153, 27, 120, 82, 184, 85] := (sha_one (b := [128, 0, 0, 0, 0, 0, 0, 0, 0, 0, 0, 0, 0, 0, 0, 0, 0, 0, 0, 0, 0, 0, 0, 0, 0, 0, 0, 0, 0, 0, 0, 0, 0, 0, 0, 0, 0, 0, 0, 0, 0, 0, 0, 0, 0, 0, 0, 0, 0, 0, 0, 0, 0, 0, 0, 0, 0, 0, 0, 0, 0, 0, 0, 0]) (by decide +kernel) (by decide +kernel) comp_empty).trans (by decide +kernel)
theorem comp_abc : compK H0 [97, 98, 99, 128, 0, 0, 0, 0, 0, 0, 0, 0, 0, 0, 0, 0, 0, 0, 0, 0, 0, 0, 0, 0, 0, 0, 0, 0, 0, 0, 0, 0, 0, 0, 0, 0, 0, 0, 0, 0, 0, 0, 0, 0, 0, 0, 0, 0, 0, 0, 0, 0, 0, 0, 0, 0, 0, 0, 0, 0, 0, 0, 0, 24] = ⟨3128432319, 2399260650, 1094795486, 1571693091, 2953011619, 2518121116, 3021012833, 4060091821⟩ := by decide +kernel
theorem sha_abc : sha [97, 98, 99] = [186, 120, 22, 191, 143, 1, 207, 234, 65, 65, 64, 222, 93, 174, 34, 35, 176, 3, 97, 163, 150, 23, 122, 156, 180, 16, 255, 97, 242, 0, 21, 173] := (sha_one (b := [97, 98, 99, 128, 0, 0, 0, 0, 0, 0, 0, 0, 0, 0, 0, 0, 0, 0, 0, 0, 0, 0, 0, 0, 0, 0, 0, 0, 0, 0, 0, 0, 0, 0, 0, 0, 0, 0, 0, 0, 0, 0, 0, 0, 0, 0, 0, 0, 0, 0, 0, 0, 0, 0, 0, 0, 0, 0, 0, 0, 0, 0, 0, 24]) (by decide +kernel) (by decide +kernel) comp_abc).trans (by decide +kernel)
theorem comp_two1 : compK H0 [97, 98, 99, 100, 98, 99, 100, 101, 99, 100, 101, 102, 100, 101, 102, 103, 101, 102, 103, 104, 102, 103, 104, 105, 103, 104, 105, 106, 104, 105, 106, 107, 105, 106, 107, 108, 106, 107, 108, 109, 107, 108, 109, 110, 108, 109, 110, 111, 109, 110, 111, 112, 110, 111, 112, 113, 128, 0, 0, 0, 0, 0, 0, 0] = ⟨2246464982, 1098520469, 862140266, 1649204828, 1994429833, 3401971729, 3427480257, 4061025082⟩ := by decide +kernel
theorem comp_two2 : compK ⟨2246464982, 1098520469, 862140266, 1649204828, 1994429833, 3401971729, 3427480257, 4061025082⟩ [0, 0, 0, 0, 0, 0, 0, 0, 0, 0, 0, 0, 0, 0, 0, 0, 0, 0, 0, 0, 0, 0, 0, 0, 0, 0, 0, 0, 0, 0, 0, 0, 0, 0, 0, 0, 0, 0, 0, 0, 0, 0, 0, 0, 0, 0, 0, 0, 0, 0, 0, 0, 0, 0, 0, 0, 0, 0, 0, 0, 0, 0, 1, 192] = ⟨613247585, 3523623096, 3854575251, 205414457, 2738676825, 1694441831, 4142722516, 433784513⟩ := by decide +kernel
def two : List UInt8 := [97, 98, 99, 100, 98, 99, 100, 101, 99, 100, 101, 102, 100, 101, 102, 103, 101, 102, 103, 104, 102, 103, 104, 105, 103, 104, 105, 106, 104, 105, 106, 107, 105, 106, 107, 108, 106, 107, 108, 109, 107, 108, 109, 110, 108, 109, 110, 111, 109, 110, 111, 112, 110, 111, 112, 113]
theorem sha_twoblocks : sha two = [36, 141, 106, 97, 210, 6, 56, 184, 229, 192, 38, 147, 12, 62, 96, 57, 163, 60, 228, 89, 100, 255, 33, 103, 246, 236, 237, 212, 25, 219, 6, 193] := (sha_two (b := [97, 98, 99, 100, 98, 99, 100, 101, 99, 100, 101, 102, 100, 101, 102, 103, 101, 102, 103, 104, 102, 103, 104, 105, 103, 104, 105, 106, 104, 105, 106, 107, 105, 106, 107, 108, 106, 107, 108, 109, 107, 108, 109, 110, 108, 109, 110, 111, 109, 110, 111, 112, 110, 111, 112, 113, 128, 0, 0, 0, 0, 0, 0, 0, 0, 0, 0, 0, 0, 0, 0, 0, 0, 0, 0, 0, 0, 0, 0, 0, 0, 0, 0, 0, 0, 0, 0, 0, 0, 0, 0, 0, 0, 0, 0, 0, 0, 0, 0, 0, 0, 0, 0, 0, 0, 0, 0, 0, 0, 0, 0, 0, 0, 0, 0, 0, 0, 0, 0, 0, 0, 0, 0, 0, 0, 0, 1, 192]) (by decide +kernel) (by decide +kernel) comp_two1 comp_two2).trans (by decide +kernel)
end Sha
end Go.Proofs.YtligojllbnahcaaDoor.D
