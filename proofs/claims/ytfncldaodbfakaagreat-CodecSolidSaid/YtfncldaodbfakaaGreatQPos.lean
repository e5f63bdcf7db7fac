/-
  Tiles at positions, and their order (plain maths). Slices of tiles at positions, in memory.
-/
import Derived.Test.YtfncldaodbfakaaGreatTSt
import Derived.Test.YtfncldaodbfakaaGreatTZero
import Derived.Laws.OwnMore
namespace Go.Proofs.YtfncldaodbfakaaGreat.Q
open Go.RowKit T

/-- a tile at a position -/
structure TA where
  x : Int
  y : Int
  t : Nat → Px
def cmpI (a b : Int) : Int := if a < b then -1 else if b < a then 1 else 0
/-- positions are ordered by Y, then by X -/
def cmpP (ax ay bx yb : Int) : Int := if cmpI ay yb = 0 then cmpI ax bx else cmpI ay yb
abbrev cm (a b : TA) : Int := cmpP a.x a.y b.x b.y
theorem cmpI_bd (a b : Int) : -1 ≤ cmpI a b ∧ cmpI a b ≤ 1 := by unfold cmpI; split <;> (try split) <;> omega
theorem cmpI_zero {a b : Int} : cmpI a b = 0 ↔ a = b := by unfold cmpI; split <;> (try split) <;> omega
theorem cmpI_neg {a b : Int} : cmpI a b < 0 ↔ a < b := by unfold cmpI; split <;> (try split) <;> omega
theorem cmpP_bd (a b c d : Int) : -1 ≤ cmpP a b c d ∧ cmpP a b c d ≤ 1 := by unfold cmpP; split <;> exact cmpI_bd _ _
theorem cmpP_zero {a b c d : Int} : cmpP a b c d = 0 ↔ a = c ∧ b = d := by
  unfold cmpP
  split
  · rename_i h; rw [cmpI_zero] at h ⊢; omega
  · rename_i h; rw [cmpI_zero] at h; rw [cmpI_zero]; omega
theorem cmpP_neg {a b c d : Int} : cmpP a b c d < 0 ↔ b < d ∨ b = d ∧ a < c := by
  unfold cmpP
  split
  · rename_i h; rw [cmpI_zero] at h; rw [cmpI_neg]; omega
  · rename_i h; rw [cmpI_zero] at h; rw [cmpI_neg]; omega
theorem cmpI_swap (a b : Int) : cmpI b a = - cmpI a b := by unfold cmpI; split <;> split <;> (try split) <;> omega
theorem cmpP_swap (a b c d : Int) : cmpP c d a b = - cmpP a b c d := by
  unfold cmpP
  rw [cmpI_swap b d, cmpI_swap a c]
  split <;> split <;> omega
theorem cmpP_trans {a b c d e f : Int} (h : cmpP a b c d < 0) (k : cmpP c d e f < 0) : cmpP a b e f < 0 := by
  rw [cmpP_neg] at *; omega
/-- strictly increasing -/
abbrev Inc (l : List TA) : Prop := l.Pairwise fun a b => cm a b < 0
/-- how many tiles at the head come before a position -/
def lb : List TA → Int → Int → Nat
  | [], _, _ => 0
  | a :: r, x, y => if cmpP a.x a.y x y < 0 then lb r x y + 1 else 0
theorem lb_le : ∀ (l : List TA) (x y : Int), lb l x y ≤ l.length
  | [], _, _ => Nat.le_refl _
  | a :: r, x, y => by
    unfold lb
    have := lb_le r x y
    split <;> simp; omega
theorem lb_lt : ∀ {l : List TA} (x y : Int) {i : Nat}, i < lb l x y → ∀ {a : TA}, l[i]? = some a → cmpP a.x a.y x y < 0
  | [], _, _, _, h, _, _ => by simp [lb] at h
  | c :: r, x, y, i, h, a, ha => by
    unfold lb at h
    split at h
    · rename_i hc
      cases i with
      | zero => simp at ha; subst ha; exact hc
      | succ i => exact lb_lt (l := r) x y (i := i) (by omega) (by simpa using ha)
    · omega
theorem lb_ge : ∀ {l : List TA}, Inc l → ∀ (x y : Int) {i : Nat}, lb l x y ≤ i → ∀ {a : TA}, l[i]? = some a → 0 ≤ cmpP a.x a.y x y
  | [], _, _, _, _, _, _, ha => by simp at ha
  | c :: r, hl, x, y, i, h, a, ha => by
    obtain ⟨h1, h2⟩ := List.pairwise_cons.1 hl
    unfold lb at h
    split at h
    · rename_i hc
      cases i with
      | zero => omega
      | succ i => exact lb_ge h2 x y (i := i) (by omega) (by simpa using ha)
    · rename_i hc
      cases i with
      | zero => simp at ha; subst ha; omega
      | succ i =>
        have hm : a ∈ r := List.mem_of_getElem? (by simpa using ha)
        rcases Int.lt_or_le (cmpP a.x a.y x y) 0 with k | k
        · have := cmpP_trans (h1 a hm) k; omega
        · exact k
/-- the tile at a position: that of the first element with it -/
def atT : List TA → Int → Int → Nat → Px
  | [], _, _ => z0
  | a :: r, x, y => if a.x = x ∧ a.y = y then a.t else atT r x y
/-- whether the number i, the first that does not come before the position, is the position's own -/
def hit (l : List TA) (x y : Int) : Bool := match l[lb l x y]? with
  | some a => decide (a.x = x ∧ a.y = y)
  | none => false
theorem atT_hit : ∀ {l : List TA}, Inc l → ∀ (x y : Int), atT l x y = if hit l x y then (match l[lb l x y]? with | some a => a.t | none => z0) else z0
  | [], _, x, y => by simp [atT, hit, lb]
  | c :: r, hl, x, y => by
    obtain ⟨h1, h2⟩ := List.pairwise_cons.1 hl
    have ih := atT_hit h2 x y
    have e1 : atT (c :: r) x y = if c.x = x ∧ c.y = y then c.t else atT r x y := rfl
    have e2 : lb (c :: r) x y = if cmpP c.x c.y x y < 0 then lb r x y + 1 else 0 := rfl
    unfold hit at *
    rw [e1, e2]
    by_cases hc : cmpP c.x c.y x y < 0
    · rw [if_pos hc, if_neg (fun e => by have := cmpP_zero.2 e; omega), List.getElem?_cons_succ]
      exact ih
    · rw [if_neg hc]
      simp only [List.getElem?_cons_zero]
      by_cases e : c.x = x ∧ c.y = y
      · rw [if_pos e]; simp [e]
      · rw [if_neg e]
        simp only [e, decide_false, Bool.false_eq_true, if_false]
        have hz : lb r x y = 0 ∧ hit r x y = false := by
          cases r with
          | nil => exact ⟨rfl, rfl⟩
          | cons d r =>
            have hd := h1 d (by simp)
            have hge : ¬ cmpP d.x d.y x y < 0 := fun k => hc (cmpP_trans hd k)
            have hl0 : lb (d :: r) x y = 0 := by unfold lb; rw [if_neg hge]
            refine ⟨hl0, ?_⟩
            unfold hit
            rw [hl0]
            simp only [List.getElem?_cons_zero, decide_eq_false_iff_not]
            rintro ⟨e1, e2⟩
            have h0 : cmpP d.x d.y x y = 0 := cmpP_zero.2 ⟨e1, e2⟩
            rw [← e1, ← e2] at hc
            exact hc hd
        have h3 := hz.2
        unfold hit at h3
        rw [h3] at ih
        simpa using ih
end Go.Proofs.YtfncldaodbfakaaGreat.Q

namespace Go.Proofs.YtfncldaodbfakaaGreat.Q
open Go.RowKit T
set_option maxRecDepth 100000
variable {V V' W w w' : World}

/-- the cells of a tile at a position, of a list of them -/
def tac (a : TA) : List Value := [.int .i64 a.x, .int .i64 a.y] ++ (tc a.t).toList
theorem tac_len (a : TA) : (tac a).length = 258 := by unfold tac; simp [tc_size]
def tal (l : List TA) : List Value := l.flatMap tac
theorem tal_cons (a : TA) (l : List TA) : tal (a :: l) = tac a ++ tal l := rfl
theorem tal_append (l m : List TA) : tal (l ++ m) = tal l ++ tal m := by unfold tal; exact List.flatMap_append
theorem tal_len : ∀ l : List TA, (tal l).length = 258 * l.length
  | [] => rfl
  | a :: l => by rw [tal_cons, List.length_append, tac_len, tal_len l, List.length_cons]; omega
theorem tal_get : ∀ (l : List TA) (i j : Nat) (a : TA), l[i]? = some a → j < 258 → (tal l)[258 * i + j]? = (tac a)[j]?
  | [], _, _, _, h, _ => by simp at h
  | c :: l, 0, j, a, h, hj => by
    simp at h; subst h
    rw [tal_cons, List.getElem?_append_left (by rw [tac_len]; omega), Nat.mul_zero, Nat.zero_add]
  | c :: l, i + 1, j, a, h, hj => by
    rw [tal_cons, List.getElem?_append_right (by rw [tac_len]; omega), tac_len, show 258 * (i + 1) + j - 258 = 258 * i + j by omega]
    exact tal_get l i j a (by simpa using h) hj
theorem tal_split (l : List TA) (k : Nat) : tal l = tal (l.take k) ++ tal (l.drop k) := by rw [← tal_append, List.take_append_drop]
theorem tal_drop (l : List TA) (k : Nat) (hk : k ≤ l.length) : tal (l.drop k) = (tal l).drop (258 * k) := by
  rw [tal_split l k, List.drop_left' (by rw [tal_len, List.length_take]; omega)]
theorem tal_take (l : List TA) (k : Nat) (hk : k ≤ l.length) : tal (l.take k) = (tal l).take (258 * k) := by
  rw [tal_split l k, List.take_left' (by rw [tal_len, List.length_take]; omega)]
theorem tal_one : ∀ (l : List TA) (v : Value), v ∈ tal l → v.oneCell' = true := by
  intro l v hv
  unfold tal at hv
  obtain ⟨a, _, ha⟩ := List.mem_flatMap.1 hv
  unfold tac at ha
  rw [List.mem_append] at ha
  rcases ha with h | h
  · simp at h; rcases h with rfl | rfl <;> rfl
  · exact (Array.all_eq_true_iff_forall_mem.1 (tc_one a.t)) v (by simpa using h)
/-- the slice holds the tiles of the list -/
structure RS (V : World) (p : Option Addr) (n c : Nat) (l : List TA) : Prop where
  len : l.length = n
  cap : n ≤ c
  big : c ≤ maxLen
  sml : n ≤ 100000
  mem : p = none ∧ c = 0 ∨ ∃ b o, p = some ⟨b, o, none⟩ ∧ b < V.heap.size ∧ V.rangeAt b o (tal l)
theorem RS.nil (V : World) : RS V none 0 0 [] := ⟨rfl, Nat.le_refl _, by unfold maxLen; omega, by omega, .inl ⟨rfl, rfl⟩⟩
theorem RS.later {p : Option Addr} {n c : Nat} {l : List TA} (h : RS V p n c l) (hb : Below V.heap.size V V') : RS V' p n c l :=
  ⟨h.len, h.cap, h.big, h.sml, h.mem.imp id fun ⟨b, o, e, hlt, hr⟩ => ⟨b, o, e, Nat.lt_of_lt_of_le hlt hb.size, fun j v hv => by rw [hb.cell (p := ⟨b, o + j, none⟩) hlt]; exact hr j v hv⟩⟩
/-- where the element number i lies -/
def pe (p : Option Addr) (k : Nat) : Addr := match p with | some a => ⟨a.block, a.off + k, none⟩ | none => ⟨0, 0, none⟩
theorem RS.elem {p : Option Addr} {n c : Nat} {l : List TA} (h : RS V p n c l) {i : Nat} {a : TA} (ha : l[i]? = some a) (k : Nat) : V.rangeAt (pe p (258 * i + k)).block (pe p (258 * i + k)).off ((tac a).drop k) := by
  have hi := (List.getElem?_eq_some_iff.1 ha).1
  rcases h.mem with ⟨_, hc⟩ | ⟨b, o, rfl, _, hr⟩
  · have := h.len; have := h.cap; omega
  · intro j v hv
    have hj : k + j < 258 := by have := (List.getElem?_eq_some_iff.1 hv).1; rw [List.length_drop, tac_len] at this; omega
    show V.cell? ⟨b, o + (258 * i + k) + j, none⟩ = some v
    rw [show o + (258 * i + k) + j = o + (258 * i + (k + j)) by omega]
    refine hr _ _ ?_
    rw [tal_get l i (k + j) a ha hj]
    simpa using hv
theorem sizeTA (w : World) : (sizeOf 42).run Tryz.prog w = .ok 258 w := by kernel_rfl
theorem infoTA : (Tryz.prog.info? 42).map (·.size) = some 258 := by kernel_rfl
theorem index_ta {p : Option Addr} {n c : Nat} {l : List TA} (h : RS V p n c l) {i : Nat} (hi : i < n) (w : World) : (Instr.indexAt 24 (.slice p n c) (.int .i64 i)).run Tryz.prog w = .ok (.pointer (some (pe p (258 * i)))) w := by
  rcases h.mem with ⟨_, hc⟩ | ⟨b, o, rfl, _, _⟩
  · have := h.cap; omega
  · have h2 : 0 ≤ (i : Int) ∧ (i : Int) < (n : Nat) := ⟨by omega, by omega⟩
    have ha : (⟨b, o, none⟩ : Addr).add (i * 258) = ⟨b, o + 258 * i, none⟩ := by rw [Addr.add_mid, Nat.mul_comm]
    simp only [Instr.indexAt, asIntOf, Instr.sureAddr, Sem.run_bind, Sem.run_pure, Result.andThen_ok, run_underlying Tryz.underlying24, sizeTA, if_pos h2, Int.toNat_natCast, ha, pe]
/-- a position as a value -/
abbrev pv2 (x y : Int) : Value := .agg #[.int .i64 x, .int .i64 y]
abbrev po2 (x y : Int) : Obj := .cells #[.int .i64 x, .int .i64 y] 40
theorem load_pos {p : Option Addr} {n c : Nat} {l : List TA} (h : RS V p n c l) {i : Nat} {a : TA} (ha : l[i]? = some a) : (Instr.loadAt 40 (.pointer (some (pe p (258 * i))))).run Tryz.prog V = .ok (pv2 a.x a.y) V := by
  have hr := h.elem ha 0
  rw [Nat.add_zero, List.drop_zero] at hr
  have h2 : V.rangeAt (pe p (258 * i)).block (pe p (258 * i)).off [.int .i64 a.x, .int .i64 a.y] := fun j v hv => hr j v (by
    unfold tac; rw [List.getElem?_append_left (by have := (List.getElem?_eq_some_iff.1 hv).1; exact this)]; exact hv)
  have e : pe p (258 * i) = ⟨(pe p (258 * i)).block, (pe p (258 * i)).off, none⟩ := by unfold pe; split <;> rfl
  rw [e]
  exact run_loadAt_mid V _ _ 40 _ _ h2 Tryz.underlying40 rfl (by kernel_rfl)
theorem load_ta {p : Option Addr} {n c : Nat} {l : List TA} (h : RS V p n c l) {i : Nat} {a : TA} (ha : l[i]? = some a) : (Instr.loadAt 42 (.pointer (some (pe p (258 * i))))).run Tryz.prog V = .ok (.agg (tac a).toArray) V := by
  have hr := h.elem ha 0
  rw [Nat.add_zero, List.drop_zero] at hr
  have e : pe p (258 * i) = ⟨(pe p (258 * i)).block, (pe p (258 * i)).off, none⟩ := by unfold pe; split <;> rfl
  rw [e]
  exact run_loadAt_mid V _ _ 42 _ _ hr Tryz.underlying42 rfl (by rw [infoTA, tac_len])
theorem RS.part {p : Option Addr} {n c : Nat} {l : List TA} (h : RS V p n c l) {i : Nat} {a : TA} (ha : l[i]? = some a) (k : Nat) : V.rangeAt (pe p (258 * i)).block ((pe p (258 * i)).off + k) ((tac a).drop k) := by
  have hr := h.elem ha k
  rcases h.mem with ⟨_, hc⟩ | ⟨b, o, rfl, _, _⟩
  · have := (List.getElem?_eq_some_iff.1 ha).1; have := h.len; have := h.cap; omega
  · have e : (pe (some ⟨b, o, none⟩) (258 * i + k)).off = (pe (some ⟨b, o, none⟩) (258 * i)).off + k := by show o + (258 * i + k) = o + 258 * i + k; omega
    rw [e] at hr
    exact hr
/-- where the element's tile lies -/
abbrev pt2 (p : Option Addr) (i : Nat) : Addr := ⟨(pe p (258 * i)).block, (pe p (258 * i)).off + 2, none⟩
theorem load_til {p : Option Addr} {n c : Nat} {l : List TA} (h : RS V p n c l) {i : Nat} {a : TA} (ha : l[i]? = some a) : (Instr.loadAt 38 (.pointer (some (pt2 p i)))).run Tryz.prog V = .ok (tv a.t) V := by
  have hr := h.part ha 2
  have e2 : (tac a).drop 2 = (tc a.t).toList := rfl
  rw [e2] at hr
  have := run_loadAt_mid V _ _ 38 (tc a.t).toList _ hr Tryz.underlying38 rfl (by rw [info_tile, Array.length_toList, tc_size])
  simpa using this
/-- the pixels of a tile lie from an address on -/
def Til (V : World) (b o : Nat) (f : Nat → Px) : Prop := V.rangeAt b o (tc f).toList
theorem RS.til {p : Option Addr} {n c : Nat} {l : List TA} (h : RS V p n c l) {i : Nat} {a : TA} (ha : l[i]? = some a) : Til V (pe p (258 * i)).block ((pe p (258 * i)).off + 2) a.t := by
  have hr := h.part ha 2
  have e2 : (tac a).drop 2 = (tc a.t).toList := rfl
  rw [e2] at hr
  exact hr
theorem Til.px {b o : Nat} {f : Nat → Px} (h : Til V b o f) {k : Nat} (hk : k < 64) : (Instr.loadAt 36 (.pointer (some ⟨b, o + 4 * k, none⟩))).run Tryz.prog V = .ok (f k).v V := by
  have h2 : V.rangeAt b (o + 4 * k) (pl (f k)) := fun j v hv => by
    have hj : j < 4 := by have := (List.getElem?_eq_some_iff.1 hv).1; rwa [pl_len] at this
    rw [Nat.add_assoc]
    refine h _ _ ?_
    rw [Array.getElem?_toList, tc_get f k j hk hj]; exact hv
  exact run_loadAt_mid V _ _ 36 (pl (f k)) _ h2 Tryz.underlying36 rfl (by kernel_rfl)
theorem Til.all {b o : Nat} {f : Nat → Px} (h : Til V b o f) : (Instr.loadAt 38 (.pointer (some ⟨b, o, none⟩))).run Tryz.prog V = .ok (tv f) V := by
  have := run_loadAt_mid V _ _ 38 (tc f).toList _ h Tryz.underlying38 rfl (by rw [info_tile, Array.length_toList, tc_size])
  simpa using this
theorem Til.later {b o : Nat} {f : Nat → Px} (h : Til V b o f) (hb : b < V.heap.size) (k : Below V.heap.size V V') : Til V' b o f := fun j v hv => by rw [k.cell (p := ⟨b, o + j, none⟩) hb]; exact h j v hv
theorem Til.lt {b o : Nat} {f : Nat → Px} (h : Til V b o f) : b < V.heap.size := by
  have h0 := h 0 ((tc f).toList[0]'(by rw [Array.length_toList, tc_size]; omega)) (List.getElem?_eq_getElem _)
  exact block_lt_of_cell h0
theorem index_til (b o k : Nat) (hk : k < 64) (w : World) : (Instr.indexAt 38 (.pointer (some ⟨b, o, none⟩)) (.int .i64 k)).run Tryz.prog w = .ok (.pointer (some ⟨b, o + 4 * k, none⟩)) w := by
  have hs : (sizeOf 36).run Tryz.prog w = .ok 4 w := by kernel_rfl
  have h2 : 0 ≤ (k : Int) ∧ (k : Int) < (64 : Nat) := ⟨by omega, by omega⟩
  have ha : (⟨b, o, none⟩ : Addr).add (k * 4) = ⟨b, o + 4 * k, none⟩ := by rw [Addr.add_mid, Nat.mul_comm]
  simp only [Instr.indexAt, asIntOf, Instr.sureAddr, Sem.run_bind, Sem.run_pure, Result.andThen_ok, run_underlying Tryz.underlying38, hs, if_pos h2, Int.toNat_natCast, ha]
/-- slices of slices -/
theorem elemTA : Tryz.prog.elem 24 = 42 := by kernel_rfl
theorem undTA : Tryz.prog.underlying 24 = some (.slice (Tryz.prog.elem 24)) := by rw [elemTA]; exact Tryz.underlying24
theorem map_zero {p : Option Addr} {n c : Nat} {l : List TA} (h : RS V p n c l) : p.map (·.add (0 * 258)) = p := by
  rcases h.mem with ⟨rfl, _⟩ | ⟨b, o, rfl, _, _⟩
  · rfl
  · simp [Addr.add_mid]
theorem slice_hd {p : Option Addr} {n c : Nat} {l : List TA} (h : RS V p n c l) {k : Nat} (hk : k ≤ n) (w : World) : (Instr.slice 24 (.slice p n c) none (some (.int .i64 (k : Int))) none).run Tryz.prog w = .ok (.slice p k c) w := by
  have hc := h.cap
  rw [run_slice_h w 24 p n c undTA .i64 k (by omega) (by omega), elemTA, sizeTA]
  simp only [Result.andThen_ok, sliced, Int.toNat_natCast, Nat.sub_zero, map_zero h, ite_self]
theorem RS.hd {p : Option Addr} {n c : Nat} {l : List TA} (h : RS V p n c l) {k : Nat} (hk : k ≤ n) : RS V p k c (l.take k) := by
  have hl := h.len; have hc := h.cap; have hs := h.sml
  refine ⟨by rw [List.length_take]; omega, by omega, h.big, by omega, h.mem.imp id fun ⟨b, o, e, hlt, hr⟩ => ⟨b, o, e, hlt, fun j v hv => hr j v ?_⟩⟩
  rw [tal_take l k (by omega)] at hv
  have hj := (List.getElem?_eq_some_iff.1 hv).1
  rw [List.length_take] at hj
  rwa [List.getElem?_take_of_lt (by omega)] at hv
theorem slice_tl {p : Option Addr} {n c : Nat} {l : List TA} (h : RS V p n c l) {k : Nat} (hk : k ≤ n) : ∃ q, (∀ w, (Instr.slice 24 (.slice p n c) (some (.int .i64 (k : Int))) none none).run Tryz.prog w = .ok (.slice q (n - k) (c - k)) w) ∧ RS V q (n - k) (c - k) (l.drop k) := by
  have hc := h.cap; have hl := h.len; have hs := h.sml; have hb := h.big
  refine ⟨if c = k then p else p.map (·.add (k * 258)), fun w => ?_, ?_⟩
  · rw [run_slice_l w 24 p n c undTA .i64 k (by omega) (by omega), elemTA, sizeTA]
    simp only [Result.andThen_ok, sliced, Int.toNat_natCast]
  · refine ⟨by rw [List.length_drop]; omega, by omega, by omega, by omega, ?_⟩
    rcases h.mem with ⟨rfl, h0⟩ | ⟨b, o, rfl, hlt, hr⟩
    · exact .inl ⟨by simp, by omega⟩
    · right
      by_cases e : c = k
      · refine ⟨b, o, if_pos e, hlt, fun j v hv => ?_⟩
        rw [List.drop_eq_nil_of_le (by omega)] at hv
        simp [tal] at hv
      · refine ⟨b, o + 258 * k, by rw [if_neg e]; simp [Addr.add_mid, Nat.mul_comm], hlt, fun j v hv => ?_⟩
        rw [tal_drop l k (by omega), List.getElem?_drop] at hv
        rw [Nat.add_assoc]
        exact hr _ v hv
theorem slice_00 (p : Option Addr) (n c : Nat) (w : World) : (Instr.slice 24 (.slice p n c) none (some (.int .i64 0)) (some (.int .i64 0))).run Tryz.prog w = .ok (.slice p 0 0) w := by
  rw [run_slice_hm w 24 p n c undTA .i64 .i64 0 0 (by omega) (by omega) (by omega), elemTA, sizeTA]
  simp [sliced]
end Go.Proofs.YtfncldaodbfakaaGreat.Q
