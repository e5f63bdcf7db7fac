/-
  The rasters that chapter 12's statements describe by numbers: the list of their tiles, and that it is valid; rest; parts of a slice of numbers. The rasters that chapter 12's statements describe by numbers (contract of made).
-/
import Derived.Test.YtfncldaodbfakaaGreatQRefU
import Derived.Laws.Slices
namespace Go.Proofs.YtfncldaodbfakaaGreat.Z
open Go.RowKit Go.Shelf T Q
set_option maxRecDepth 100000
variable {V W w w' : World} {L : List (Nat × Obj)}

/-- the i-th tile's pixels, before cleaning -/
def tle (n : Nat) (z : Nat → Int) (i : Nat) : Nat → Px := if z i % 4 = 0 then mdt 1 (fun j => z (i + j)) else mdt (n - i) (fun j => z (i + j))
/-- the i-th tile -/
def tai (n : Nat) (z : Nat → Int) (i : Nat) : TA := ⟨(i : Int) - 2 + 3 * (z 0 % 2), ((i / 2 : Nat) : Int), fun j => cln (tle n z i j)⟩
/-- the tiles of the raster, of the first i numbers -/
def mdl (n : Nat) (z : Nat → Int) : Nat → List TA
  | 0 => []
  | i + 1 => mdl n z i ++ if tz (tle n z i) then [] else [tai n z i]
theorem mdl_len (n : Nat) (z : Nat → Int) : ∀ i, (mdl n z i).length ≤ i
  | 0 => Nat.le_refl _
  | i + 1 => by
    have := mdl_len n z i
    show (mdl n z i ++ _).length ≤ _
    rw [List.length_append]
    split <;> simp <;> omega
theorem mdl_mem (n : Nat) (z : Nat → Int) : ∀ i a, a ∈ mdl n z i → ∃ j, j < i ∧ a = tai n z j ∧ tz (tle n z j) = false
  | 0, a, h => by simp [mdl] at h
  | i + 1, a, h => by
    rcases List.mem_append.1 h with h | h
    · obtain ⟨j, hj, e⟩ := mdl_mem n z i a h
      exact ⟨j, by omega, e⟩
    · split at h
      · simp at h
      · rename_i h0
        simp only [List.mem_cons, List.not_mem_nil, or_false] at h
        exact ⟨i, by omega, h, by simpa using h0⟩
theorem tai_lt (n : Nat) (z : Nat → Int) {i j : Nat} (h : i < j) : cmpP (tai n z i).x (tai n z i).y (tai n z j).x (tai n z j).y < 0 := by
  rw [cmpP_neg]
  show ((i / 2 : Nat) : Int) < ((j / 2 : Nat) : Int) ∨ ((i / 2 : Nat) : Int) = ((j / 2 : Nat) : Int) ∧ (i : Int) - 2 + 3 * (z 0 % 2) < (j : Int) - 2 + 3 * (z 0 % 2)
  omega
theorem cln_cln (p : Px) : cln (cln p) = cln p := by
  unfold cln
  by_cases h : p.a = 0
  · rw [if_pos h]; simp
  · rw [if_neg h, if_neg h]
theorem cln_a (p : Px) : (cln p).a = 0 ↔ p.a = 0 := by
  unfold cln
  by_cases h : p.a = 0
  · rw [if_pos h]; simp [h]
  · rw [if_neg h]
theorem tz_cln (f : Nat → Px) : tz (fun i => cln (f i)) = tz f := by
  rw [Bool.eq_iff_iff, tz_iff, tz_iff]
  exact forall_congr' fun i => imp_congr_right fun _ => cln_a (f i)
theorem tai_ok (n : Nat) (z : Nat → Int) {i : Nat} (hi : i < 100) (hz : tz (tle n z i) = false) : wth 8192 (tai n z i).x (tai n z i).y = true ∧ vtile (tai n z i).t = true := by
  constructor
  · unfold wth tai
    simp only [Bool.and_eq_true, decide_eq_true_eq]
    omega
  · rw [vtile_ref, Bool.and_eq_true]
    refine ⟨by show (!tz fun j => cln (tle n z i j)) = true; rw [tz_cln, hz]; rfl, ?_⟩
    rw [teq_iff]
    intro j _
    exact cln_cln _
theorem okA_snoc {l : List TA} {a : TA} {i : Nat} (hi : i < l.length) : okA (l ++ [a]) i = okA l i := by
  have e : ∀ j, j < l.length → (l ++ [a])[j]? = l[j]? := fun j hj => List.getElem?_append_left hj
  unfold okA
  rw [e i hi]
  obtain ⟨b, hb⟩ : ∃ b, l[i]? = some b := ⟨_, List.getElem?_eq_getElem hi⟩
  rw [hb]
  cases i with
  | zero => rfl
  | succ j =>
    show (_ && prevOk (l ++ [a]) (j + 1) b) = (_ && prevOk l (j + 1) b)
    unfold prevOk
    simp only [e j (by omega)]
theorem vldR_snoc {l : List TA} {a : TA} (h : vldR l = true) (hl : l.length < 1024) (h1 : wth 8192 a.x a.y = true) (h2 : vtile a.t = true) (h3 : ∀ d ∈ l, cmpP d.x d.y a.x a.y < 0) : vldR (l ++ [a]) = true := by
  rw [vldR_iff] at h ⊢
  refine ⟨by rw [List.length_append]; simp; omega, fun i hi => ?_⟩
  rw [List.length_append] at hi
  simp only [List.length_cons, List.length_nil] at hi
  by_cases hlt : i < l.length
  · rw [okA_snoc hlt]; exact h.2 i hlt
  · obtain rfl : i = l.length := by omega
    unfold okA
    rw [List.getElem?_append_right (Nat.le_refl _), Nat.sub_self]
    show (wth 8192 a.x a.y && vtile a.t && prevOk (l ++ [a]) l.length a) = true
    rw [h1, h2, Bool.true_and, Bool.true_and]
    unfold prevOk
    cases hl2 : l.length with
    | zero => rfl
    | succ j =>
      have hj : j < l.length := by omega
      have e : (l ++ [a])[j]? = some (l[j]'hj) := by rw [List.getElem?_append_left hj, List.getElem?_eq_getElem hj]
      simp only [e]
      exact decide_eq_true (h3 _ (List.getElem_mem hj))
theorem mdl_valid (n : Nat) (z : Nat → Int) : ∀ i, i ≤ 60 → vldR (mdl n z i) = true
  | 0, _ => (by decide : vldR [] = true)
  | i + 1, hi => by
    show vldR (mdl n z i ++ _) = true
    have h := mdl_valid n z i (by omega)
    by_cases hz : tz (tle n z i) = true
    · rw [if_pos hz, List.append_nil]; exact h
    · rw [if_neg hz]
      have hz2 : tz (tle n z i) = false := by simpa using hz
      obtain ⟨h1, h2⟩ := tai_ok n z (i := i) (by omega) hz2
      refine vldR_snoc h (by have := mdl_len n z i; omega) h1 h2 fun d hd => ?_
      obtain ⟨j, hj, rfl, _⟩ := mdl_mem n z i d hd
      exact tai_lt n z hj
theorem pgo_snoc (x y : Int) (g : Nat → Px) : ∀ l : List TA, (∀ a ∈ l, cmpP a.x a.y x y < 0) → pgo x y g false l = l ++ [⟨x, y, g⟩]
  | [], _ => rfl
  | a :: l, h => by
    have h1 := h a (List.mem_cons_self ..)
    have h2 : ¬ cmpP x y a.x a.y < 0 := by rw [cmpP_swap]; omega
    have h3 : ¬ (a.x = x ∧ a.y = y) := fun e => by rw [cmpP_zero.2 e] at h1; omega
    show (if (!false && decide (cmpP x y a.x a.y < 0)) = true then _ else _) ++ ((if decide (a.x = x ∧ a.y = y) = true then _ else _) ++ pgo x y g (false || decide (cmpP x y a.x a.y < 0)) l) = _
    rw [decide_eq_false h2, decide_eq_false h3]
    simp only [Bool.not_false, Bool.and_false, Bool.or_false, Bool.false_eq_true, if_false, List.nil_append, List.cons_append]
    rw [pgo_snoc x y g l fun b hb => h b (List.mem_cons_of_mem _ hb)]
theorem mdl_put (n : Nat) (z : Nat → Int) {i : Nat} (hi : i ≤ 50) (hz : tz (tle n z i) = false) : rput (vts (mdl n z i)) (tai n z i).x (tai n z i).y (tle n z i) = mdl n z (i + 1) := by
  have h : vts (mdl n z i) = mdl n z i := by unfold vts; rw [mdl_valid n z i (by omega)]; rfl
  unfold rput
  rw [h, tz_cln, hz, pgo_snoc _ _ _ _ fun d hd => by
    obtain ⟨j, hj, rfl, _⟩ := mdl_mem n z i d hd
    exact tai_lt n z hj]
  show _ = mdl n z i ++ _
  rw [if_neg (by rw [hz]; simp)]
  rfl
/-- parts of a slice of numbers -/
theorem szI (w : World) : (sizeOf 3).run Tryz.prog w = .ok 1 w := Tryz.sizeOf3 w
theorem elemI : Tryz.prog.elem 22 = 3 := by kernel_rfl
theorem undI : Tryz.prog.underlying 22 = some (.slice (Tryz.prog.elem 22)) := by rw [elemI]; exact Tryz.underlying22
theorem is_tl {po : Option Addr} {n c : Nat} {z : Nat → Int} (h : IS V po n c z) {k : Nat} (hk : k < n) : ∃ q, (∀ W, (Instr.slice 22 (.slice po n c) (some (.int .i64 (k : Int))) none none).run Tryz.prog W = .ok (.slice q (n - k) (c - k)) W) ∧ IS V q (n - k) (c - k) (fun j => z (k + j)) := by
  have hc := h.cap; have hb := h.big
  obtain ⟨b, o, rfl, hlt, hce⟩ := h.mem.resolve_left (by omega)
  refine ⟨some ⟨b, o + k, none⟩, fun w => ?_, by omega, by omega, .inr ⟨b, o + k, rfl, hlt, fun i hi => by rw [Nat.add_assoc]; exact hce (k + i) (by omega)⟩⟩
  rw [run_slice_l w 22 (some ⟨b, o, none⟩) n c undI .i64 k (by omega) (by omega), elemI, szI]
  simp only [Result.andThen_ok, sliced, Int.toNat_natCast]
  rw [if_neg (by omega)]
  simp [Addr.add_mid]
theorem is_one {po : Option Addr} {n c : Nat} {z : Nat → Int} (h : IS V po n c z) {k : Nat} (hk : k < n) : ∃ q, (∀ W, (Instr.slice 22 (.slice po n c) (some (.int .i64 (k : Int))) (some (.int .i64 ((k : Int) + 1))) none).run Tryz.prog W = .ok (.slice q 1 (c - k)) W) ∧ IS V q 1 (c - k) (fun j => z (k + j)) := by
  have hc := h.cap; have hb := h.big
  obtain ⟨b, o, rfl, hlt, hce⟩ := h.mem.resolve_left (by omega)
  refine ⟨some ⟨b, o + k, none⟩, fun w => ?_, by omega, by omega, .inr ⟨b, o + k, rfl, hlt, fun i hi => by rw [Nat.add_assoc]; exact hce (k + i) (by omega)⟩⟩
  rw [run_slice_lh w 22 (some ⟨b, o, none⟩) n c undI .i64 .i64 k (k + 1) (by omega) (by omega) (by omega), elemI, szI]
  have e1 : ((k : Int) + 1).toNat = k + 1 := by omega
  simp only [Result.andThen_ok, sliced, Int.toNat_natCast, e1]
  rw [if_neg (by omega), show k + 1 - k = 1 by omega]
  simp [Addr.add_mid]
theorem rest0 (a b : Int) (w : World) (h0 : 1 ≤ b) (h1 : b ≤ 1000000) : Calls Tryz.prog 16 #[.int .i64 a, .int .i64 b] w fun e w' => e = .returned (.int .i64 ((wrap64 (a.tmod b + b)).tmod b)) ∧ w = w' := by
  go_enter Tryz.func16, Tryz.ntmps16
  go_wp2
  go_ret
  exact ⟨rfl, rfl⟩
theorem rest_mod (a b : Int) (h0 : 1 ≤ b) (h1 : b ≤ 1000000) : (wrap64 (a.tmod b + b)).tmod b = a % b := by
  have e1 : a.tmod b < b := Int.tmod_lt_of_pos a (by omega)
  have e2 : -b < a.tmod b := by have := Int.lt_tmod_of_pos a (show (0:Int) < b by omega); omega
  rw [IntWalk.wrap64_in _ ⟨by omega, by omega⟩, Int.tmod_eq_emod_of_nonneg (by omega), Int.add_emod_right]
  have h2 := Int.tmod_add_tdiv_mul a b
  have : a % b = (a.tmod b + a.tdiv b * b) % b := by rw [h2]
  rw [this, Int.add_mul_emod_self_right]
theorem rest_q (a b : Int) (w : World) (h0 : 1 ≤ b) (h1 : b ≤ 1000000) : Calls Tryz.prog 16 #[.int .i64 a, .int .i64 b] w fun e w' => e = .returned (.int .i64 (a % b)) ∧ w = w' := by
  have h := rest0 a b w h0 h1
  rw [rest_mod a b h0 h1] at h
  exact h
theorem rs_cell {p : Option Addr} {n c b : Nat} {l : List TA} {cs : Array Value} {t : TypeId} {u : Value} (h : RS V p n c l) (hb : V.heap[b]? = some (.cells cs t)) (hc : cs.size < 258) : RS (V.setCell ⟨b, 0, none⟩ u) p n c l := by
  refine ⟨h.len, h.cap, h.big, h.sml, h.mem.imp id fun ⟨b', o, e, hlt, hr⟩ => ⟨b', o, e, by simpa [World.setCell] using hlt, fun j v hv => ?_⟩⟩
  have h1 := hr j v hv
  by_cases hbb : b' = b
  · exfalso
    subst hbb
    cases l with
    | nil => simp [tal] at hv
    | cons a l =>
      have h257 : (tal (a :: l))[257]? ≠ none := by
        rw [ne_eq, List.getElem?_eq_none_iff, tal_len, List.length_cons]; omega
      obtain ⟨u, hu⟩ := Option.ne_none_iff_exists'.1 h257
      have h2 := hr 257 u hu
      rw [cell_of_row V b' (o + 257) cs t (0, 0) hb, Array.getElem?_eq_none (by omega)] at h2
      cases h2
  · rw [World.cell?_of_block (w := V) (a := ⟨b', o + j, none⟩) (Below.heap_setCell V _ _ b' hbb)]
    exact h1
theorem st_cell {q q' : Option Addr} {m d m' d' b : Nat} (h : St W ((b, rob q m d) :: L) V) (hW : W.heap.size ≤ b) (hL : ∀ x ∈ L, x.1 ≠ b) : St W ((b, rob q' m' d') :: L) (V.setCell ⟨b, 0, none⟩ (.slice q' m' d')) := by
  have hr := h.row (List.mem_cons_self ..)
  have h4 := (h.sub (L' := L) fun x hx => List.mem_cons_of_mem _ hx).set (b := b) (j := 0) (v := .slice q' m' d') hW hL
  refine ⟨h4.below, fun x hx => ?_⟩
  rcases List.mem_cons.1 hx with rfl | hx
  · simp [World.setCell, Array.getElem?_modify, hr]
  · exact h4.rows x hx
theorem put_made (n : Nat) (z : Nat → Int) {k : Nat} (hk : k < 6) (hz : tz (tle n z k) = false) (q : Option Addr) (m d : Nat) (V : World) (hr : RS V q m d (mdl n z k)) :
    Calls Tryz.prog 48 #[rv1 q m d, pv2 (tai n z k).x (tai n z k).y, tv (tle n z k)] V fun e w' => ∃ q' m' d', e = .returned (gv q' m' d' 0) ∧ RS w' q' m' d' (mdl n z (k + 1)) ∧ Below V.heap.size V w' := by
  have h := rPut_in q m d (mdl n z k) (tai n z k).x (tai n z k).y (tle n z k) V hr (tai_ok n z (by omega) hz).1
  rw [mdl_put n z (by omega) hz, if_pos (by have := mdl_len n z (k + 1); omega), if_pos (by have := mdl_len n z (k + 1); omega)] at h
  exact h
theorem rest_any (a b : Int) (w : World) (h0 : 1 ≤ b) (h1 : b ≤ 1000000) : Calls Tryz.prog 16 #[.int .i64 a, .int .i64 b] w fun e w' => e = .returned (.int .i64 (a % b)) ∧ Below w.heap.size w w' := by
  have h := rest0 a b w h0 h1
  rw [rest_mod a b h0 h1] at h
  exact h.mono fun _ _ ⟨x, y⟩ => ⟨x, y ▸ Below.refl _ _⟩
end Go.Proofs.YtfncldaodbfakaaGreat.Z

namespace Go.Proofs.YtfncldaodbfakaaGreat.Z
open Go.RowKit Go.Shelf T Q
set_option maxRecDepth 100000
variable {V W w w' : World} {L : List (Nat × Obj)}

set_option maxHeartbeats 8000000 in
theorem made_any (po : Option Addr) (n c : Nat) (z : Nat → Int) (w : World) (hI : IS w po n c z) : Calls Tryz.prog 13 #[.slice po n c] w fun e w' => ∃ q m d, e = .returned (rv1 q m d) ∧ RS w' q m d (mdl n z (min n 6)) ∧ Below w.heap.size w w' := by
  have hs := ((St.start w).alloc (rob none 0 0)).alloc (rob none 0 0)
  rw [World.size_alloc] at hs
  have HI := Lib.hid hI
  have hn := hI.big
  have H1 := Lib.hid hs
  clear hI hs
  go_enter Tryz.func13, Tryz.ntmps13
  go_upto_region 3 with fail
  generalize (w.alloc (.cells #[.slice none 0 0] 26)).alloc (.cells #[.slice none 0 0] 26) = V1 at H1 ⊢
  have HZ : Hid (RS V1 none 0 0 (mdl n z 0)) := RS.nil V1
  go_loopw [4] (fun v wr => ∃ (k m d : Nat) (q : Option Addr), k ≤ min n 6 ∧ v = .int .i64 k ∧ Hid (St w [(w.heap.size + 1, rob q m d), (w.heap.size, rob none 0 0)] wr) ∧ Hid (RS wr q m d (mdl n z k))) (fun i _ => 6 - (intOf i).toNat)
  case atStart => exact ⟨0, 0, 0, none, by omega, rfl, H1, HZ⟩
  case round =>
    obtain ⟨k, m, d, q, hk, rfl, HT, HR⟩ := hrel
    clear H1 HZ
    by_cases hlt : k < min n 6
    · have hk1 : k < n := by omega
      have hk6 : k < 6 := by omega
      have hb1 : decide ((k : Int) < (n : Int)) = true := decide_eq_true (by omega)
      have hb2 : decide ((k : Int) < 6) = true := decide_eq_true (by omega)
      go_upto_region 5 with fail
      clear hb1 hb2
      have h0 := HT.out
      obtain ⟨bs, os, rfl, hbs, hcs⟩ := HI.out.mem.resolve_left (by omega)
      have HCS := Lib.hid hcs
      obtain ⟨q1, hsl1, hi1⟩ := is_tl HI.out hk1
      obtain ⟨q2, hsl2, hi2⟩ := is_one HI.out hk1
      have HM1 : Hid (∀ V, Below w.heap.size w V → Calls Tryz.prog 46 #[.slice q1 (n - k) (c - k)] V fun e w' => e = .returned (tv (mdt (n - k) (fun j => z (k + j)))) ∧ Below V.heap.size V w') := fun V hV => rmade07_any _ _ _ _ _ (hi1.later hV)
      have HM2 : Hid (∀ V, Below w.heap.size w V → Calls Tryz.prog 46 #[.slice q2 1 (c - k)] V fun e w' => e = .returned (tv (mdt 1 (fun j => z (k + j)))) ∧ Below V.heap.size V w') := fun V hV => rmade07_any _ _ _ _ _ (hi2.later hV)
      have HTL : Hid (tle n z k = if z k % 4 = 0 then mdt 1 (fun j => z (k + j)) else mdt (n - k) (fun j => z (k + j))) := rfl
      have HR4 : Hid (∀ V, Calls Tryz.prog 16 #[.int .i64 (z k), .int .i64 4] V fun e w' => e = .returned (.int .i64 (z k % 4)) ∧ V = w') := fun V => rest_q _ _ V (by omega) (by omega)
      have HR2 : Hid (∀ V, Calls Tryz.prog 16 #[.int .i64 (z 0), .int .i64 2] V fun e w' => e = .returned (.int .i64 (z 0 % 2)) ∧ V = w') := fun V => rest_q _ _ V (by omega) (by omega)
      clear hi1 hi2 HT hcs
      generalize mdt (n - k) (fun j => z (k + j)) = T1 at *
      generalize mdt 1 (fun j => z (k + j)) = T2 at *
      go_upto_region 6 with (first
        | (rw [hsl1])
        | (go_at_call 46; with_reducible refine (h0.call2 (HM1.out _ h0.below)).mono ?_; rintro e V2 ⟨rfl, h2, hb2⟩; have HA := Lib.hid (heap_alloc_new V2 (tob z0)))
        | ((with_reducible refine sAlloc (ty := 38) (tc z0) ?_ ?_); · exact zero_tile _)
        | ((with_reducible refine sStore (ty := 38) (w' := (V2.alloc (.cells (tc z0) 38)).setRow V2.heap.size (tc T1)) ?_ ?_); · exact store_tile _ z0 T1 _ HA.out))
      try simp only [Act.put, List.setIfInBounds_toArray, List.set_cons_zero, List.set_cons_succ]
      have h3 : St w [(V2.heap.size, tob T1), (w.heap.size + 1, rob q m d), (w.heap.size, rob none 0 0)] ((V2.alloc (tob z0)).setRow V2.heap.size (tc T1)) := T.St.rowset (h2.alloc (tob z0)) h2.below.size (by have h5 := h2.lt (b := w.heap.size + 1) (o := rob q m d) (by simp); have h6 := h2.lt (b := w.heap.size) (o := rob none 0 0) (by simp); simp; omega)
      have hr3 : RS ((V2.alloc (tob z0)).setRow V2.heap.size (tc T1)) q m d (mdl n z k) := rs_small ((HR.out.later hb2).later ((Below.refl _ V2).alloc (Nat.le_refl _) _)) HA.out (by rw [tc_size]; omega)
      have hb5 : w.heap.size + 1 < V2.heap.size := h2.lt (b := w.heap.size + 1) (o := rob q m d) (by simp)
      generalize (V2.alloc (.cells (tc z0) 38)).setRow V2.heap.size (tc T1) = V3 at h3 hr3 ⊢
      generalize V2.heap.size = b5 at *
      clear HA h0 h2 hb2 HR HM1 hsl1
      have hci := ((h3.below.cell (p := ⟨bs, os + k, none⟩) hbs)).trans (HCS.out k hk1)
      have HZK : Hid (z k = z k) := rfl
      generalize hzk : z k = zk at *
      by_cases hz4 : zk % 4 = 0
      · rw [if_pos hz4] at HTL
        have hz5 : (zk % 4 == 0) = true := by simpa using hz4
        clear hz4
        go_upto_region 8 with (first
          | (go_at_call 16; with_reducible refine (HR4.out _).mono ?_; rintro e wq ⟨rfl, rfl⟩)
          | (rw [hsl2])
          | (go_at_call 46; with_reducible refine (h3.call2 (HM2.out _ h3.below)).mono ?_; rintro e V4 ⟨rfl, h4, hb4⟩; have HA4 := Lib.hid (h4.row (List.mem_cons_self ..)))
          | ((with_reducible refine sStore (ty := 38) (w' := V4.setRow b5 (tc T2)) ?_ ?_); · exact store_tile _ T1 T2 _ HA4.out))
        try simp only [Act.put]
        have hT : St w [(b5, tob T2), (w.heap.size + 1, rob q m d), (w.heap.size, rob none 0 0)] (V4.setRow b5 (tc T2)) := T.St.rowset h4 (by omega) (by simp; omega)
        have hr : RS (V4.setRow b5 (tc T2)) q m d (mdl n z k) := rs_small (hr3.later hb4) HA4.out (by rw [tc_size]; omega)
        generalize V4.setRow b5 (tc T2) = V at hT hr ⊢
        clear HA4 h3 h4 hr3 hb4 hci HM2 hsl2 hz5 HR4
        have HLT := Lib.hid (load_tile b5 T2 _ (hT.row (List.mem_cons_self ..)))
        go_upto_region 9 with (first
          | ((with_reducible refine sLoad (ty := 38) (v := tv T2) ?_ ?_); · exact HLT.out)
          | (go_at_call 47; with_reducible refine (hT.call2 (refZero_any T2 _)).mono ?_; rintro e V6 ⟨rfl, h6, hb6⟩))
        have hr6 := hr.later hb6
        have hc0 := ((h6.below.cell (p := ⟨bs, os + 0, none⟩) hbs)).trans (HCS.out 0 (by omega))
        have hc0' : V6.cell? ⟨bs, os, none⟩ = some (.int .i64 (z 0)) := hc0
        have hce : 0 ≤ z 0 % 2 ∧ z 0 % 2 ≤ 1 := by omega
        have HP : Hid (tz T2 = false → ∀ q m d V, RS V q m d (mdl n z k) → Calls Tryz.prog 48 #[rv1 q m d, pv2 ((k : Int) - 2 + 3 * (z 0 % 2)) ((k / 2 : Nat) : Int), tv T2] V fun e w' => ∃ q' m' d', e = .returned (gv q' m' d' 0) ∧ RS w' q' m' d' (mdl n z (k + 1)) ∧ Below V.heap.size V w') := by
          intro hz q m d V hrs
          rw [← HTL] at hz ⊢
          exact put_made n z hk6 hz q m d V hrs
        have HZ1 : Hid (tz T2 = true → mdl n z (k + 1) = mdl n z k) := by
          intro hz
          rw [← HTL] at hz
          show mdl n z k ++ _ = _
          rw [if_pos hz, List.append_nil]
        clear HLT hT hr hb6 HTL
        generalize mdl n z k = R0 at *
        generalize z 0 % 2 = e0 at *
        generalize tz T2 = zz at *
        obtain ⟨hce0, hce1⟩ := hce
        go_upto_region 10 with (first
          | (go_at_call 16; with_reducible refine (HR2.out _).mono ?_; rintro e wq ⟨rfl, rfl⟩))
        have hY : (k : Int) / 2 = ((k / 2 : Nat) : Int) := by omega
        rw [← hY] at HP
        have h7 := h6.alloc (po2 ((k : Int) - 2 + 3 * e0) ((k : Int) / 2))
        have hr7 := hr6.later ((Below.refl _ V6).alloc (Nat.le_refl _) (po2 ((k : Int) - 2 + 3 * e0) ((k : Int) / 2)))
        generalize V6.alloc (.cells #[.int .i64 ((k : Int) - 2 + 3 * e0), .int .i64 ((k : Int) / 2)] 40) = V7 at h7 hr7 ⊢
        generalize V6.heap.size = b7 at *
        clear h6 hr6 hc0 hc0' hY
        generalize (k : Int) - 2 + 3 * e0 = X at *
        generalize (k : Int) / 2 = Y at *
        cases zz
        · have HPP := Lib.hid (HP.out rfl)
          have HLR := Lib.hid (ld_ra (h7.row (b := w.heap.size + 1) (o := rob q m d) (by simp)))
          have HLP := Lib.hid (ld_pp (h7.row (List.mem_cons_self ..)))
          have HLT := Lib.hid (load_tile b5 T2 _ (h7.row (b := b5) (o := tob T2) (by simp)))
          clear HP HZ1
          go_upto_region 12 with (first
            | ((with_reducible refine sLoad (ty := 26) (v := rv1 q m d) ?_ ?_); · exact HLR.out)
            | ((with_reducible refine sLoad (ty := 40) (v := pv2 X Y) ?_ ?_); · exact HLP.out)
            | ((with_reducible refine sLoad (ty := 38) (v := tv T2) ?_ ?_); · exact HLT.out)
            | (go_at_call 48; with_reducible refine (HPP.out q m d _ hr7).mono ?_; rintro e V8 ⟨q', m', d', rfl, hr8, hb8⟩))
          have h8 := h7.later hb8
          have h9 := h8.alloc (go q' m' d' 0)
          have hr9 := hr8.later ((Below.refl _ V8).alloc (Nat.le_refl _) (go q' m' d' 0))
          clear HLR HLP HLT HPP h7 hr7 h8 hr8 hb8
          generalize V8.alloc (.cells #[.slice q' m' d', .int .i64 0] 98) = V9 at h9 hr9 ⊢
          generalize V8.heap.size = b8 at *
          have c8 := h9.cell (b := b8) (cs := #[.slice q' m' d', .int .i64 0]) (t := 98) (by simp) 0
          have c1 := h9.cell (b := w.heap.size + 1) (cs := #[.slice q m d]) (t := 26) (by simp) 0
          have f1 := h9.frozen (b := w.heap.size + 1) (cs := #[.slice q m d]) (t := 26) (by simp) 0
          have h9' := h9.sub (L' := [(w.heap.size + 1, rob q m d), (w.heap.size, rob none 0 0)]) (by simp)
          have H10 := Lib.hid (st_cell (q' := q') (m' := m') (d' := d') h9' (by omega) (by simp))
          have HR10 := Lib.hid (rs_cell (u := .slice q' m' d') hr9 (h9'.row (b := w.heap.size + 1) (o := rob q m d) (by simp)) (by simp))
          clear h9 hr9 h9'
          go_wp2
          go_roundw
          case rel => exact ⟨k + 1, m', d', q', by omega, by go_num, H10, HR10⟩
          case measure => simp [intOf]; omega
        · have H7 := Lib.hid (h7.sub (L' := [(w.heap.size + 1, rob q m d), (w.heap.size, rob none 0 0)]) (by simp))
          have HR7 : Hid (RS V7 q m d (mdl n z (k + 1))) := by rw [HZ1.out rfl]; exact hr7
          clear h7 hr7 HP HZ1
          go_wp2
          go_roundw
          case rel => exact ⟨k + 1, m, d, q, by omega, by go_num, H7, HR7⟩
          case measure => simp [intOf]; omega
      · rw [if_neg hz4] at HTL
        have hz5 : (zk % 4 == 0) = false := by simpa using hz4
        clear hz4
        go_upto_region 8 with (first
          | (go_at_call 16; with_reducible refine (HR4.out _).mono ?_; rintro e wq ⟨rfl, rfl⟩))
        have hT := h3
        have hr := hr3
        clear h3 hr3 hci HM2 hsl2 hz5 HR4
        have HLT := Lib.hid (load_tile b5 T1 _ (hT.row (List.mem_cons_self ..)))
        go_upto_region 9 with (first
          | ((with_reducible refine sLoad (ty := 38) (v := tv T1) ?_ ?_); · exact HLT.out)
          | (go_at_call 47; with_reducible refine (hT.call2 (refZero_any T1 _)).mono ?_; rintro e V6 ⟨rfl, h6, hb6⟩))
        have hr6 := hr.later hb6
        have hc0 := ((h6.below.cell (p := ⟨bs, os + 0, none⟩) hbs)).trans (HCS.out 0 (by omega))
        have hc0' : V6.cell? ⟨bs, os, none⟩ = some (.int .i64 (z 0)) := hc0
        have hce : 0 ≤ z 0 % 2 ∧ z 0 % 2 ≤ 1 := by omega
        have HP : Hid (tz T1 = false → ∀ q m d V, RS V q m d (mdl n z k) → Calls Tryz.prog 48 #[rv1 q m d, pv2 ((k : Int) - 2 + 3 * (z 0 % 2)) ((k / 2 : Nat) : Int), tv T1] V fun e w' => ∃ q' m' d', e = .returned (gv q' m' d' 0) ∧ RS w' q' m' d' (mdl n z (k + 1)) ∧ Below V.heap.size V w') := by
          intro hz q m d V hrs
          rw [← HTL] at hz ⊢
          exact put_made n z hk6 hz q m d V hrs
        have HZ1 : Hid (tz T1 = true → mdl n z (k + 1) = mdl n z k) := by
          intro hz
          rw [← HTL] at hz
          show mdl n z k ++ _ = _
          rw [if_pos hz, List.append_nil]
        clear HLT hT hr hb6 HTL
        generalize mdl n z k = R0 at *
        generalize z 0 % 2 = e0 at *
        generalize tz T1 = zz at *
        obtain ⟨hce0, hce1⟩ := hce
        go_upto_region 10 with (first
          | (go_at_call 16; with_reducible refine (HR2.out _).mono ?_; rintro e wq ⟨rfl, rfl⟩))
        have hY : (k : Int) / 2 = ((k / 2 : Nat) : Int) := by omega
        rw [← hY] at HP
        have h7 := h6.alloc (po2 ((k : Int) - 2 + 3 * e0) ((k : Int) / 2))
        have hr7 := hr6.later ((Below.refl _ V6).alloc (Nat.le_refl _) (po2 ((k : Int) - 2 + 3 * e0) ((k : Int) / 2)))
        generalize V6.alloc (.cells #[.int .i64 ((k : Int) - 2 + 3 * e0), .int .i64 ((k : Int) / 2)] 40) = V7 at h7 hr7 ⊢
        generalize V6.heap.size = b7 at *
        clear h6 hr6 hc0 hc0' hY
        generalize (k : Int) - 2 + 3 * e0 = X at *
        generalize (k : Int) / 2 = Y at *
        cases zz
        · have HPP := Lib.hid (HP.out rfl)
          have HLR := Lib.hid (ld_ra (h7.row (b := w.heap.size + 1) (o := rob q m d) (by simp)))
          have HLP := Lib.hid (ld_pp (h7.row (List.mem_cons_self ..)))
          have HLT := Lib.hid (load_tile b5 T1 _ (h7.row (b := b5) (o := tob T1) (by simp)))
          clear HP HZ1
          go_upto_region 12 with (first
            | ((with_reducible refine sLoad (ty := 26) (v := rv1 q m d) ?_ ?_); · exact HLR.out)
            | ((with_reducible refine sLoad (ty := 40) (v := pv2 X Y) ?_ ?_); · exact HLP.out)
            | ((with_reducible refine sLoad (ty := 38) (v := tv T1) ?_ ?_); · exact HLT.out)
            | (go_at_call 48; with_reducible refine (HPP.out q m d _ hr7).mono ?_; rintro e V8 ⟨q', m', d', rfl, hr8, hb8⟩))
          have h8 := h7.later hb8
          have h9 := h8.alloc (go q' m' d' 0)
          have hr9 := hr8.later ((Below.refl _ V8).alloc (Nat.le_refl _) (go q' m' d' 0))
          clear HLR HLP HLT HPP h7 hr7 h8 hr8 hb8
          generalize V8.alloc (.cells #[.slice q' m' d', .int .i64 0] 98) = V9 at h9 hr9 ⊢
          generalize V8.heap.size = b8 at *
          have c8 := h9.cell (b := b8) (cs := #[.slice q' m' d', .int .i64 0]) (t := 98) (by simp) 0
          have c1 := h9.cell (b := w.heap.size + 1) (cs := #[.slice q m d]) (t := 26) (by simp) 0
          have f1 := h9.frozen (b := w.heap.size + 1) (cs := #[.slice q m d]) (t := 26) (by simp) 0
          have h9' := h9.sub (L' := [(w.heap.size + 1, rob q m d), (w.heap.size, rob none 0 0)]) (by simp)
          have H10 := Lib.hid (st_cell (q' := q') (m' := m') (d' := d') h9' (by omega) (by simp))
          have HR10 := Lib.hid (rs_cell (u := .slice q' m' d') hr9 (h9'.row (b := w.heap.size + 1) (o := rob q m d) (by simp)) (by simp))
          clear h9 hr9 h9'
          go_wp2
          go_roundw
          case rel => exact ⟨k + 1, m', d', q', by omega, by go_num, H10, HR10⟩
          case measure => simp [intOf]; omega
        · have H7 := Lib.hid (h7.sub (L' := [(w.heap.size + 1, rob q m d), (w.heap.size, rob none 0 0)]) (by simp))
          have HR7 : Hid (RS V7 q m d (mdl n z (k + 1))) := by rw [HZ1.out rfl]; exact hr7
          clear h7 hr7 HP HZ1
          go_wp2
          go_roundw
          case rel => exact ⟨k + 1, m, d, q, by omega, by go_num, H7, HR7⟩
          case measure => simp [intOf]; omega
    · obtain rfl : k = min n 6 := by omega
      have h0 := HT.out
      have c1 := h0.cell (b := w.heap.size + 1) (cs := #[.slice q m d]) (t := 26) (by simp) 0
      have c0 := h0.cell (b := w.heap.size) (cs := #[.slice none 0 0]) (t := 26) (by simp) 0
      have f0 := h0.frozen (b := w.heap.size) (cs := #[.slice none 0 0]) (t := 26) (by simp) 0
      have HR0 := Lib.hid (h0.row (b := w.heap.size) (o := rob none 0 0) (by simp))
      have HRF := Lib.hid (rs_cell (u := .slice q m d) HR.out HR0.out (by simp))
      have HBF := Lib.hid (h0.below.setCell (p := ⟨w.heap.size, 0, none⟩) (Nat.le_refl _) (.slice q m d))
      have hb1 : decide (((min n 6 : Nat) : Int) < (n : Int)) = decide (6 < n) := decide_eq_decide.2 (by omega)
      by_cases h6 : 6 < n
      · have hmin : min n 6 = 6 := by omega
        rw [hmin] at *
        have hb2 : decide ((6 : Int) < (n : Int)) = true := decide_eq_true (by omega)
        go_wp2
        exact bodyPost_ret (res_r rfl _ _ w.heap.size q m d rfl (by simp [World.setCell, Array.getElem?_modify, HR0.out])) rfl ⟨q, m, d, rfl, HRF.out, HBF.out⟩
      · have hmin : min n 6 = n := by omega
        rw [hmin] at *
        have hb2 : decide ((n : Int) < (n : Int)) = false := decide_eq_false (by omega)
        go_wp2
        exact bodyPost_ret (res_r rfl _ _ w.heap.size q m d rfl (by simp [World.setCell, Array.getElem?_modify, HR0.out])) rfl ⟨q, m, d, rfl, HRF.out, HBF.out⟩
end Go.Proofs.YtfncldaodbfakaaGreat.Z
