/-
  Memory in a walk: blocks of one's own that hold what is listed, each block listed once; writers and readers in memory; bytes in slices of one's own.
-/
import Derived.Test.YtbfnahclkajahaaCSeq
import Derived.WalkSpells
import Derived.WalkLawsBesides
import Derived.Laws.BitsAllLaws
import Derived.PlainAid
import Derived.Outline
import Derived.Lib.Hide
import Derived.Laws.Rows
import Derived.Laws.CopyOwn
import Derived.Laws.OwnMore
import Derived.Lib.Strings
import Derived.Deep.AppendLies
import Derived.Deep.Draws
import Derived.StillTailTactics
import Derived.Deep.QuietTactic
import Derived.BigQuiet
import Derived.Deep.RegionHeld3
import Derived.Deep.Cut
import Derived.Deep.CutBlock
import Derived.Deep.CutRange
import Derived.Deep.RegionWith
import Derived.Deep.DeepCutAuto
import Derived.Deep.WholeRow
import Derived.Deep.MidRow
namespace Go.Proofs.Ytbfnahclkajahaa.C
open Go.RowKit
set_option maxRecDepth 100000
variable {W w w' : World} {L : List (Nat × Obj)}

structure HS (W : World) (L : List (Nat × Obj)) (w : World) : Prop where
  below : Below W.heap.size W w
  rows : ∀ x ∈ L, w.heap[x.1]? = some x.2
  own : ∀ x ∈ L, W.heap.size ≤ x.1
  nd : (L.map Prod.fst).Nodup
theorem HS.start (w : World) : HS w [] w := ⟨Below.refl _ _, by simp, by simp, by simp⟩
theorem HS.later (h : HS W L w) (hb : Below w.heap.size w w') : HS W L w' :=
  ⟨h.below.trans (hb.mono h.below.size), fun x hx => by
    have h1 := h.rows x hx
    rw [hb.block x.1 (Array.getElem?_eq_some_iff.1 h1).1]; exact h1, h.own, h.nd⟩
theorem HS.drew (h : HS W L w) : HS W L w.drew := h.later (Below.refl _ w).drew
theorem HS.drewN (h : HS W L w) (n : Nat) : HS W L (w.drewN n) := h.later ⟨rfl, rfl, rfl, Nat.le_refl _, fun _ _ => rfl⟩
theorem HS.row (h : HS W L w) {b : Nat} {o : Obj} (hm : (b, o) ∈ L) : w.heap[b]? = some o := h.rows _ hm
theorem HS.hd {b : Nat} {o : Obj} (h : HS W ((b, o) :: L) w) : w.heap[b]? = some o := h.row (List.mem_cons_self ..)
theorem HS.lt (h : HS W L w) {b : Nat} {o : Obj} (hm : (b, o) ∈ L) : b < w.heap.size := (Array.getElem?_eq_some_iff.1 (h.row hm)).1
theorem HS.cell (h : HS W L w) {b : Nat} {cs : Array Value} {t : TypeId} (hm : (b, .cells cs t) ∈ L) (j : Nat) : w.cell? ⟨b, j, none⟩ = cs[j]? := cell_of_row _ _ _ _ _ _ (h.row hm)
theorem HS.frozen (h : HS W L w) {b : Nat} {cs : Array Value} {t : TypeId} (hm : (b, .cells cs t) ∈ L) (j : Nat) : w.frozen? ⟨b, j, none⟩ = false := frozen_of_row _ _ _ _ _ (h.row hm)
theorem HS.perm {L' : List (Nat × Obj)} (h : HS W L w) (p : L'.Perm L) : HS W L' w :=
  ⟨h.below, fun x hx => h.rows x (p.mem_iff.1 hx), fun x hx => h.own x (p.mem_iff.1 hx), (p.map _).nodup_iff.2 h.nd⟩
theorem HS.sub {L' : List (Nat × Obj)} (h : HS W L w) (p : L'.Sublist L) : HS W L' w :=
  ⟨h.below, fun x hx => h.rows x (p.subset hx), fun x hx => h.own x (p.subset hx), h.nd.sublist (p.map _)⟩
theorem HS.tl {x : Nat × Obj} (h : HS W (x :: L) w) : HS W L w := h.sub (List.sublist_cons_self ..)
theorem HS.right {l : List (Nat × Obj)} (h : HS W (l ++ L) w) : HS W L w := h.sub (List.sublist_append_right ..)
theorem HS.left {l : List (Nat × Obj)} (h : HS W (l ++ L) w) : HS W l w := h.sub (List.sublist_append_left ..)
theorem HS.comm {l : List (Nat × Obj)} (h : HS W (l ++ L) w) : HS W (L ++ l) w := h.perm List.perm_append_comm
theorem HS.mid {l : List (Nat × Obj)} {x : Nat × Obj} (h : HS W (l ++ x :: L) w) : HS W (x :: (l ++ L)) w := h.perm List.perm_middle.symm
theorem HS.unmid {l : List (Nat × Obj)} {x : Nat × Obj} (h : HS W (x :: (l ++ L)) w) : HS W (l ++ x :: L) w := h.perm List.perm_middle
theorem HS.alloc (h : HS W L w) (o : Obj) : HS W ((w.heap.size, o) :: L) (w.alloc o) := by
  have h2 := h.later ((Below.refl _ w).alloc (Nat.le_refl _) o)
  refine ⟨h2.below, fun x hx => ?_, fun x hx => ?_, ?_⟩
  · rcases List.mem_cons.1 hx with rfl | hx
    · exact heap_alloc_new w o
    · exact h2.rows x hx
  · rcases List.mem_cons.1 hx with rfl | hx
    · exact h.below.size
    · exact h.own x hx
  · rw [List.map_cons, List.nodup_cons]
    refine ⟨fun hm => ?_, h.nd⟩
    obtain ⟨x, hx, e⟩ := List.mem_map.1 hm
    have := (Array.getElem?_eq_some_iff.1 (h.rows x hx)).1
    omega
theorem HS.ne {b : Nat} {o : Obj} (h : HS W ((b, o) :: L) w) : ∀ x ∈ L, x.1 ≠ b := fun x hx e => by
  have := h.nd
  rw [List.map_cons, List.nodup_cons] at this
  exact this.1 (List.mem_map.2 ⟨x, hx, e⟩)
theorem HS.rowset {b : Nat} {cs ds : Array Value} {t : TypeId} (h : HS W ((b, .cells cs t) :: L) w) : HS W ((b, .cells ds t) :: L) (w.setRow b ds) := by
  have hL := h.ne
  have hb : W.heap.size ≤ b := h.own (b, .cells cs t) (List.mem_cons_self ..)
  refine ⟨h.below.trans ⟨rfl, rfl, rfl, by simp [World.setRow], fun k hk => setRow_other w b k ds (by omega)⟩, fun x hx => ?_, fun x hx => ?_, h.nd⟩
  · rcases List.mem_cons.1 hx with rfl | hx
    · exact setRow_heap w b cs ds t (0, 0) h.hd
    · rw [setRow_other w b x.1 ds (hL x hx)]
      exact h.rows x (List.mem_cons_of_mem _ hx)
  · rcases List.mem_cons.1 hx with rfl | hx
    · exact hb
    · exact h.own x (List.mem_cons_of_mem _ hx)
theorem HS.put {b : Nat} {cs : Array Value} {t : TypeId} (h : HS W ((b, .cells cs t) :: L) w) (j : Nat) (v : Value) : HS W ((b, .cells (cs.setIfInBounds j v) t) :: L) (w.setCell ⟨b, j, none⟩ v) := by
  rw [setCell_eq_setRow w b j cs t (0, 0) v h.hd]
  exact h.rowset
theorem HS.call {P : Program} {f : FuncId} {args : Array Value} {v : Value} (h : HS W L w) (hc : Calls P f args w fun e w' => e = .returned v ∧ Below w.heap.size w w') :
    Calls P f args w fun e w' => e = .returned v ∧ HS W L w' := hc.mono fun _ _ ⟨h1, h2⟩ => ⟨h1, h.later h2⟩

theorem ret_int {k : IntKind} {a b : Int} (h : a = b) : Ending.returned (.int k a) = .returned (.int k b) := by rw [h]
theorem val_int {k : IntKind} {a b : Int} (h : a = b) : Value.int k a = .int k b := by rw [h]
theorem old_row {b : Nat} {o : Obj} (h : w.heap[b]? = some o) (hb : Below w.heap.size w w') : w'.heap[b]? = some o := (hb.block b (Array.getElem?_eq_some_iff.1 h).1).trans h
theorem i64_mask (k : Nat) (hk : k ≤ 62) (n : Int) : bits .and .i64 n ((2 ^ k - 1 : Nat) : Int) = n % ((2 ^ k : Nat) : Int) := by
  have hp : 2 ^ k ≤ 2 ^ 62 := Nat.pow_le_pow_right (by omega) hk
  have hp0 := Nat.two_pow_pos k
  have hm : (BitVec.ofInt 64 ((2 ^ k - 1 : Nat) : Int)).toNat = 2 ^ k - 1 := by
    rw [BitVec.ofInt_natCast, BitVec.toNat_ofNat]; exact Nat.mod_eq_of_lt (by omega)
  have key : (BitVec.ofInt 64 n &&& BitVec.ofInt 64 ((2 ^ k - 1 : Nat) : Int)).toNat = (n % ((2 ^ 64 : Nat) : Int)).toNat % 2 ^ k := by
    rw [BitVec.toNat_and, BitVec.toNat_ofInt, hm, Nat.and_two_pow_sub_one_eq_mod]
  have hn : (((n % ((2 ^ 64 : Nat) : Int)).toNat % 2 ^ k : Nat) : Int) = n % ((2 ^ k : Nat) : Int) := by
    rw [Int.natCast_emod, Int.toNat_of_nonneg (by omega)]
    exact Int.emod_emod_of_dvd n (Int.natCast_dvd_natCast.2 (Nat.pow_dvd_pow 2 (by omega)))
  show IntKind.i64.wrap ((BitVec.ofInt 64 n &&& BitVec.ofInt 64 ((2 ^ k - 1 : Nat) : Int)).toNat : Nat) = _
  rw [key, hn]
  have h1 : 0 ≤ n % ((2 ^ k : Nat) : Int) := Int.emod_nonneg _ (by omega)
  have h2 : n % ((2 ^ k : Nat) : Int) < ((2 ^ k : Nat) : Int) := Int.emod_lt_of_pos _ (by omega)
  exact IntWalk.i64_in _ ⟨by omega, by omega⟩

/-- a call that changes nothing, in a region of quiet calls -/
theorem quiet1 {P : Program} {f : FuncId} {args : Array Value} {w : World} {n : Nat} {v : Value} (h : Calls P f args (w.drewN n) fun e w' => e = .returned v ∧ w.drewN n = w') : Calls P f args (w.drewN n) fun e w'' => e = .returned v ∧ ∃ m, w'' = w.drewN m :=
  h.mono fun _ _ ⟨he, hm⟩ => ⟨he, n, hm.symm⟩
theorem below_drewN {w : World} (n : Nat) : Below w.heap.size w (w.drewN n) := ⟨rfl, rfl, rfl, Nat.le_refl _, fun _ _ => rfl⟩

/-! ### 256 numbers, and what follows them -/
def mc (d : Nat → Int) (r : List Value) : Array Value := (((List.range 256).map fun i => Value.int .i64 (d i)) ++ r).toArray
theorem mc_size (d : Nat → Int) (r : List Value) : (mc d r).size = 256 + r.length := by unfold mc; simp
theorem mc_lt (d : Nat → Int) (r : List Value) (i : Nat) (hi : i < 256) : (mc d r)[i]? = some (.int .i64 (d i)) := by
  unfold mc; rw [List.getElem?_toArray, List.getElem?_append_left (by simpa using hi), List.getElem?_map, List.getElem?_range hi]; rfl
theorem mc_ge (d : Nat → Int) (r : List Value) (j : Nat) : (mc d r)[256 + j]? = r[j]? := by
  unfold mc; rw [List.getElem?_toArray, List.getElem?_append_right (by simp)]; simp
theorem mc_ext {d e : Nat → Int} (r : List Value) (h : ∀ i, i < 256 → d i = e i) : mc d r = mc e r := by
  unfold mc; rw [List.map_congr_left fun i hi => by rw [h i (by simpa using hi)]]
def updI (d : Nat → Int) (k : Nat) (x : Int) : Nat → Int := fun i => if i = k then x else d i
theorem mc_put (d : Nat → Int) (r : List Value) (k : Nat) (x : Int) (hk : k < 256) : (mc d r).setIfInBounds k (.int .i64 x) = mc (updI d k x) r := by
  apply Array.ext_getElem?
  intro i
  rw [Array.getElem?_setIfInBounds]
  by_cases h : k = i
  · subst h
    rw [if_pos rfl, if_pos (by rw [mc_size]; omega), mc_lt _ _ _ hk]
    unfold updI; rw [if_pos rfl]
  · rw [if_neg h]
    by_cases hi : i < 256
    · rw [mc_lt _ _ _ hi, mc_lt _ _ _ hi]; unfold updI; rw [if_neg (fun e => h e.symm)]
    · obtain ⟨j, rfl⟩ : ∃ j, i = 256 + j := ⟨i - 256, by omega⟩
      rw [mc_ge, mc_ge]
theorem mc_set (d : Nat → Int) (r : List Value) (j : Nat) (v : Value) : (mc d r).setIfInBounds (256 + j) v = mc d (r.set j v) := by
  unfold mc
  rw [List.setIfInBounds_toArray, List.set_append_right _ _ (by simp)]
  simp
theorem mc_one (d : Nat → Int) (r : List Value) (h : ∀ v ∈ r, v.oneCell' = true) : (mc d r).all (·.oneCell') = true := by
  unfold mc
  apply all_oneCell_toArray
  intro v hv
  rcases List.mem_append.1 hv with hv | hv
  · obtain ⟨i, _, hi⟩ := List.mem_map.1 hv
    rw [← hi]; rfl
  · exact h v hv
abbrev mob (t : TypeId) (d : Nat → Int) (r : List Value) : Obj := .cells (mc d r) t
theorem HS.putd {b : Nat} {t : TypeId} {d : Nat → Int} {r : List Value} (h : HS W ((b, mob t d r) :: L) w) (k : Nat) (x : Int) (hk : k < 256) : HS W ((b, mob t (updI d k x) r) :: L) (w.setCell ⟨b, k, none⟩ (.int .i64 x)) := by
  have := h.put k (.int .i64 x)
  rwa [mc_put d r k x hk] at this
theorem HS.putr {b : Nat} {t : TypeId} {d : Nat → Int} {r : List Value} (h : HS W ((b, mob t d r) :: L) w) (j : Nat) (v : Value) : HS W ((b, mob t d (r.set j v)) :: L) (w.setCell ⟨b, 256 + j, none⟩ v) := by
  have := h.put (256 + j) v
  rwa [mc_set d r j v] at this
theorem HS.celld {b : Nat} {t : TypeId} {d : Nat → Int} {r : List Value} (h : HS W L w) (hm : (b, mob t d r) ∈ L) (k : Nat) (hk : k < 256) : w.cell? ⟨b, k, none⟩ = some (.int .i64 (d k)) := (h.cell hm k).trans (mc_lt d r k hk)
theorem HS.cellr {b : Nat} {t : TypeId} {d : Nat → Int} {r : List Value} (h : HS W L w) (hm : (b, mob t d r) ∈ L) (j : Nat) : w.cell? ⟨b, 256 + j, none⟩ = r[j]? := (h.cell hm (256 + j)).trans (mc_ge d r j)

theorem HS.hfro {b : Nat} {cs : Array Value} {t : TypeId} (h : HS W ((b, .cells cs t) :: L) w) (j : Nat) : w.frozen? ⟨b, j, none⟩ = false := frozen_of_row _ _ _ _ _ h.hd
theorem HS.hd_d {b : Nat} {t : TypeId} {d : Nat → Int} {r : List Value} (h : HS W ((b, mob t d r) :: L) w) (k : Nat) (hk : k < 256) : w.cell? ⟨b, k, none⟩ = some (.int .i64 (d k)) := (cell_of_row _ _ _ _ _ _ h.hd).trans (mc_lt d r k hk)
theorem HS.hd_r {b : Nat} {t : TypeId} {d : Nat → Int} {r : List Value} (h : HS W ((b, mob t d r) :: L) w) (j : Nat) : w.cell? ⟨b, 256 + j, none⟩ = r[j]? := (cell_of_row _ _ _ _ _ _ h.hd).trans (mc_ge d r j)
theorem HS.val {a : Addr} {k : IntKind} {x y : Int} (e : x = y) (h : HS W L (w.setCell a (.int k y))) : HS W L (w.setCell a (.int k x)) := e ▸ h
theorem drew_eq (w : World) : { w with drawn := w.drawn + 1 } = w.drew := rfl
theorem quiet_sym {P : Program} {f : FuncId} {args : Array Value} {w : World} {v : Value} (h : Calls P f args w fun e w' => e = .returned v ∧ w = w') : Calls P f args w fun e w' => e = .returned v ∧ w' = w := h.mono fun _ _ ⟨h1, h2⟩ => ⟨h1, h2.symm⟩

/-! ### bytes -/
def str (l : List UInt8) : ByteArray := ⟨l.toArray⟩
def bcell (b : UInt8) : Value := .int .u8 (b.toNat : Int)
def OwnsB (B : Nat) (w : World) (v : Value) (p : List UInt8) : Prop := w.ownsRow B 5 1 v p.length (p.map bcell)
theorem infoB : (Try.prog.info? 5).map (fun i => (i.zero, i.size, i.bytes)) = some (some (.int .u8 0), 1, 1) := by kernel_rfl
theorem info_parts {t : TypeId} {z : Value} {n m : Nat} (h : (Try.prog.info? t).map (fun i => (i.zero, i.size, i.bytes)) = some (some z, n, m)) : ∃ i, Try.prog.info? t = some i ∧ i.zero = some z ∧ i.size = n ∧ i.bytes = m := by
  cases hi : Try.prog.info? t with
  | none => rw [hi] at h; cases h
  | some i => rw [hi] at h; simp at h; exact ⟨i, rfl, h.1, h.2.1, h.2.2⟩
/-- a slice of one's own that holds the bytes, and the rows that it takes -/
def SL (v : Value) (bs : List UInt8) (l : List (Nat × Obj)) : Prop :=
  (v = .slice none 0 0 ∧ bs = [] ∧ l = []) ∨ ∃ g cap cur, v = .slice (some ⟨g, 0, none⟩) bs.length cap ∧ l = [(g, .cells cur 5)] ∧ bs.length ≤ cap ∧ cap ≤ maxLen ∧ cur.size = cap ∧ cur.toList.take bs.length = bs.map bcell
theorem SL.nil : SL (.slice none 0 0) [] [] := .inl ⟨rfl, rfl, rfl⟩
theorem SL.owns {v : Value} {bs : List UInt8} {l : List (Nat × Obj)} (h : SL v bs l) (hs : HS W (l ++ L) w) : OwnsB W.heap.size w v bs := by
  rcases h with ⟨rfl, rfl, rfl⟩ | ⟨g, cap, cur, rfl, rfl, h1, h2, h3, h4⟩
  · exact World.ownsRow_nil _ _ _ _
  · exact ⟨by simp, .inr ⟨g, cap, cur, rfl, hs.own (g, .cells cur 5) (by simp), hs.row (b := g) (by simp), h1, h2, by omega, by simpa using h4⟩⟩
theorem SL.lt {v : Value} {bs : List UInt8} {l : List (Nat × Obj)} (h : SL v bs l) (hs : HS W (l ++ L) w) : ∀ k, v.ownBlock = some k → W.heap.size ≤ k ∧ k < w.heap.size ∧ ∀ x ∈ L, x.1 ≠ k := by
  intro k hk
  rcases h with ⟨rfl, rfl, rfl⟩ | ⟨g, cap, cur, rfl, rfl, h1, h2, h3, h4⟩
  · cases hk
  · have : g = k := by simpa [Value.ownBlock] using hk
    subst this
    exact ⟨hs.own (g, .cells cur 5) (by simp), hs.lt (b := g) (o := .cells cur 5) (by simp), hs.ne⟩
theorem SL.grown {v v' : Value} {bs cs : List UInt8} {l : List (Nat × Obj)} (h : SL v bs l) (hs : HS W (l ++ L) w) (ho : w'.ownsRow W.heap.size 5 1 v' cs.length (cs.map bcell)) (hg : w.grownBy w' v.ownBlock)
    (hb : v'.ownBlock = v.ownBlock ∨ v'.ownBlock = some w.heap.size) : ∃ l', SL v' cs l' ∧ HS W (l' ++ L) w' := by
  have hlt := h.lt hs
  have hR : HS W L w' := ⟨h.owns hs |> fun _ => hs.below.grown hg hs.below.size (fun k hk => (hlt k hk).1), fun x hx => by
      have h1 := hs.right.rows x hx
      have h2 := (Array.getElem?_eq_some_iff.1 h1).1
      rw [hg.block x.1 h2 (fun e => (hlt x.1 e.symm).2.2 x hx rfl)]; exact h1, hs.right.own, hs.right.nd⟩
  obtain ⟨_, ⟨rfl, h0⟩ | ⟨g, cap, cur, rfl, h1, h2, h3, h4, h5, h6⟩⟩ := ho
  · have : cs = [] := List.eq_nil_of_length_eq_zero h0
    subst this
    exact ⟨[], SL.nil, hR⟩
  · refine ⟨[(g, .cells cur 5)], .inr ⟨g, cap, cur, rfl, rfl, h3, h4, by omega, by simpa using h6⟩, hR.below, fun x hx => ?_, fun x hx => ?_, ?_⟩
    · rcases List.mem_cons.1 hx with rfl | hx
      · exact h2
      · exact hR.rows x hx
    · rcases List.mem_cons.1 hx with rfl | hx
      · exact h1
      · exact hR.own x hx
    · show (g :: L.map Prod.fst).Nodup
      rw [List.nodup_cons]
      refine ⟨fun hm => ?_, hR.nd⟩
      obtain ⟨x, hx, e⟩ := List.mem_map.1 hm
      have h7 : some g = v.ownBlock ∨ some g = some w.heap.size := hb
      rcases h7 with h7 | h7
      · exact (hlt g h7.symm).2.2 x hx e
      · have := (Array.getElem?_eq_some_iff.1 (hs.right.rows x hx)).1
        simp at h7; omega
theorem owns_conv {B : Nat} {w : World} {v : Value} {p : List UInt8} (h : OwnsB B w v p) : (convert 33 9 v).run Try.prog w = .ok (.string (str p)) w := by
  obtain ⟨hl, h | ⟨g, cap, cur, rfl, hg, hh, hn, hc, hs, ht⟩⟩ := h
  · obtain ⟨rfl, h0⟩ := h
    have : p = [] := List.eq_nil_of_length_eq_zero h0
    subst this
    exact run_convert_bytes_nil w _ _ Try.underlying33 Try.underlying5 _ _ _ Try.underlying9
  · refine run_convert_bytes_back w _ _ _ ⟨g, 0, none⟩ cap p Try.underlying33 Try.underlying5 Try.underlying9 fun j hj => ?_
    have hadd : (⟨g, 0, none⟩ : Addr).add j = ⟨g, j, none⟩ := by unfold Addr.add; split <;> simp_all
    rw [hadd, cell_of_row _ _ _ _ _ _ hh]
    have h2 : (cur.toList.take (p.length * 1))[j]? = (p.map bcell)[j]? := by rw [ht]
    rw [List.getElem?_take_of_lt (by omega)] at h2
    rw [← Array.getElem?_toList, h2]; simp [hj, bcell]
/-- what is appended: nothing, or bytes that stand in memory -/
def Src (w : World) (y : Value) (ms : List UInt8) : Prop := (y = .slice none 0 0 ∧ ms = []) ∨ ∃ q c, y = .slice (some ⟨q, 0, none⟩) ms.length c ∧ ∀ j u, (ms.map bcell)[j]? = some u → w.cell? ((⟨q, 0, none⟩ : Addr).add j) = some u
theorem Src.one (q : Nat) (b : UInt8) (hq : w.heap[q]? = some (.cells #[.int .u8 (b.toNat : Int)] 5)) : Src w (.slice (some ⟨q, 0, none⟩) 1 1) [b] := by
  refine .inr ⟨q, 1, rfl, fun j u hj => ?_⟩
  have hadd : (⟨q, 0, none⟩ : Addr).add j = ⟨q, j, none⟩ := by unfold Addr.add; split <;> simp_all
  rw [hadd, cell_of_row _ _ _ _ _ _ hq]
  match j with
  | 0 => simpa [bcell] using hj
  | j + 1 => simp at hj
theorem Src.one' (q : Nat) (b : UInt8) {y : Int} (e : y = (b.toNat : Int)) (hq : w.heap[q]? = some (.cells #[.int .u8 y] 5)) : Src w (.slice (some ⟨q, 0, none⟩) 1 1) [b] := Src.one q b (by rw [← e]; exact hq)
theorem Src.of {v : Value} {bs : List UInt8} {l : List (Nat × Obj)} (h : SL v bs l) (hs : HS W l w) : Src w v bs := by
  rcases h with ⟨rfl, rfl, rfl⟩ | ⟨g, cap, cur, rfl, rfl, h1, h2, h3, h4⟩
  · exact .inl ⟨rfl, rfl⟩
  · refine .inr ⟨g, cap, rfl, fun j u hj => ?_⟩
    have hadd : (⟨g, 0, none⟩ : Addr).add j = ⟨g, j, none⟩ := by unfold Addr.add; split <;> simp_all
    rw [hadd, cell_of_row _ _ _ _ _ _ (hs.row (b := g) (o := .cells cur 5) (by simp))]
    have hl : j < bs.length := by have := (List.getElem?_eq_some_iff.1 hj).1; simpa using this
    rw [← h4, List.getElem?_take_of_lt hl] at hj
    rw [← hj]; exact (Array.getElem?_toList ..).symm
theorem run_app {v y : Value} {bs ms : List UInt8} {l : List (Nat × Obj)} (ty : TypeId) (h : SL v bs l) (hs : HS W (l ++ L) w) (hy : Src w y ms) (hlen : bs.length + ms.length ≤ 1000000) :
    ∃ v' w' l', (Builtin.append_ #[33, 33] ty #[v, y]).run Try.prog w = .ok v' w' ∧ SL v' (bs ++ ms) l' ∧ HS W (l' ++ L) w' := by
  obtain ⟨i0, hi, hz0, hz1, hz2⟩ := info_parts infoB
  rcases hy with ⟨rfl, rfl⟩ | ⟨q, c, rfl, hm⟩
  · exact ⟨v, w, l, run_append_owned_none w W.heap.size 33 ty 5 i0 1 Try.underlying33 hi v bs.length (bs.map bcell) (h.owns hs), by rw [List.append_nil]; exact h, hs⟩
  · obtain ⟨v', w', h1, h2, h3, _, h5⟩ := run_append_own_at (P := Try.prog) w W.heap.size 33 ty 5 i0 (.int .u8 0) 1 1 Try.underlying33 hi hz0 hz1 hz2 rfl (by decide) v bs.length (bs.map bcell) (h.owns hs) ⟨q, 0, none⟩ ms.length c (ms.map bcell) (by simp) hm
      (by intro u hu; simp at hu; obtain ⟨b, _, rfl⟩ := hu; rfl) (by unfold maxLen; omega) (by omega) hs.below.size
    have h2' : w'.ownsRow W.heap.size 5 1 v' (bs ++ ms).length ((bs ++ ms).map bcell) := by rw [List.length_append, List.map_append]; exact h2
    obtain ⟨l', h6, h7⟩ := h.grown hs h2' h3 h5
    exact ⟨v', w', l', h1, h6, h7⟩
/-- 'append' behind a slice of one's own -/
theorem wp_app {o : Oper} {a : Act} {K : Act → World → Prop} {Q : Exit → Act → World → Prop} (s x : Operand) (ho : o.op = .call { callee := .builtin .append, args := #[s, x], argTypes := #[33, 33] })
    (v y : Value) (bs ms : List UInt8) (l : List (Nat × Obj)) (hv : a.eval s = v) (hx : a.eval x = y) (h : SL v bs l) (hs : HS W (l ++ L) w) (hy : Src w y ms) (hlen : bs.length + ms.length ≤ 1000000)
    (k : ∀ v' w' l', SL v' (bs ++ ms) l' → HS W (l' ++ L) w' → K (a.put o.dst v') w') : o.wp Try.prog a w K Q := by
  obtain ⟨v', w', l', hr, h1, h2⟩ := run_app o.type h hs hy hlen
  unfold Oper.wp execOp
  simp only [ho, resolve, invoke, builtin, Sem.run_bind, Sem.run_pure, Result.andThen_ok, List.map_toArray, List.map_cons, List.map_nil, hv, hx, hr]
  exact k v' w' l' h1 h2
theorem wpList_app {ops : Array Oper} {rest : List Oper} {o : Oper} {a : Act} {Q : Exit → Act → World → Prop} (hg : o.guard = none) (s x : Operand) (ho : o.op = .call { callee := .builtin .append, args := #[s, x], argTypes := #[33, 33] })
    (v y : Value) (bs ms : List UInt8) (l : List (Nat × Obj)) (hv : a.eval s = v) (hx : a.eval x = y) (h : SL v bs l) (hs : HS W (l ++ L) w) (hy : Src w y ms) (hlen : bs.length + ms.length ≤ 1000000)
    (k : ∀ v' w' l', SL v' (bs ++ ms) l' → HS W (l' ++ L) w' → wpList Try.prog ops Q rest (a.put o.dst v') w') : wpList Try.prog ops Q (o :: rest) a w :=
  wpList_plain hg fun _ hK => wp_app s x ho v y bs ms l hv hx h hs hy hlen fun v' w' l' h1 h2 => hK _ _ (k v' w' l' h1 h2)
end Go.Proofs.Ytbfnahclkajahaa.C
