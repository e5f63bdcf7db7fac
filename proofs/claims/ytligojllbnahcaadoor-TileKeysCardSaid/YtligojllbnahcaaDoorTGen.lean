/-
  A tile whose pixels are a function of their indices and places (contract of generate).
-/
import Derived.Test.YtligojllbnahcaaDoorTRange
import Derived.Test.YtligojllbnahcaaDoorMath
namespace Go.Proofs.YtligojllbnahcaaDoor.T
open Go.RowKit Go.Shelf
attribute [local go_sem] Oper.semAt_some
variable {w : World}

/-- the first n pixels of f -/
def upto (f : Nat → Px) (n : Nat) : Nat → Px := fun k => if k < n then f k else zp
theorem upto_zero (f : Nat → Px) : upto f 0 = z0 := by funext k; simp [upto, z0]
theorem upto_succ (f : Nat → Px) (n : Nat) : upd (upto f n) n (f n) = upto f (n + 1) := by
  funext k
  unfold upd upto
  by_cases h : k = n
  · subst h; rw [if_pos rfl, if_pos (by omega)]
  · rw [if_neg h]; by_cases h2 : k < n
    · rw [if_pos h2, if_pos (by omega)]
    · rw [if_neg h2, if_neg (by omega)]
theorem upto_all (f : Nat → Px) : tc (upto f 64) = tc f := tc_ext fun _ hi => if_pos hi
/-- a closure gives the pixel f i at the place number i -/
def Gives (g : Nat) (cb : Array Value) (f : Nat → Px) (w : World) : Prop :=
  ∀ V, Below w.heap.size w V → ∀ i, i < 64 → Calls Tryd.prog g (#[.int .i64 i, ptv i] ++ cb) V fun e w' => e = .returned (f i).v ∧ Below V.heap.size V w'
theorem Kept.setRow {M : Nat → Prop} {W W' : World} (h : Kept M W W') {b : Nat} (hb : M b) (cs : Array Value) : Kept M W (W'.setRow b cs) :=
  ⟨h.os, h.tape, h.output, by simpa [World.setRow] using h.size, fun k hk hm => (setRow_other W' b k cs (fun e => hm (e ▸ hb))).trans (h.block k hk hm)⟩
theorem abd_kept {β : Type} {M : Nat → Prop} {W : World} (n : Nat) (hn : W.heap.size ≤ n) : Abd n (fun (_ : β) V => Kept M W V) := fun _ _ _ h hb =>
  ⟨hb.os.trans h.os, hb.tape.trans h.tape, hb.output.trans h.output, Nat.le_trans h.size hb.size, fun k hk hm => (hb.block k (by omega)).trans (h.block k hk hm)⟩
/-- the places before number n -/
theorem pre_of {pre : List Nat} {x : Nat} (h : pre ++ [x] <+: List.range 64) : x = pre.length ∧ x < 64 := by
  obtain ⟨t, ht⟩ := h
  have hlen := congrArg List.length ht
  have hx : (pre ++ [x] ++ t)[pre.length]? = some x := by simp
  rw [ht] at hx
  have := List.getElem?_eq_some_iff.1 hx
  obtain ⟨h1, h2⟩ := this
  simp at h1 h2
  exact ⟨h2.symm, by omega⟩
set_option maxRecDepth 100000 in
set_option maxHeartbeats 4000000 in
theorem generate_any (g : Nat) (cb : Array Value) (f : Nat → Px) (w : World) (eg : ∀ args w, (callFunc g args).run Tryd.prog w = .ok (.enter g args) w) (hf : Gives g cb f w) :
    Calls Tryd.prog 19 #[.func (.func g) #[] cb] w fun e w' => e = .returned (tv f) ∧ Below w.heap.size w w' := by
  obtain ⟨b, hb⟩ : ∃ b, b = w.heap.size := ⟨_, rfl⟩
  obtain ⟨W1, hW1⟩ : ∃ W1, W1 = ((w.alloc (vo (.func (.func g) #[] cb) 48)).alloc (tob z0)).alloc (tob z0) := ⟨_, rfl⟩
  have hz : W1.heap.size = b + 3 := by rw [hW1, hb]; simp
  have hs := (((St.start w).alloc (vo (.func (.func g) #[] cb) 48)).alloc (tob z0)).alloc (tob z0)
  simp only [World.size_alloc] at hs
  rw [← hW1, ← hb] at hs
  have h1 := hs.row (b := b) (o := vo (.func (.func g) #[] cb) 48) (by simp)
  have h2 := hs.row (b := b + 1) (o := tob z0) (by simp)
  have h3 := hs.row (b := b + 1 + 1) (o := tob z0) (by simp)
  have hbel : Below b w W1 := hb ▸ hs.below
  have HF : Hid (∀ V, Below b w V → ∀ i, i < 64 → Calls Tryd.prog g (#[.int .i64 i, ptv i] ++ cb) V fun e w' => e = .returned (f i).v ∧ Below V.heap.size V w') := hb ▸ hf
  have HW := Lib.hid hW1
  have HB := Lib.hid hb
  have hzt := zero_tile
  clear hs hW1 hf hb
  refine (callsIn_wide (n := 6)).1 ?_
  refine callsIn_of_wp_marks Tryd.func19 rfl trivial ?_ rfl
  simp only [Tryd.ntmps19, List.size_toArray, List.length_cons, List.length_nil, Nat.reduceAdd, Nat.reduceSub, Array.replicate_succ, Array.replicate_zero, List.push_toArray, List.append_toArray, List.nil_append, List.cons_append]
  gi_wp2
  rw [← HB.out]
  have e1 : ((w.alloc (Obj.cells #[Value.func (Fn.func g) #[] cb] 48)).alloc (Obj.cells (tc z0) 25)).alloc (Obj.cells (tc z0) 25) = W1 := HW.out.symm
  rw [e1]
  clear e1 hzt
  have hIa : Abd W1.heap.size (fun (pre : List Nat) V => V.heap[b + 1 + 1]? = some (tob (upto f pre.length)) ∧ Hid (Kept (fun k => k = b + 1 + 1) W1 V)) := fun s A B ⟨k1, k2⟩ hb =>
    ⟨(hb.block _ (by omega)).trans k1, (abd_kept (β := Unit) _ (Nat.le_refl _)) () _ _ k2.out hb⟩
  refine range_box (gf := 21) (lb := #[]) rfl (enters_of Tryd.func21 (by kernel_rfl) rfl) (places_seq (fun k => k = b + 1 + 1) W1) (Below.refl _ _) (fun k hk => by omega) (fun _ => rfl)
    _ hIa ⟨by rw [List.length_nil, upto_zero]; exact h3, Kept.refl _ _⟩
    (fun x c => { tmps := #[.func (.func g) #[] cb, .pointer (some ⟨b, 0, none⟩), .pointer (some ⟨b + 1, 0, none⟩), .pointer (some ⟨b + 1 + 1, 0, none⟩), .int .i64 x, .pointer (some ⟨c, 0, none⟩), .int .i64 x, ptv x, undef, undef, undef, undef, undef, undef, undef], defers := [] })
    (fun x => .cells #[.int .i64 ((x : Int) % 8), .int .i64 ((x : Int) / 8)] 47) ?assign ?body ?done
  case assign =>
    intro l' x V K hK
    gi_wp2
    exact hK
  case body =>
    rintro l' pre x c V ⟨hT, HK⟩ hpre hc hP
    obtain ⟨rfl, hlt⟩ := pre_of hpre
    have hln : (pre ++ [pre.length]).length = pre.length + 1 := by simp
    generalize pre.length = n at *
    have HLN := Lib.hid hln
    have hnb : ∀ k, k < b → ¬ k = b + 1 + 1 := fun k hk => by omega
    have hcb : V.cell? ⟨b, 0, none⟩ = some (.func (.func g) #[] cb) := cell_of_row _ _ 0 _ _ _ (HK.out.row h1 (by omega))
    have hc0 : V.cell? ⟨c, 0, none⟩ = some (.int .i64 ((n : Int) % 8)) := cell_of_row _ _ 0 _ _ _ hP
    have hc1 : V.cell? ⟨c, 1, none⟩ = some (.int .i64 ((n : Int) / 8)) := cell_of_row _ _ 1 _ _ _ hP
    have HT := Lib.hid hT
    have hb2 : b + 1 + 1 < V.heap.size := (Array.getElem?_eq_some_iff.1 hT).1
    have hwV : Below b w V := hbel.trans (HK.out.below (by omega) hnb)
    have HC := Lib.hid (HF.out V hwV n hlt)
    have hix := index_px (b + 1 + 1) n hlt
    have HB2 := Lib.hid hb2
    have HNB := Lib.hid hnb
    clear hln hT hP hpre hIa h1 h2 h3 hbel HW hb2 hwV hnb
    gi_wp2_with (first | (refine wpListIn_store_of rfl 23 _ _ rfl HST.out ?_) | (refine ⟨trivial, ?_⟩; refine (CallsIn.inRound l' (inWide HC.out)).mono ?_; rintro e V2 ⟨rfl, hb⟩; have HT2 := Lib.hid ((hb.block (b + 1 + 1) HB2.out).trans HT.out); have hst := store_px (b + 1 + 1) (upto f n) n (f n) hlt V2 HT2.out; have HST := Lib.hid hst; have HBL := Lib.hid hb; clear hb hst))
    have hk2 : Kept (fun k => k = b + 1 + 1) V (V2.setRow (b + 1 + 1) (tc (upd (upto f n) n (f n)))) := Kept.setRow (M := fun k => k = b + 1 + 1) (Kept.of_below HBL.out) (b := b + 1 + 1) rfl _
    refine ⟨hk2, ?_, HK.out.trans hk2⟩
    rw [HLN.out, ← upto_succ]
    exact setRow_heap _ _ _ _ _ _ HT2.out
  case done =>
    rintro D V hD ⟨hT, HK⟩ hdef hk
    have hT2 : V.heap[b + 1 + 1]? = some (tob f) := by rw [hT, List.length_range]; show some (Obj.cells (tc (upto f 64)) _) = _; rw [upto_all]
    have hR : V.heap[b + 1]? = some (tob z0) := HK.out.row h2 (by omega)
    have hld := load_tile (b + 1 + 1) f V hT2
    have hst := store_tile (b + 1) z0 f V hR
    have hB2 : Below b w V := hbel.trans (HK.out.below (by omega) (fun k hk => by omega))
    have HB2 := Lib.hid hB2
    have HD := Lib.hid hD
    have HR := Lib.hid hR
    have HDF := Lib.hid hdef
    have HZ := Lib.hid hz
    clear hT hT2 hR hB2 hIa h1 h2 h3 hbel hdef hk hD hz
    have HLD := Lib.hid hld
    have HST := Lib.hid hst
    clear hld hst
    gi_wp2_with (first | (refine wpListIn_load_of rfl 25 _ rfl _ HLD.out ?_) | (refine wpListIn_store_of rfl 25 _ _ rfl HST.out ?_))
    have hd3 : (V.setRow (b + 1) (tc f)).heap[D]? = some (.deferred (some [])) := (setRow_other _ _ _ _ (by have := HD.out; have := HZ.out; omega)).trans HDF.out
    have hr3 : ((V.setRow (b + 1) (tc f)).putObj D (.deferred none)).heap[b + 1]? = some (tob f) := (World.putObj_heap_other (by have := HD.out; have := HZ.out; omega)).trans (setRow_heap _ _ _ _ _ _ HR.out)
    refine ⟨by simp, .inl ⟨_, _, rfl, run_takeDeferred hd3, ?_⟩⟩
    refine ⟨_, results_cell_row rfl _ _ (b + 1) _ _ _ _ rfl hr3 Tryd.underlying25 rfl (by rw [info_tile, tc_size]), rfl, ?_⟩
    rw [← HB.out]
    have hz2 : b ≤ (V.setRow (b + 1) (tc f)).heap.size := by have := HK.out.size; have := HZ.out; simp; omega
    have hb3 : Below b w (V.setRow (b + 1) (tc f)) := HB2.out.trans ⟨rfl, rfl, rfl, by simp, fun k hk => setRow_other _ _ _ _ (by omega)⟩
    exact hb3.trans (below_putObj _ (by have := HD.out; have := HZ.out; omega))
end Go.Proofs.YtligojllbnahcaaDoor.T
