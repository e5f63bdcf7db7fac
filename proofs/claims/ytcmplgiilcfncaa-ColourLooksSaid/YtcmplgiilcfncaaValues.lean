/-
  The iterator of the values that a function gives to the arguments of n points.
-/
import Derived.Test.YtcmplgiilcfncaaArgs
namespace Go.Proofs.Ytcmplgiilcfncaa
open Go.RowKit Go.Shelf
attribute [local go_sem] Oper.semAt_some
variable {w : World}

theorem abd_kept {β : Type} {M : Nat → Prop} {W : World} (n : Nat) (hn : W.heap.size ≤ n) : Abd n (fun (_ : β) V => Kept M W V) := fun _ A B h hb =>
  ⟨hb.os.trans h.os, hb.tape.trans h.tape, hb.output.trans h.output, Nat.le_trans h.size hb.size, fun k hk hm => (hb.block k (by omega)).trans (h.block k hk hm)⟩
theorem Abd.mono {β : Type} {n m : Nat} {J : β → World → Prop} (h : Abd n J) (hm : n ≤ m) : Abd m J := fun s A B hs hb => h s A B hs (hb.mono hm)
theorem Kept.put {M : Nat → Prop} {W W' : World} (h : Kept M W W') {l : Nat} (o : Obj) (hl : W.heap.size ≤ l) : Kept M W (W'.putObj l o) :=
  ⟨h.os, h.tape, h.output, by simpa [World.putObj] using h.size, fun k hk hm => (World.putObj_heap_other (by omega)).trans (h.block k hk hm)⟩

/-- a function of an index and an argument, as a value -/
def Gives (g : Nat) (cb : Array Value) (n : Nat) (f : Nat → Int) (w : World) : Prop :=
  ∀ V, Below w.heap.size w V → ∀ i, i < n → Calls Try.prog g (#[.int .i64 i, .int .i64 (arg i n)] ++ cb) V fun e w' => e = .returned (.int .i64 (f i)) ∧ Below V.heap.size V w'

set_option maxRecDepth 100000 in
set_option maxHeartbeats 4000000 in
theorem values_seq (n bn bv g : Nat) (cb : Array Value) (f : Nat → Int) (M : Nat → Prop) (w : World) (h2 : 2 ≤ n) (h3 : n ≤ 257) (eg : ∀ args w, (callFunc g args).run Try.prog w = .ok (.enter g args) w)
    (hn : w.heap[bn]? = some (vo (.int .i64 n) 3)) (hv : w.heap[bv]? = some (vo (.func (.func g) #[] cb) 27)) (hM : ∀ k, M k → w.heap.size ≤ k) (hf : Gives g cb n f w) :
    SeqAll Try.prog 59 #[ptr bn, ptr bv] (fun x : Int => #[.int .i64 x]) M ((List.range n).map f) w := by
  intro l J W hW hMW hJ hY h0
  have hn1 : W.heap[bn]? = some (vo (.int .i64 n) 3) := (hW.block bn (Array.getElem?_eq_some_iff.1 hn).1).trans hn
  have hv1 : W.heap[bv]? = some (vo (.func (.func g) #[] cb) 27) := (hW.block bv (Array.getElem?_eq_some_iff.1 hv).1).trans hv
  have mn : ¬ M bn := fun hm => by have := hM _ hm; have := (Array.getElem?_eq_some_iff.1 hn).1; omega
  have mv : ¬ M bv := fun hm => by have := hM _ hm; have := (Array.getElem?_eq_some_iff.1 hv).1; omega
  have my : ¬ M W.heap.size := fun hm => by have := hMW _ hm; omega
  have my1 : ¬ M (W.heap.size + 1) := fun hm => by have := hMW _ hm; omega
  -- the world at the loop: yield's box, the box of arguments' n
  obtain ⟨W1, hW1⟩ : ∃ W1, W1 = (W.alloc (vo (.func (.yield l) #[] #[]) 54)).alloc (vo (.int .i64 n) 3) := ⟨_, rfl⟩
  have hz1 : W1.heap.size = W.heap.size + 1 + 1 := by rw [hW1]; simp
  have hbW : Below W.heap.size W W1 := by rw [hW1]; exact below2
  have hy1 : W1.heap[W.heap.size]? = some (vo (.func (.yield l) #[] #[]) 54) := by
    rw [hW1]; exact (Below.heap_alloc _ _ _ (by simp)).trans (World.alloc_heap_new W _)
  have ha1 : W1.heap[W.heap.size + 1]? = some (vo (.int .i64 n) 3) := by
    rw [hW1]; have := World.alloc_heap_new (W.alloc (vo (.func (.yield l) #[] #[]) 54)) (vo (.int .i64 n) 3); rwa [World.size_alloc] at this
  have hv2 : W1.heap[bv]? = some (vo (.func (.func g) #[] cb) 27) := (hbW.block bv (Array.getElem?_eq_some_iff.1 hv1).1).trans hv1
  have hc0 : (W.alloc (.cells #[.func (.yield l) #[] #[]] 54)).cell? ⟨bn, 0, none⟩ = some (.int .i64 n) := (below1.cell (p := ⟨bn, 0, none⟩) (Array.getElem?_eq_some_iff.1 hn1).1).trans (cell_of_row _ _ 0 _ _ _ hn1)
  have HC : Hid (∀ V, Kept M W1 V → V.cell? ⟨bv, 0, none⟩ = some (.func (.func g) #[] cb) ∧ V.cell? ⟨W.heap.size, 0, none⟩ = some (.func (.yield l) #[] #[])) := fun V hV => ⟨hV.cell hv2 mv, hV.cell hy1 my⟩
  have HS : SeqAll Try.prog 70 #[ptr (W.heap.size + 1)] (fun i : Nat => #[.int .i64 i, .int .i64 (arg i n)]) M (List.range n) W1 := args_seq n (W.heap.size + 1) M W1 h2 h3 ha1 my1
  have HF : Hid (∀ V, Kept M W1 V → ∀ i, i < n → Calls Try.prog g (#[.int .i64 i, .int .i64 (arg i n)] ++ cb) V fun e w' => e = .returned (.int .i64 (f i)) ∧ Below V.heap.size V w') := fun V hV i hi =>
    hf V (hW.trans ((hbW.mono hW.size).trans (hV.below (by have := hW.size; omega) (fun k hk hm => by have := hM k hm; omega)))) i hi
  have HJ := Lib.hid hJ
  have HY := Lib.hid hY
  have h01 := hJ _ _ _ h0 hbW
  refine (callsIn_wide (n := 6)).1 ?_
  refine callsIn_of_wp_marks Try.func59 rfl trivial ?_ rfl
  simp only [Try.ntmps59, List.size_toArray, List.length_cons, List.length_nil, Nat.reduceAdd, Nat.reduceSub, Array.replicate_succ, Array.replicate_zero, List.push_toArray, List.append_toArray, List.nil_append, List.cons_append]
  have HW1 := Lib.hid hW1
  have HM := Lib.hid hMW
  have HB := Lib.hid hbW
  have HZ := Lib.hid hz1
  have HS1 := Lib.hid HS
  have H01 := Lib.hid h01
  clear hW1 hMW hbW hn hv hM hf hJ hY h0 hn1 hv1 mn my1 my mv hy1 ha1 hv2 HS h01 hz1 hW
  gi_wp2_with (refine ⟨trivial, ?_⟩; gi_at_call 60; refine (inWide (arguments_any _ _)).mono ?_; rintro e W2 ⟨rfl, rfl⟩; rw [World.size_alloc, ← HW1.out])
  have hIa : Abd W1.heap.size (fun (pre : List Nat) V => J (pre.map f) V ∧ Hid (Kept M W1 V)) := fun s A B ⟨h1, h2⟩ hb => ⟨HJ.out _ _ _ h1 (hb.mono (by have := HZ.out; omega)), (abd_kept (β := Unit) _ (Nat.le_refl _)) () _ _ h2.out hb⟩
  refine range_all (gf := 70) (lb := #[ptr (W.heap.size + 1)]) rfl (enters_of Try.func70 (by kernel_rfl) rfl) HS1.out (Below.refl _ _) (fun k hk => by have := HM.out k hk; have := HZ.out; omega) (fun _ => rfl)
    (fun (pre : List Nat) V => J (pre.map f) V ∧ Hid (Kept M W1 V)) hIa ⟨H01.out, Kept.refl _ _⟩
    (fun i => { tmps := #[.func (.yield l) #[] #[], ptr bn, ptr bv, .pointer (some ⟨W.heap.size, 0, none⟩), .int .i64 (i : Nat), .int .i64 (arg i n), .int .i64 n, .func (.func 70) #[] #[ptr (W.heap.size + 1)], .int .i64 (i : Nat), .int .i64 (arg i n), undef, undef, undef, undef, undef, undef, undef], defers := [] }) ?assign ?body ?done
  case assign =>
    intro l' x V K hK
    gi_wp2
    exact hK
  case body =>
    rintro l' pre x V ⟨hJ1, HK⟩ hpre hle
    have hlen : x < n := by
      have : x ∈ List.range n := hpre.subset (by simp)
      simpa using this
    have hpre2 : pre.map f ++ [f x] <+: (List.range n).map f := by
      obtain ⟨t, ht⟩ := hpre
      exact ⟨t.map f, by rw [← ht]; simp⟩
    have HP := Lib.hid hpre2
    have HJ1 := Lib.hid hJ1
    have HFx := Lib.hid (fun V hV => HF.out V hV x hlen)
    clear hpre hpre2 hJ1 hIa H01 HS1
    have HKd : Hid (Kept M W1 V.drew) := HK.out.trans (Kept.of_below (Below.refl _ V).drew)
    have HJd : Hid (J (pre.map f) V.drew) := HJ.out _ _ _ HJ1.out (Below.refl _ V).drew
    have hmx : Try.prog.follows .mixedOrders = true := by kernel_rfl
    clear HJ1 HK
    gi_wp2
    obtain ⟨c1, c2⟩ := HC.out _ HKd.out
    gi_region_with_o (first
      | ((refine (round_any hR).mono ?_); rintro e V3 ⟨rfl, hJ3, hk3⟩)
      | (refine ⟨trivial, ?_⟩; refine (CallsIn.inRound l' (inWide (HFx.out _ HKd.out))).mono ?_; rintro e V2 ⟨rfl, hb⟩; have HK2 : Hid (Kept M W1 V2) := HKd.out.trans (Kept.of_below hb); have HJ2 := Lib.hid (HJ.out _ _ _ HJd.out (hb.mono (by have := HKd.out.size; have := HZ.out; omega))); obtain ⟨d1, d2⟩ := HC.out _ HK2.out; obtain ⟨fn, tmps, assign, body, hy, hR⟩ := HY.out _ _ V2 4 HJ2.out HP.out))
    all_goals
      gi_wp2
      exact ⟨(Kept.of_below ((Below.refl _ V).drew.trans (by assumption))).trans hk3, by rw [List.map_append]; exact hJ3, HK2.out.trans hk3⟩
  case done =>
    rintro D V hD ⟨hJ1, HK⟩ hdef hk
    gi_wp2
    have hz := HZ.out
    refine ⟨by simp, .inl ⟨_, _, rfl, run_takeDeferred hdef, ?_⟩⟩
    exact ⟨_, results_none rfl _ _ _, ⟨_, rfl⟩, HJ.out _ _ _ hJ1 (below_putObj _ (by omega)), ((Kept.of_below HB.out).trans hk).put _ (by omega)⟩
end Go.Proofs.Ytcmplgiilcfncaa
