/-
  slices.AppendSeq over an iterator that gives all its values; build.
-/
import Derived.Test.YtcmplgiilcfncaaValues
namespace Go.Proofs.Ytcmplgiilcfncaa
open Go.RowKit Go.Shelf
attribute [local go_sem] Oper.semAt_some
variable {w : World}

theorem Try.infoI : (Try.prog.info? 3).map (fun i => (i.zero, i.size, i.bytes)) = some (some (.int .i64 0), 1, 8) := by kernel_rfl
theorem own_below {n B g k cap : Nat} {t : TypeId} {xs : List Value} {W W' : World} (h : W.ownsRow B t 1 (.slice (some ⟨g, 0, none⟩) k cap) k xs) (hb : Below n W W') (hg : g < n) : W'.ownsRow B t 1 (.slice (some ⟨g, 0, none⟩) k cap) k xs := by
  obtain ⟨hl, h | ⟨g', cap', cur, hv, hg', hh, h⟩⟩ := h
  · exact absurd h.1 (by simp)
  · have e : g = g' := by simpa [Value.ownBlock] using congrArg Value.ownBlock hv
    subst e
    exact ⟨hl, Or.inr ⟨g, cap', cur, hv, hg', by rw [hb.block g hg]; exact hh, h⟩⟩
theorem cell1_new (W : World) (x : Value) (t : TypeId) : ∀ j u, [x][j]? = some u → (W.alloc (.cells #[x] t)).cell? ((⟨W.heap.size, 0, none⟩ : Addr).add j) = some u := by
  intro j u hj
  cases j with
  | zero => simp at hj; subst hj; exact cell_alloc W x t
  | succ j => simp at hj

set_option maxRecDepth 100000 in
set_option maxHeartbeats 4000000 in
theorem appendSeq_any (gf : Nat) (lb : Array Value) (n g B : Nat) (xs : List Int) (w0 w : World) (eg : ∀ args w, (callFunc gf args).run Try.prog w = .ok (.enter gf args) w) (hn : xs.length = n) (hg0 : w0.heap.size ≤ g)
    (hg : g < w.heap.size) (hb0 : Below w0.heap.size w0 w) (hown : w.ownsRow B 3 1 (.slice (some ⟨g, 0, none⟩) 0 n) 0 [])
    (hseq : ∀ M : Nat → Prop, (∀ k, M k → w0.heap.size ≤ k) → SeqAll Try.prog gf lb (fun x : Int => #[.int .i64 x]) M xs w0) :
    Calls Try.prog 61 #[.slice (some ⟨g, 0, none⟩) 0 n, .func (.func gf) #[] lb] w fun e w' => e = .returned (.slice (some ⟨g, 0, none⟩) n n) ∧ w'.ownsRow B 3 1 (.slice (some ⟨g, 0, none⟩) n n) n (xs.map (Value.int .i64)) ∧ Below w0.heap.size w0 w' := by
  obtain ⟨W1, hW1⟩ : ∃ W1, W1 = w.alloc (vo (.slice (some ⟨g, 0, none⟩) 0 n) 42) := ⟨_, rfl⟩
  obtain ⟨Bs, hBs⟩ : ∃ Bs, Bs = w.heap.size := ⟨_, rfl⟩
  have hz : W1.heap.size = Bs + 1 := by rw [hW1, hBs]; simp
  have hbox : Boxed W1 Bs 42 (.slice (some ⟨g, 0, none⟩) 0 n) := by rw [hW1, hBs]; exact Boxed.new _ _ _
  have hrow : W1.ownsRow B 3 1 (.slice (some ⟨g, 0, none⟩) 0 n) 0 [] := by rw [hW1]; exact hown.alloc _
  have hb1 : Below w0.heap.size w0 W1 := by rw [hW1]; exact hb0.alloc hb0.size _
  have hgB : g < Bs := by omega
  have h0B : w0.heap.size ≤ Bs := by omega
  have HS := Lib.hid (hseq (fun k => k = g ∨ k = Bs) (fun k hk => by omega))
  have hmp : (fun x : Int => Value.int .i64 x) = Value.int .i64 := rfl
  obtain ⟨inf, hi, hz0, hz1, hz2⟩ := info_parts Try.infoI
  have HW1 := Lib.hid hW1
  have HBs := Lib.hid hBs
  have HN := Lib.hid hn
  clear hW1 hown hseq hmp hb0 hn
  refine (callsIn_wide (n := 6)).1 ?_
  refine callsIn_of_wp_marks Try.func61 rfl trivial ?_ rfl
  simp only [Try.ntmps61, List.size_toArray, List.length_cons, List.length_nil, Nat.reduceAdd, Nat.reduceSub, Array.replicate_succ, Array.replicate_zero, List.push_toArray, List.append_toArray, List.nil_append, List.cons_append]
  clear hBs
  gi_wp2
  rw [← HBs.out]
  have e1 : w.alloc (Obj.cells #[Value.slice (some ⟨g, 0, none⟩) 0 n] 42) = W1 := HW1.out.symm
  rw [e1]
  clear e1
  have hIa : Abd W1.heap.size (fun (pre : List Int) V => (Boxed V Bs 42 (.slice (some ⟨g, 0, none⟩) pre.length n) ∧ V.ownsRow B 3 1 (.slice (some ⟨g, 0, none⟩) pre.length n) pre.length (pre.map (Value.int .i64))) ∧ Hid (Below w0.heap.size w0 V)) := fun s A B ⟨⟨h1, h2⟩, h3⟩ hb =>
    ⟨⟨(hb.block Bs (by omega)).trans h1, own_below h2 hb (by omega)⟩, h3.out.trans (hb.mono (by omega))⟩
  refine range_all (gf := gf) (lb := lb) rfl eg HS.out hb1 (fun k hk => by omega) (fun _ => rfl) _ hIa ⟨⟨hbox, hrow⟩, hb1⟩
    (fun x => { tmps := #[.slice (some ⟨g, 0, none⟩) 0 n, .func (.func gf) #[] lb, .pointer (some ⟨Bs, 0, none⟩), undef, .slice none 0 0, .int .i64 x, .func (.func gf) #[] lb, .int .i64 x, undef, undef, undef, undef, undef], defers := [] }) ?assign ?body ?done
  case assign =>
    intro l' x V K hK
    gi_wp2
    exact hK
  case body =>
    rintro l' pre x V ⟨⟨hb, hr⟩, hbel⟩ hpre hle
    have hlen : pre.length + 1 ≤ n := by
      have := hpre.length_le; rw [HN.out] at this; simpa using this
    have hv := hb.cell
    clear hpre hIa hb1 hrow hbox
    have HR := Lib.hid hr; clear hr
    have HBX := Lib.hid hb; clear hb
    have hVz : Bs < V.heap.size := (Array.getElem?_eq_some_iff.1 HBX.out).1
    gi_wp2_with (gi_at_builtin; refine wpListIn_append_fits _ rfl (.tmp 8) (.tmp 10) 42 rfl B 3 inf 1 Try.underlying42 hi hz1 g pre.length n _ (by rfl) (HR.out.alloc _) ⟨V.heap.size, 0, none⟩ 1 1 [.int .i64 x] (by rfl) rfl (cell1_new _ _ _) (by simp [Value.oneCell']) (by omega) ?_; intro v1 hown' hgrow; have HO := Lib.hid hown'; have HG := Lib.hid hgrow; have hx1 : Boxed v1 Bs 42 (.slice (some ⟨g, 0, none⟩) pre.length n) := (HBX.out.alloc _).kept hgrow (by simp; omega); have hcv := hx1.cell; have hfv := hx1.frozen; have HX1 := Lib.hid hx1; clear hown' hgrow hx1)
    have hx2 := HX1.out.set (.slice (some ⟨g, 0, none⟩) (pre.length + 1) n)
    have ho2 : (v1.setCell ⟨Bs, 0, none⟩ (.slice (some ⟨g, 0, none⟩) (pre.length + 1) n)).ownsRow B 3 1 (.slice (some ⟨g, 0, none⟩) (pre.length + 1) n) (pre.length + 1) (pre.map (Value.int .i64) ++ [.int .i64 x]) :=
      HO.out.kept (grownBy_setCell' v1 Bs _) (.inr (by simp [Value.ownBlock]; omega))
    have hk1 : Kept (fun k => k = g ∨ k = Bs) V (v1.setCell ⟨Bs, 0, none⟩ (.slice (some ⟨g, 0, none⟩) (pre.length + 1) n)) :=
      ((Kept.of_below below1).trans (Kept.of_grown HG.out (fun k e => by cases e; exact .inl rfl))).setCell (p := ⟨Bs, 0, none⟩) (.inr rfl) _
    exact ⟨hk1, ⟨by simpa using hx2, by simpa using ho2⟩, hbel.out.trans (hk1.below (by omega) (fun k hk hm => by omega))⟩
  case done =>
    rintro D V hD ⟨⟨hb, hr⟩, hbel⟩ hdef hk
    have hc := hb.cell
    rw [HN.out] at hr hc
    gi_wp2
    refine ⟨by simp, .inl ⟨_, _, rfl, run_takeDeferred hdef, ?_⟩⟩
    exact ⟨_, results_tmp rfl _ _ _, rfl, ownsRow_putObj hr _ hdef rfl, hbel.out.trans (below_putObj _ (by omega))⟩

/-- build: the values that the function gives to the arguments -/
theorem build_any (g : Nat) (cb : Array Value) (n : Nat) (f : Nat → Int) (w : World) (h2 : 2 ≤ n) (h3 : n ≤ 257) (eg : ∀ args w, (callFunc g args).run Try.prog w = .ok (.enter g args) w) (hf : Gives g cb n f w) :
    Calls Try.prog 41 #[.int .i64 n, .func (.func g) #[] cb] w fun e w' => ∃ b, e = .returned (.slice (some ⟨b, 0, none⟩) n n) ∧ Cm w' (.slice (some ⟨b, 0, none⟩) n n) ((List.range n).map f) ∧ Below w.heap.size w w' := by
  obtain ⟨W0, hW0⟩ : ∃ W0, W0 = (w.alloc (vo (.int .i64 n) 3)).alloc (vo (.func (.func g) #[] cb) 27) := ⟨_, rfl⟩
  have hz : W0.heap.size = w.heap.size + 1 + 1 := by rw [hW0]; simp
  have hb0 : Below w.heap.size w W0 := by rw [hW0]; exact below2
  have hs := ((St.start w).alloc (vo (.int .i64 n) 3)).alloc (vo (.func (.func g) #[] cb) 27)
  rw [World.size_alloc, ← hW0] at hs
  have hn1 := hs.row (b := w.heap.size) (o := vo (.int .i64 n) 3) (by simp)
  have hv1 := hs.row (b := w.heap.size + 1) (o := vo (.func (.func g) #[] cb) 27) (by simp)
  have hg2 : Gives g cb n f W0 := fun V hV i hi => hf V (hb0.trans (hV.mono (by omega))) i hi
  obtain ⟨inf, hi, hz0, hz1, hz2⟩ := info_parts Try.infoI
  have HA : Hid (∀ W1, Below W0.heap.size W0 W1 → W1.ownsRow W0.heap.size 3 1 (.slice (some ⟨W0.heap.size, 0, none⟩) 0 n) 0 [] → W0.heap.size < W1.heap.size →
      Calls Try.prog 61 #[.slice (some ⟨W0.heap.size, 0, none⟩) 0 n, .func (.func 59) #[] #[ptr w.heap.size, ptr (w.heap.size + 1)]] W1 fun e w' =>
        e = .returned (.slice (some ⟨W0.heap.size, 0, none⟩) n n) ∧ Cm w' (.slice (some ⟨W0.heap.size, 0, none⟩) n n) ((List.range n).map f) ∧ Below w.heap.size w w') := fun W1 hb ho hlt =>
    (appendSeq_any 59 _ n W0.heap.size W0.heap.size ((List.range n).map f) W0 W1 (enters_of Try.func59 (by kernel_rfl) rfl) (by simp) (Nat.le_refl _) hlt hb ho
      (fun M hM => values_seq n _ _ g cb f M W0 h2 h3 eg hn1 hv1 hM hg2)).mono fun e w' ⟨he, ho', hb'⟩ => ⟨he, cm_own (B := W0.heap.size) (by simpa using ho'), hb0.trans (hb'.mono (by omega))⟩
  have HW := Lib.hid hW0
  have HZ := Lib.hid hz
  clear hW0 hs hn1 hv1 hg2 hf hb0 eg hz
  go_enter Try.func41, Try.ntmps41
  go_upto_region 2 with fail
  have e1 : (w.alloc (Obj.cells #[Value.int IntKind.i64 n] 3)).alloc (Obj.cells #[Value.func (.func g) #[] cb] 27) = W0 := HW.out.symm
  rw [e1]
  clear e1
  have hc : W0.cell? ⟨w.heap.size, 0, none⟩ = some (.int .i64 n) := by
    rw [HW.out]
    have hs := ((St.start w).alloc (vo (.int .i64 n) 3)).alloc (vo (.func (.func g) #[] cb) 27)
    exact hs.var (b := w.heap.size) (x := .int .i64 n) (t := 3) (by simp)
  go_wp2_with (first
    | (at_make; refine wpList_make_own W0 rfl (.const (.int .i64 0)) (.tmp 7) 42 rfl W0.heap.size 3 inf (.int .i64 0) 1 Try.underlying42 hi hz0 hz1 .i64 .i64 n n (by rfl) (by rfl) rfl (by rw [hz2]; omega) (by unfold maxLen; omega) (Nat.le_refl _) ?_; intro w1 hown1 hgrow1; have HO := Lib.hid hown1; have HG := Lib.hid hgrow1; clear hown1 hgrow1)
    | (go_at_call 61; (refine (HA.out _ ?_ HO.out ?_).mono ?_); rotate_right; rintro e w2 ⟨rfl, hc2, hb2⟩; have HC2 := Lib.hid hc2; have HB2 := Lib.hid hb2; clear hc2 hb2))
  · go_ret
    exact ⟨_, rfl, HC2.out, HB2.out⟩
  · exact (Below.refl _ _).grown HG.out (Nat.le_refl _) (fun k e => by cases e)
  · exact (HO.out.lt W0.heap.size (by simp [Value.ownBlock])).2
end Go.Proofs.Ytcmplgiilcfncaa
