/-
  From a law's walk to its row: what the law returns is 'true', and nothing that was there before has changed; the laws' arguments.
-/
import Derived.Test.YtfncldaodbfakaaGreatTZero
import Derived.WalkKit
import Derived.ProofKit
import Derived.OpenShut
import Derived.SizedLaws
import Derived.JoinedCond
import Derived.Lib.Hide
namespace Go.Proofs.YtfncldaodbfakaaGreat.T
open Go.ChangeShapes Go.WideShapes Go.ChangeAt Go.RowKit
set_option maxRecDepth 100000

theorem own : ownKnob Tryz.prog.godebug = none := by kernel_rfl
theorem laidOut : laidOutB Tryz.prog = true := by kernel_rfl
theorem trodAll_below {H : Type} {enc : TypeId × Value → H} {W W' : World} (hb : Below W.heap.size W W') : ∀ (ts : List TypeId) (vs : List Value) (ds : List (DataW H)) (ps : List MemPlace),
    (∀ t ∈ ts, Tryz.prog.readableRec t = true ∧ t < Tryz.prog.types.size) → DataW.TrodAll enc Tryz.prog W 0 (fun _ => true) true ts vs ds ps → (∀ x ∈ ps, x.block < W.heap.size) →
    DataW.TrodAll enc Tryz.prog W' 0 (fun b => decide (b < W.heap.size)) true ts vs ds ps
  | [], vs, ds, ps, _, h, _ => by
    obtain ⟨rfl, rfl, rfl⟩ := trodAll_nil h
    exact trodAll_mk0
  | t :: ts, vs, ds, ps, hr, h, hp => by
    obtain ⟨v, vs', d, ds', p, q, rfl, rfl, rfl, h0, h1⟩ := trodAll_cons h
    have ht := hr t (by simp)
    exact trodAll_cons_mk (Below.trod laidOut ht.1 ht.2 h0 hb (fun x hx => hp x (by simp [hx]))) (trodAll_below hb ts vs' ds' q (fun t h => hr t (by simp [h])) h1 (fun x hx => hp x (by simp [hx])))
theorem law_post {H : Type} {enc : TypeId × Value → H} {f : Func} {s : ChangeSpec} {W W' : World} {args : Array Value} {ds gs : List (DataW H)} {before : List MemPlace}
    (hW : DataW.Whole enc Tryz.prog f.params.toList s.vars false W args.toList ds gs before) (hv : s.vars = []) (hres : f.resultTypes = #[4])
    (hspec : s.fn H (ds ++ gs) = { results := [.lit (.bool true)], args := ds }) (hr : ∀ t ∈ f.params.toList, Tryz.prog.readableRec t = true ∧ t < Tryz.prog.types.size) (hb : Below W.heap.size W W') :
    s.post enc Tryz.prog f false true false false W args (.bool true) W' := by
  have hW' := hW
  obtain ⟨p, q, hA, hV, rfl, hfz, hnd⟩ := hW
  rw [hv] at hV
  obtain ⟨rfl, rfl⟩ := trodVars_none hV
  refine ⟨ds, [], p ++ [], [], p, [], by simpa using hW', ?_, ?_, ?_, hb.frame _, fun h => by cases h⟩
  · rw [hspec, hres]; exact trodAll_mk1 (shut_bool Tryz.underlying4 _)
  · rw [hspec]; exact trodAll_below hb _ _ _ _ hr hA (fun x hx => by simpa using hW'.lt x (by simp [hx]))
  · rw [hspec, hv]; rfl

/-- an argument that is an array or a struct: its cells -/
theorem agg_cells {W : World} {r : Reach} {base : Nat} {t : TypeId} {v : Value} (ht : (match Tryz.prog.underlying t with | some (.struct _) => true | some (.array _ _) => true | _ => false) = true)
    (ts : List TypeId) (hts : Tryz.prog.cellTypes Tryz.prog.depth t = some ts) (hl : Tryz.prog.cellsOf t = ts.length) (hv : Value.okWide Tryz.prog W r base t v) :
    ∃ cs, v = .agg cs ∧ cs.size = Tryz.prog.cellsOf t ∧ ∀ (i : Nat) (x : Value), cs[i]? = some x → ∃ u, ts[i]? = some u ∧ (u = 5 → ∃ a, x = .int .u8 a ∧ Ch a) ∧ (u = 3 → ∃ a, x = .int .i64 a) := by
  have h : ∃ cs, v = .agg cs ∧ cs.size = Tryz.prog.cellsOf t ∧ Row.okWide Tryz.prog W r base t cs := by
    unfold Value.okWide at hv
    cases hu : Tryz.prog.underlying t with
    | none => rw [hu] at ht; cases ht
    | some d => rw [hu] at ht hv; cases d <;> first | exact hv | cases ht
  obtain ⟨cs, rfl, hsz, ts', hts', _, hcell⟩ := h
  rw [hts] at hts'
  cases hts'
  refine ⟨cs, rfl, hsz, fun i x hx => ?_⟩
  obtain ⟨u, hu, hk⟩ := hcell i x hx
  rw [Nat.mod_eq_of_lt (by rw [← hl, ← hsz]; exact (Array.getElem?_eq_some_iff.1 hx).1)] at hu
  refine ⟨u, hu, ?_, ?_⟩
  · intro e
    subst e
    unfold Cell.okWide Cell.ok at hk
    rw [Tryz.underlying5] at hk
    cases x <;> simp at hk
    obtain ⟨rfl, h0, h1⟩ := hk
    have h0 := Int.le_trans (show (0 : Int) ≤ IntKind.u8.min by decide) h0
    exact ⟨_, rfl, h0, Int.le_trans h1 (show IntKind.u8.max ≤ 255 by decide)⟩
  · intro e
    subst e
    unfold Cell.okWide Cell.ok at hk
    rw [Tryz.underlying3] at hk
    cases x <;> simp at hk
    exact ⟨_, by rw [hk.1]⟩
/-- the number in a cell -/
def nat8 (cs : Array Value) (i : Nat) : Int := match cs[i]? with | some (.int _ n) => n | _ => 0
/-- the pixel at an offset -/
def pxAt (cs : Array Value) (o : Nat) (i : Nat) : Px := ⟨nat8 cs (o + 4 * i), nat8 cs (o + 4 * i + 1), nat8 cs (o + 4 * i + 2), nat8 cs (o + 4 * i + 3)⟩
theorem nat8_of {cs : Array Value} {i : Nat} {a : Int} {k : IntKind} (h : cs[i]? = some (.int k a)) : nat8 cs i = a := by unfold nat8; rw [h]
/-- cells that are bytes from an offset on -/
def Bytes8 (cs : Array Value) (o n : Nat) : Prop := ∀ i, i < n → ∃ a, cs[o + i]? = some (.int .u8 a) ∧ Ch a
theorem bytes_px {cs : Array Value} {o n : Nat} (h : Bytes8 cs o (4 * n)) (i : Nat) (hi : i < n) : Pc (pxAt cs o i) ∧ ∀ j, j < 4 → cs[o + (4 * i + j)]? = (pl (pxAt cs o i))[j]? := by
  obtain ⟨a0, h0, c0⟩ := h (4 * i) (by omega)
  obtain ⟨a1, h1, c1⟩ := h (4 * i + 1) (by omega)
  obtain ⟨a2, h2, c2⟩ := h (4 * i + 2) (by omega)
  obtain ⟨a3, h3, c3⟩ := h (4 * i + 3) (by omega)
  have e : pxAt cs o i = ⟨a0, a1, a2, a3⟩ := by
    unfold pxAt
    rw [nat8_of h0, nat8_of (i := o + 4 * i + 1) h1, nat8_of (i := o + 4 * i + 2) h2, nat8_of (i := o + 4 * i + 3) h3]
  rw [e]
  refine ⟨⟨c0, c1, c2, c3⟩, fun j hj => ?_⟩
  have : j = 0 ∨ j = 1 ∨ j = 2 ∨ j = 3 := by omega
  rcases this with rfl | rfl | rfl | rfl
  · exact h0
  · exact h1
  · exact h2
  · exact h3
theorem bytes_of {cs : Array Value} {ts : List TypeId} (h : ∀ (i : Nat) (x : Value), cs[i]? = some x → ∃ u, ts[i]? = some u ∧ (u = 5 → ∃ a, x = .int .u8 a ∧ Ch a) ∧ (u = 3 → ∃ a, x = .int .i64 a)) (o n : Nat) (hn : o + n ≤ cs.size) (ht : ∀ i, i < n → ts[o + i]? = some 5) : Bytes8 cs o n := fun i hi => by
  have hx : cs[o + i]? = some cs[o + i] := Array.getElem?_eq_getElem (by omega)
  obtain ⟨u, hu, h8, _⟩ := h (o + i) _ hx
  rw [ht i hi] at hu
  cases hu
  obtain ⟨a, ha, hc⟩ := h8 rfl
  exact ⟨a, by rw [hx, ha], hc⟩
theorem open_fc {W : World} {r : Reach} {base n : Nat} {t : TypeId} {v : Value} (ht : (match Tryz.prog.underlying t with | some (.struct _) => true | some (.array _ _) => true | _ => false) = true) (hc : Tryz.prog.cellsOf t = 4 * n)
    (hts : Tryz.prog.cellTypes Tryz.prog.depth t = some (List.replicate (4 * n) 5)) (hv : Value.okWide Tryz.prog W r base t v) : ∃ f : Nat → Px, v = .agg (fc n f) ∧ ∀ i, i < n → Pc (f i) := by
  obtain ⟨cs, rfl, hs, h⟩ := agg_cells ht _ hts (by rw [hc, List.length_replicate]) hv
  have hs : cs.size = 4 * n := hs.trans hc
  have hb : Bytes8 cs 0 (4 * n) := bytes_of h 0 (4 * n) (by omega) (fun i hi => by rw [Nat.zero_add, List.getElem?_replicate, if_pos hi])
  refine ⟨pxAt cs 0, ?_, fun i hi => (bytes_px hb i hi).1⟩
  refine congrArg Value.agg ?_
  refine fc_of _ hs fun i j hi hj => ?_
  have := (bytes_px hb i hi).2 j hj
  rwa [Nat.zero_add] at this
set_option maxRecDepth 100000 in
theorem open_tile {W : World} {r : Reach} {base : Nat} {v : Value} (hv : Value.okWide Tryz.prog W r base 38 v) : ∃ f : Nat → Px, v = tv f ∧ ∀ i, i < 64 → Pc (f i) := open_fc (n := 64) (by kernel_rfl) (by kernel_rfl) (by kernel_rfl) hv
theorem open_px {W : World} {r : Reach} {base : Nat} {v : Value} (hv : Value.okWide Tryz.prog W r base 36 v) : ∃ p : Px, v = p.v ∧ Pc p := by
  obtain ⟨f, rfl, h⟩ := open_fc (n := 1) (t := 36) (by kernel_rfl) (by kernel_rfl) (by kernel_rfl) hv
  exact ⟨f 0, rfl, h 0 (by omega)⟩
theorem open_u8 {W : World} {r : Reach} {base : Nat} {v : Value} (hv : Value.okWide Tryz.prog W r base 5 v) : ∃ a : Int, v = .int .u8 a ∧ Ch a := by
  unfold Value.okWide Cell.okWide Cell.ok at hv
  rw [Tryz.underlying5] at hv
  cases v <;> simp at hv
  obtain ⟨rfl, h0, h1⟩ := hv
  have h0 := Int.le_trans (show (0 : Int) ≤ IntKind.u8.min by decide) h0
  exact ⟨_, rfl, h0, Int.le_trans h1 (show IntKind.u8.max ≤ 255 by decide)⟩
theorem open_p2 {W : World} {r : Reach} {base : Nat} {v : Value} (hv : Value.okWide Tryz.prog W r base 89 v) : ∃ a b : Int, v = .agg #[.int .i64 a, .int .i64 b] := by
  obtain ⟨cs, rfl, hs, h⟩ := agg_cells (by kernel_rfl) [3, 3] (by kernel_rfl) (by kernel_rfl) hv
  have hs : cs.size = 2 := hs.trans (by kernel_rfl)
  obtain ⟨x, y, e⟩ : ∃ x y, cs.toList = [x, y] := by
    match hl : cs.toList, (show cs.toList.length = 2 by simpa using hs) with
    | [x, y], _ => exact ⟨_, _, rfl⟩
  have e2 : cs = #[x, y] := by rw [show cs = cs.toList.toArray by simp, e]
  subst e2
  obtain ⟨u, hu, _, h0⟩ := h 0 x rfl
  obtain ⟨u', hu', _, h1⟩ := h 1 y rfl
  cases hu
  cases hu'
  obtain ⟨a, rfl⟩ := h0 rfl
  obtain ⟨b, rfl⟩ := h1 rfl
  exact ⟨a, b, rfl⟩
/-- two tiles, a mode and coverages -/
def lay (f g : Nat → Px) (m : Int) (c : Nat → Int) : Array Value := fc 128 (app 64 f g) ++ #[Value.int .i64 m] ++ cvc c
theorem lay_size (f g : Nat → Px) (m : Int) (c : Nat → Int) : (lay f g m c).size = 577 := by unfold lay; simp [fc_size, cvc_size]
/-- an input that fits: arguments of noughts -/
theorem witness7 {H : Type} {enc : TypeId × Value → H} {C : Checked} {os : Os} {f : FuncId} {fn : Func} {s : ChangeSpec} {conds : List PathCond} {apart : Bool} (modest : Bool) (i : Input) (fuel : Nat)
    (hv : (World.plainHolding C.prog os i).variablesB C.prog = true)
    (hr : ((World.plainHolding C.prog os i).heap.toList.drop C.prog.globals.size).take ((begin C.prog (fun _ _ => 0) default).world.heap.size - C.prog.globals.size) =
      (begin C.prog (fun _ _ => 0) default).world.heap.toList.drop C.prog.globals.size)
    (hok : ∀ W base, Input.okWide C.prog W .any base f ⟨#[], i.args, []⟩)
    (hpre : s.preB enc C.prog fn conds apart (World.plainHolding C.prog os i).memory i.args fuel = true)
    (hsz : s.sizedB enc C.prog fn apart (World.plainHolding C.prog os i).memory i.args fuel = true) :
    ∃ (w : World) (tape : Tape) (i : Input), w.os = os ∧ (w.forCall tape i).Shaped C.prog ∧ i.vars = [] ∧ Input.okWide C.prog (w.forCall tape i) .any w.heap.size f i ∧
      s.pre6 enc C.prog fn conds apart (w.forCall tape i).memory i.args ∧ ({ modest := modest } : Assume).holds C.prog (lone (Frame.enter C.prog f i.args .normal) [] (w.forCall tape i)) :=
  ⟨World.holding C.prog os i, fun _ _ => 0, ⟨#[], i.args, []⟩, rfl, World.shaped_of_B hv hr, rfl, hok _ _, ⟨ChangeSpec.pre_of_preB hpre, sizedMet_of_sizedB hsz⟩, by
    simp only [Assume.holds]
    exact ⟨by simp, by simp, fun _ => Modest.zero, by simp, by simp⟩⟩
theorem ok_cell8 (W : World) (base : Nat) : Cell.okWide Tryz.prog W .any base 5 (.int .u8 0) := by
  unfold Cell.okWide Cell.ok
  rw [Tryz.underlying5]
  exact ⟨rfl, by decide, by decide⟩
theorem ok_celli (W : World) (base : Nat) : Cell.okWide Tryz.prog W .any base 3 (.int .i64 0) := by
  unfold Cell.okWide Cell.ok
  rw [Tryz.underlying3]
  exact ⟨rfl, by decide, by decide⟩
theorem ok_u8 (W : World) (base : Nat) : Value.okWide Tryz.prog W .any base 5 (.int .u8 0) := by
  unfold Value.okWide
  rw [Tryz.underlying5]
  exact ok_cell8 W base
theorem ok_agg {t : TypeId} {cs : Array Value} {ts : List TypeId} (ht : (match Tryz.prog.underlying t with | some (.struct _) => true | some (.array _ _) => true | _ => false) = true)
    (hts : Tryz.prog.cellTypes Tryz.prog.depth t = some ts) (hl : Tryz.prog.cellsOf t = ts.length) (hs : cs.size = ts.length) (h : ∀ (i : Nat) (v : Value) (u : TypeId), cs[i]? = some v → ts[i]? = some u → (u = 5 ∧ v = .int .u8 0) ∨ (u = 3 ∧ v = .int .i64 0)) (W : World) (base : Nat) :
    Value.okWide Tryz.prog W .any base t (.agg cs) := by
  have h2 : ∃ cs', Value.agg cs = .agg cs' ∧ cs'.size = Tryz.prog.cellsOf t ∧ Row.okWide Tryz.prog W .any base t cs' := by
    refine ⟨cs, rfl, hs.trans hl.symm, ts, hts, ⟨1, by rw [hs, Nat.one_mul]⟩, fun i v hv => ?_⟩
    have hi : i < ts.length := hs ▸ (Array.getElem?_eq_some_iff.1 hv).1
    rw [Nat.mod_eq_of_lt hi]
    have hu : ts[i]? = some ts[i] := List.getElem?_eq_getElem hi
    refine ⟨_, hu, ?_⟩
    rcases h i v _ hv hu with ⟨e, rfl⟩ | ⟨e, rfl⟩
    · rw [e]; exact ok_cell8 W base
    · rw [e]; exact ok_celli W base
  unfold Value.okWide
  cases hu : Tryz.prog.underlying t with
  | none => rw [hu] at ht; cases ht
  | some d => rw [hu] at ht; cases d <;> first | exact h2 | cases ht
theorem fc_zero {n i : Nat} {v : Value} (h : (fc n z0)[i]? = some v) : v = .int .u8 0 := by
  have hi : i < 4 * n := by have := (Array.getElem?_eq_some_iff.1 h).1; rwa [fc_size] at this
  rw [show i = 4 * (i / 4) + i % 4 by omega, fc_get n z0 _ _ (by omega) (by omega)] at h
  have : i % 4 = 0 ∨ i % 4 = 1 ∨ i % 4 = 2 ∨ i % 4 = 3 := by omega
  rcases this with e | e | e | e <;> rw [e] at h <;> exact (Option.some.inj h).symm
theorem ok_fc {t : TypeId} (n : Nat) (ht : (match Tryz.prog.underlying t with | some (.struct _) => true | some (.array _ _) => true | _ => false) = true) (hts : Tryz.prog.cellTypes Tryz.prog.depth t = some (List.replicate (4 * n) 5)) (hc : Tryz.prog.cellsOf t = 4 * n) (W : World) (base : Nat) :
    Value.okWide Tryz.prog W .any base t (.agg (fc n z0)) :=
  ok_agg ht hts (by rw [hc, List.length_replicate]) (by rw [fc_size, List.length_replicate]) (fun i v u hv hu => .inl ⟨(by
    rw [List.getElem?_replicate] at hu
    by_cases h : i < 4 * n
    · rw [if_pos h] at hu; exact (Option.some.inj hu).symm
    · rw [if_neg h] at hu; cases hu), fc_zero hv⟩) W base
set_option maxRecDepth 100000 in
theorem ok_tile (W : World) (base : Nat) : Value.okWide Tryz.prog W .any base 38 (tv z0) := ok_fc 64 (by kernel_rfl) (by kernel_rfl) (by kernel_rfl) W base
theorem ok_px (W : World) (base : Nat) : Value.okWide Tryz.prog W .any base 36 zp.v := ok_fc 1 (by kernel_rfl) (by kernel_rfl) (by kernel_rfl) W base
theorem ok_p2 (W : World) (base : Nat) : Value.okWide Tryz.prog W .any base 89 (.agg #[.int .i64 0, .int .i64 0]) :=
  ok_agg (ts := [3, 3]) (by kernel_rfl) (by kernel_rfl) (by kernel_rfl) rfl (fun i v u hv hu => by
    match i with
    | 0 => exact .inr ⟨(Option.some.inj hu).symm, (Option.some.inj hv).symm⟩
    | 1 => exact .inr ⟨(Option.some.inj hu).symm, (Option.some.inj hv).symm⟩
    | i + 2 => simp at hu) W base
end Go.Proofs.YtfncldaodbfakaaGreat.T
