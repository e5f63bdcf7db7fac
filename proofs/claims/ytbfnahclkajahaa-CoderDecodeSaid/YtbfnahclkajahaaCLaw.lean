/-
  From a law's walk to its row: what the law returns is 'true', and nothing that was there before has changed; the laws' arguments.
-/
import Derived.Test.YtbfnahclkajahaaCTwo
import Derived.WalkKit
import Derived.ProofKit
import Derived.OpenShut
import Derived.SizedLaws
import Derived.JoinedCond
import Derived.ChangeSlices
import Derived.Lib.LaidTab
import Derived.Lib.Hide
namespace Go.Proofs.Ytbfnahclkajahaa.C
open Go.ChangeShapes Go.WideShapes Go.ChangeAt Go.RowKit
set_option maxRecDepth 100000

theorem own : ownKnob Try.prog.godebug = none := by kernel_rfl
theorem laidOut : laidOutB Try.prog = true := by kernel_rfl

theorem trodAll_below {H : Type} {enc : TypeId × Value → H} {W W' : World} (hb : Below W.heap.size W W') : ∀ (ts : List TypeId) (vs : List Value) (ds : List (DataW H)) (ps : List MemPlace),
    (∀ t ∈ ts, Try.prog.readableRec t = true ∧ t < Try.prog.types.size) → DataW.TrodAll enc Try.prog W 0 (fun _ => true) true ts vs ds ps → (∀ x ∈ ps, x.block < W.heap.size) →
    DataW.TrodAll enc Try.prog W' 0 (fun b => decide (b < W.heap.size)) true ts vs ds ps
  | [], vs, ds, ps, _, h, _ => by
    obtain ⟨rfl, rfl, rfl⟩ := trodAll_nil h
    exact trodAll_mk0
  | t :: ts, vs, ds, ps, hr, h, hp => by
    obtain ⟨v, vs', d, ds', p, q, rfl, rfl, rfl, h0, h1⟩ := trodAll_cons h
    have ht := hr t (by simp)
    exact trodAll_cons_mk (Below.trod laidOut ht.1 ht.2 h0 hb (fun x hx => hp x (by simp [hx]))) (trodAll_below hb ts vs' ds' q (fun t h => hr t (by simp [h])) h1 (fun x hx => hp x (by simp [hx])))

theorem law_post {H : Type} {enc : TypeId × Value → H} {f : Func} {s : ChangeSpec} {W W' : World} {args : Array Value} {ds gs : List (DataW H)} {before : List MemPlace}
    (hW : DataW.Whole enc Try.prog f.params.toList s.vars false W args.toList ds gs before) (hv : s.vars = []) (hres : f.resultTypes = #[4])
    (hspec : s.fn H (ds ++ gs) = { results := [.lit (.bool true)], args := ds }) (hr : ∀ t ∈ f.params.toList, Try.prog.readableRec t = true ∧ t < Try.prog.types.size) (hb : Below W.heap.size W W') :
    s.post enc Try.prog f false true false false W args (.bool true) W' := by
  have hW' := hW
  obtain ⟨p, q, hA, hV, rfl, hfz, hnd⟩ := hW
  rw [hv] at hV
  obtain ⟨rfl, rfl⟩ := trodVars_none hV
  refine ⟨ds, [], p ++ [], [], p, [], by simpa using hW', ?_, ?_, ?_, hb.frame _, fun h => by cases h⟩
  · rw [hspec, hres]; exact trodAll_mk1 (shut_bool Try.underlying4 _)
  · rw [hspec]; exact trodAll_below hb _ _ _ _ hr hA (fun x hx => by simpa using hW'.lt x (by simp [hx]))
  · rw [hspec, hv]; rfl
/-- an argument that is an array or a struct of ints -/
theorem agg_ints {W : World} {r : Reach} {base n : Nat} {t : TypeId} {v : Value} (ht : (match Try.prog.underlying t with | some (.struct _) => true | some (.array _ _) => true | _ => false) = true) (hc : Try.prog.cellsOf t = n)
    (hts : Try.prog.cellTypes Try.prog.depth t = some (List.replicate n 3)) (hv : Value.okWide Try.prog W r base t v) : ∃ l : List Int, l.length = n ∧ v = .agg (l.map (Value.int .i64)).toArray := by
  have h : ∃ cs, v = .agg cs ∧ cs.size = Try.prog.cellsOf t ∧ Row.okWide Try.prog W r base t cs := by
    unfold Value.okWide at hv
    cases hu : Try.prog.underlying t with
    | none => rw [hu] at ht; cases ht
    | some d => rw [hu] at ht hv; cases d <;> first | exact hv | cases ht
  obtain ⟨cs, rfl, hsz, ts, hts', _, hcell⟩ := h
  rw [hts] at hts'
  cases hts'
  have hall : ∀ x ∈ cs.toList, ∃ a, x = Value.int .i64 a := by
    intro x hx
    obtain ⟨i, hi⟩ := List.mem_iff_getElem?.1 hx
    obtain ⟨u, hu, hk⟩ := hcell i x (by simpa using hi)
    have : u = 3 := List.eq_of_mem_replicate (List.mem_of_getElem? hu)
    subst this
    unfold Cell.okWide Cell.ok at hk
    rw [Try.underlying3] at hk
    cases x <;> simp at hk
    exact ⟨_, by rw [hk.1]⟩
  have key : ∀ L : List Value, (∀ x ∈ L, ∃ a, x = Value.int .i64 a) → ∃ l : List Int, L = l.map (Value.int .i64) := by
    intro L
    induction L with
    | nil => exact fun _ => ⟨[], rfl⟩
    | cons x L ih =>
      intro hL
      obtain ⟨a, rfl⟩ := hL x (by simp)
      obtain ⟨l, rfl⟩ := ih (fun y hy => hL y (by simp [hy]))
      exact ⟨a :: l, rfl⟩
  obtain ⟨l, hl⟩ := key _ hall
  refine ⟨l, ?_, ?_⟩
  · have : cs.toList.length = n := by simpa using hsz.trans hc
    rw [hl, List.length_map] at this; exact this
  · rw [← hl]

theorem list_n3 {α : Type} {l : List α} (h : l.length = 3) : ∃ a0 a1 a2, l = [a0, a1, a2] := by
  match l, h with
  | [a0, a1, a2], _ => exact ⟨_, _, _, rfl⟩
theorem agg_n3 {W : World} {r : Reach} {base : Nat} {v : Value} (hv : Value.okWide Try.prog W r base 26 v) : ∃ a0 a1 a2 : Int, v = .agg #[.int .i64 a0, .int .i64 a1, .int .i64 a2] := by
  obtain ⟨l, hl, rfl⟩ := agg_ints (n := 3) (by kernel_rfl) (by kernel_rfl) (by kernel_rfl) hv
  obtain ⟨a0, a1, a2, rfl⟩ := list_n3 hl
  exact ⟨_, _, _, rfl⟩


/-- the i-th number, the i-th bit with its context, of a slice of them -/
def IntAt (W : World) (po : Option Addr) (i : Nat) (z : Int) : Prop := ∃ b off, po = some ⟨b, off, none⟩ ∧ b < W.heap.size ∧ W.cell? ⟨b, off + i, none⟩ = some (.int .i64 z)
def BitAt (W : World) (po : Option Addr) (i : Nat) (x y : Int) : Prop := ∃ b off, po = some ⟨b, off, none⟩ ∧ b < W.heap.size ∧ W.cell? ⟨b, off + i * 2, none⟩ = some (.int .i64 x) ∧ W.cell? ⟨b, off + i * 2 + 1, none⟩ = some (.int .i64 y)
theorem opened_ints {H : Type} {enc : TypeId × Value → H} {W : World} {b0 : Nat} {r : Reach} {v : Value} {d : DataW H} {p : List MemPlace} (hv : Value.okWide Try.prog W r b0 46 v) (h : DataW.Trod enc Try.prog W 0 (fun _ => true) true 46 v d p) :
    ∃ (po : Option Addr) (n c : Nat) (zs : List Int), v = .slice po n c ∧ n ≤ 9223372036854775807 ∧
      (∀ i, i < n → IntAt W po i (zs.getD i 0)) := by
  obtain ⟨a0, len, cap, rfl⟩ := okWide_slice Try.underlying46 hv
  obtain ⟨fuel, hf⟩ := h
  rcases open_ints Try.underlying46 Try.underlying3 (by kernel_rfl) hf with ⟨hcs, _⟩ | ⟨a, len', cap', zs, hcs, _, hl, hm, hz, _, hcell, _⟩
  · simp [Value.cells] at hcs
    obtain ⟨rfl, rfl, rfl⟩ := hcs
    exact ⟨none, 0, 0, [], rfl, by omega, fun i hi => by omega⟩
  · simp [Value.cells] at hcs
    obtain ⟨rfl, rfl, rfl⟩ := hcs
    simp only [if_true] at hz
    refine ⟨some a, len, cap, zs, rfl, by unfold maxLen at hm; omega, fun i hi => ?_⟩
    obtain ⟨b, off, spot⟩ := a
    have hc := hcell i (by omega)
    have hspot : spot = none := by simpa [Addr.add] using World.cell?_spot (hcell 0 (by omega))
    subst hspot
    have hadd : (⟨b, off, none⟩ : Addr).add i = ⟨b, off + i, none⟩ := by unfold Addr.add; split <;> simp_all
    rw [hadd] at hc
    exact ⟨b, off, rfl, block_lt_of_cell hc, hc⟩
theorem add_at {b off i j : Nat} : ((⟨b, off, none⟩ : Addr).add i).add j = ⟨b, off + i + j, none⟩ := by
  unfold Addr.add; by_cases h : i = 0 <;> by_cases h2 : j = 0 <;> simp [h, h2]
theorem spot_of {w : World} {base n : Nat} {a : Addr} {cs : List Value} (hn : 0 < n) (h : w.cells? base (a.add (0 * n)) n = some cs) : a.spot = none := by
  have h0 := (World.cells?_some h).2.2 0 hn
  have hl := (World.cells?_some h).2.1
  rw [List.getElem?_eq_getElem (by omega)] at h0
  simpa [Addr.add] using World.cell?_spot h0
theorem trod_bit {H : Type} {enc : TypeId × Value → H} {w : World} {base : Nat} {sp : Nat → Bool} {held : Bool} {fuel : Nat} {cs : List Value} {x : DataW H × List MemPlace}
    (h : DataW.trod enc Try.prog w base sp held fuel 43 cs = some x) : ∃ a b : Int, cs = [.int .i64 a, .int .i64 b] := by
  obtain ⟨xs, n, rfl, rfl, hl, hx, hf⟩ := DataW.trod_struct Try.underlying43 h
  rw [show Try.prog.cellsOf 43 = 2 by kernel_rfl] at hl
  have hc1 : Try.prog.cellsOf 3 = 1 := by kernel_rfl
  have hx2 : xs.length = 2 := hx.trans rfl
  match cs, hl, xs, hx2 with
  | [u0, u1], _, [x0, x1], _ =>
    have f0 : DataW.trod enc Try.prog w base sp held n 3 (([u0, u1].drop 0).take (Try.prog.cellsOf 3)) = some x0 := hf 0 _ rfl
    have f1 : DataW.trod enc Try.prog w base sp held n 3 (([u0, u1].drop 1).take (Try.prog.cellsOf 3)) = some x1 := hf 1 _ rfl
    rw [hc1] at f0 f1
    obtain ⟨a, ha, _, _⟩ := DataW.trod_int Try.underlying3 f0
    obtain ⟨b, hb, _, _⟩ := DataW.trod_int Try.underlying3 f1
    simp at ha hb
    exact ⟨a, b, by rw [ha, hb]⟩
theorem opened_bits {H : Type} {enc : TypeId × Value → H} {W : World} {b0 : Nat} {r : Reach} {v : Value} {d : DataW H} {p : List MemPlace} (hv : Value.okWide Try.prog W r b0 36 v) (h : DataW.Trod enc Try.prog W 0 (fun _ => true) true 36 v d p) :
    ∃ (po : Option Addr) (n c : Nat) (f : Nat → Int × Int), v = .slice po n c ∧ n ≤ 9223372036854775807 ∧ ∀ i, i < n → BitAt W po i (f i).1 (f i).2 := by
  have h1 : ∃ (po : Option Addr) (n c : Nat), v = .slice po n c ∧ n ≤ 9223372036854775807 ∧ ∀ i, i < n → ∃ q : Int × Int, BitAt W po i q.1 q.2 := by
    obtain ⟨a0, len, cap, rfl⟩ := okWide_slice Try.underlying36 hv
    obtain ⟨fuel, hf⟩ := h
    rcases DataW.trod_slice Try.underlying36 hf with ⟨hcs, _⟩ | ⟨a, len', cap', elems, rest, n, _, hcs, _, hb, hl, hm, hlen, hel, _, _⟩
    · simp [Value.cells] at hcs
      obtain ⟨rfl, rfl, rfl⟩ := hcs
      exact ⟨none, 0, 0, rfl, by omega, fun i hi => by omega⟩
    · simp [Value.cells] at hcs
      obtain ⟨rfl, rfl, rfl⟩ := hcs
      refine ⟨some a, len, cap, rfl, by unfold maxLen at hm; omega, fun i hi => ?_⟩
      have hi2 := hel i hi
      rw [List.getElem?_eq_getElem (by omega), Option.bind_eq_some_iff] at hi2
      obtain ⟨cs, hcs, hx⟩ := hi2
      obtain ⟨x, y, rfl⟩ := trod_bit hx
      have hs := (World.cells?_some hcs).2.2
      rw [show Try.prog.cellsOf 43 = 2 by kernel_rfl] at hs hcs
      have h0 := hs 0 (by omega); have h1 := hs 1 (by omega)
      obtain ⟨bl, off, spot⟩ := a
      have hspot : spot = none := by
        have hz := hel 0 (by omega)
        rw [List.getElem?_eq_getElem (by omega), Option.bind_eq_some_iff] at hz
        obtain ⟨cz, hcz, _⟩ := hz
        exact spot_of (by rw [show Try.prog.cellsOf 43 = 2 by kernel_rfl]; omega) hcz
      subst hspot
      rw [add_at] at h0 h1
      exact ⟨(x, y), bl, off, rfl, block_lt_of_cell h0, h0, h1⟩
  obtain ⟨po, n, c, rfl, hn, hi⟩ := h1
  refine ⟨po, n, c, fun i => if h : i < n then Classical.choose (hi i h) else (0, 0), rfl, hn, fun i h => ?_⟩
  simp only [dif_pos h]
  exact Classical.choose_spec (hi i h)
theorem open_byte {W : World} {r : Reach} {base : Nat} {v : Value} (hv : Value.okWide Try.prog W r base 5 v) : ∃ a : UInt8, v = .int .u8 (a.toNat : Int) := by
  have h : ∃ a : Int, v = .int .u8 a ∧ 0 ≤ a ∧ a ≤ 255 := by
    unfold Value.okWide Cell.okWide Cell.ok at hv
    rw [Try.underlying5] at hv
    cases v <;> simp at hv
    obtain ⟨rfl, h0, h1⟩ := hv
    exact ⟨_, rfl, Int.le_trans (show (0 : Int) ≤ IntKind.u8.min by decide) h0, Int.le_trans h1 (show IntKind.u8.max ≤ 255 by decide)⟩
  obtain ⟨a, rfl, h0, h1⟩ := h
  exact ⟨UInt8.ofNat a.toNat, by rw [UInt8.toNat_ofNat']; congr 1; omega⟩
/-- the first k bits with their contexts -/
def ops (f : Nat → Int × Int) (k : Nat) : List (Nat × Nat) := (List.range k).map fun i => (ctx (f i).1, bitn (f i).2)
theorem ops_succ (f : Nat → Int × Int) (k : Nat) : ops f (k + 1) = ops f k ++ [(ctx (f k).1, bitn (f k).2)] := by unfold ops; rw [List.range_succ, List.map_append]; rfl
theorem ops_len (f : Nat → Int × Int) (k : Nat) : (ops f k).length = k := by unfold ops; simp
theorem ops_le (f : Nat → Int × Int) (k : Nat) : ∀ x ∈ ops f k, x.2 ≤ 1 := by
  intro x hx
  obtain ⟨i, _, rfl⟩ := List.mem_map.1 hx
  exact bitn_lt _
end Go.Proofs.Ytbfnahclkajahaa.C
