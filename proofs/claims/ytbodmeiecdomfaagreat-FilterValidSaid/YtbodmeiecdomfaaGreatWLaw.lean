/-
  From a law's walk to its row: what the law returns is 'true', and nothing that was there before has changed; the laws' arguments, among them a filter.
-/
import Derived.Test.YtbodmeiecdomfaaGreatWSane
import Derived.Test.YtbodmeiecdomfaaGreatInv
import Derived.Test.YtbodmeiecdomfaaGreatSame
import Derived.WalkKit
import Derived.ProofKit
import Derived.OpenShut
import Derived.SizedLaws
import Derived.JoinedCond
import Derived.Lib.Hide
import Derived.ChangeSlices
import Derived.Lib.LaidTab
namespace Go.Proofs.YtbodmeiecdomfaaGreat.W
open Go.ChangeShapes Go.WideShapes Go.ChangeAt Go.RowKit
set_option maxRecDepth 100000

theorem own : ownKnob Tryz.prog.godebug = none := by kernel_rfl
theorem laidOut : laidOutB Tryz.prog = true := by kernel_rfl

set_option maxRecDepth 100000 in
theorem trodAll_below {H : Type} {enc : TypeId × Value → H} {W W' : World} (hb : Below W.heap.size W W') : ∀ (ts : List TypeId) (vs : List Value) (ds : List (DataW H)) (ps : List MemPlace),
    (∀ t ∈ ts, Tryz.prog.readableRec t = true ∧ t < Tryz.prog.types.size) → DataW.TrodAll enc Tryz.prog W 0 (fun _ => true) true ts vs ds ps → (∀ x ∈ ps, x.block < W.heap.size) →
    DataW.TrodAll enc Tryz.prog W' 0 (fun b => decide (b < W.heap.size)) true ts vs ds ps
  | [], vs, ds, ps, _, h, _ => by
    obtain ⟨rfl, rfl, rfl⟩ := trodAll_nil h
    exact trodAll_mk0
  | t :: ts, vs, ds, ps, hr, h, hp => by
    obtain ⟨v, vs', d, ds', p, q, rfl, rfl, rfl, h0, h1⟩ := trodAll_cons h
    have ht := hr t (by simp)
    exact trodAll_cons_mk (Below.trod laidOut ht.1 ht.2 h0 hb (fun x hx => hp x (by simp [hx]))) (trodAll_below hb ts vs' ds' q (fun t h => hr t (by simp [h])) h1 (fun x hx => hp x (by simp [hx])))

set_option maxRecDepth 100000 in
theorem law_post {H : Type} {enc : TypeId × Value → H} {f : Func} {s : ChangeSpec} {W W' : World} {args : Array Value} {ds gs : List (DataW H)} {before : List MemPlace}
    (hW : DataW.Whole enc Tryz.prog f.params.toList s.vars false W args.toList ds gs before) (hv : s.vars = []) (hres : f.resultTypes = #[4])
    (hspec : s.fn H (ds ++ gs) = { results := [.lit (.bool true)], args := ds }) (hr : ∀ t ∈ f.params.toList, Tryz.prog.readableRec t = true ∧ t < Tryz.prog.types.size) (hb : Below W.heap.size W W') :
    s.post enc Tryz.prog f false true false false W args (.bool true) W' := by
  have hW' := hW
  obtain ⟨p, q, hA, hV, rfl, hfz, hnd⟩ := hW
  rw [hv] at hV
  obtain ⟨rfl, rfl⟩ := trodVars_none hV
  refine ⟨ds, [], p ++ [], [], p, [], by simpa using hW', ?_, ?_, ?_, hb.frame _, fun h => by cases h⟩
  · rw [hspec, hres]; exact trodAll_mk1 (shut_bool Tryz.underlying4 _)
  · rw [hspec]; exact trodAll_below hb _ _ _ _ hr hA (fun x hx => by simpa using hW'.lt x (by simp [hx]))
  · rw [hspec, hv]; rfl

/-- an argument that is a slice of ints -/
theorem shape_lt {W : World} {b : Nat} {x : TypeId × Nat} (h : W.shape? b = some x) : b < W.heap.size := by
  unfold World.shape? at h
  cases hb : W.heap[b]? with
  | none => rw [hb] at h; simp at h
  | some o => exact (Array.getElem?_eq_some_iff.1 hb).1
set_option maxRecDepth 100000 in
theorem ca_of {H : Type} {enc : TypeId × Value → H} {W : World} {r : Reach} {b0 fuel : Nat} {v : Value} {x : DataW H × List MemPlace} (t : TypeId) (ht : Tryz.prog.underlying t = some (.slice 3))
    (hk : Cell.ok Tryz.prog W r b0 t v) (hf : DataW.trod enc Tryz.prog W 0 (fun _ => true) true fuel t [v] = some x) : ∃ c, Ca W v c := by
  have hci : Tryz.prog.cellsOf 3 = 1 := by kernel_rfl
  rcases open_ints ht Tryz.underlying3 hci hf with ⟨hcs, _⟩ | ⟨a, len, cap, zs, hcs, _, hl, hm, hz, _, hc, _⟩
  · simp at hcs
    exact ⟨[], .inl ⟨hcs, rfl⟩⟩
  · simp at hcs
    subst hcs
    unfold Cell.ok at hk
    rw [ht] at hk
    simp only at hk
    obtain ⟨_, _, _, hspot, row, cells, hsh, _⟩ := hk
    rw [if_pos rfl] at hz
    obtain ⟨bl, off, spot⟩ := a
    simp at hspot
    subst hspot
    have hlen : (zs.take len).length = len := by rw [List.length_take]; omega
    refine ⟨zs.take len, .inr ⟨bl, off, cap, by rw [hlen], by omega, by unfold maxLen at hm; omega, shape_lt hsh, fun i hi => ?_⟩⟩
    have h := hc i (by omega)
    have hadd : (⟨bl, off, none⟩ : Addr).add i = ⟨bl, off + i, none⟩ := by unfold Addr.add; split <;> simp_all
    rw [hadd] at h
    rw [h, cg_take (by omega)]
set_option maxRecDepth 100000 in
theorem open_ca {H : Type} {enc : TypeId × Value → H} {W : World} {r : Reach} {b0 : Nat} {v : Value} {d : DataW H} {p : List MemPlace} (t : TypeId) (ht : Tryz.prog.underlying t = some (.slice 3))
    (hv : Value.okWide Tryz.prog W r b0 t v) (h : DataW.Trod enc Tryz.prog W 0 (fun _ => true) true t v d p) : ∃ c, Ca W v c := by
  have hv0 := hv
  unfold Value.okWide Cell.okWide at hv
  rw [ht] at hv
  simp only at hv
  obtain ⟨fuel, hf⟩ := h
  obtain ⟨a0, len, cap, rfl⟩ := okWide_slice ht hv0
  exact ca_of t ht hv hf
theorem ex_cv (c : List Int) : ∃ r : Bool, (r = true ↔ Cv c) := by
  by_cases h : Cv c
  · exact ⟨true, by simp [h]⟩
  · exact ⟨false, by simp [h]⟩
theorem and16 (n : Int) : ∃ m : Nat, bits .and .i64 n 65535 = (m : Int) ∧ m ≤ 65535 := ⟨(n % 65536).toNat, by have := i64_mask 16 (by omega) n; simp at this; rw [this]; omega, by omega⟩
theorem and17 (n : Int) : ∃ m : Nat, bits .and .i64 n 131071 = (m : Int) ∧ m ≤ 131071 := ⟨(n % 131072).toNat, by have := i64_mask 17 (by omega) n; simp at this; rw [this]; omega, by omega⟩
theorem and2 (n : Int) : ∃ m : Nat, bits .and .i64 n 3 = (m : Int) ∧ m ≤ 3 := ⟨(n % 4).toNat, by have := i64_mask 2 (by omega) n; simp at this; rw [this]; omega, by omega⟩
theorem and3 (n : Int) : ∃ m : Nat, bits .and .i64 n 7 = (m : Int) ∧ m ≤ 7 := ⟨(n % 8).toNat, by have := i64_mask 3 (by omega) n; simp at this; rw [this]; omega, by omega⟩
/-- an argument that is an array or a struct of ints -/
theorem agg_ints {W : World} {r : Reach} {base n : Nat} {t : TypeId} {v : Value} (ht : (match Tryz.prog.underlying t with | some (.struct _) => true | some (.array _ _) => true | _ => false) = true) (hc : Tryz.prog.cellsOf t = n)
    (hts : Tryz.prog.cellTypes Tryz.prog.depth t = some (List.replicate n 3)) (hv : Value.okWide Tryz.prog W r base t v) : ∃ l : List Int, l.length = n ∧ v = .agg (l.map (Value.int .i64)).toArray := by
  have h : ∃ cs, v = .agg cs ∧ cs.size = Tryz.prog.cellsOf t ∧ Row.okWide Tryz.prog W r base t cs := by
    unfold Value.okWide at hv
    cases hu : Tryz.prog.underlying t with
    | none => rw [hu] at ht; cases ht
    | some d => rw [hu] at ht hv; cases d <;> first | exact hv | cases ht
  obtain ⟨cs, rfl, hsz, ts, hts', _, hcell⟩ := h
  rw [hts] at hts'
  cases hts'
  have hall : ∀ x ∈ cs.toList, ∃ a, x = Value.int .i64 a := by
    intro x hx
    obtain ⟨i, hi⟩ := List.mem_iff_getElem?.1 hx
    obtain ⟨u, hu, hk⟩ := hcell i x (by simpa using hi)
    have : u = 3 := List.eq_of_mem_replicate (List.mem_of_getElem? hu)
    subst this
    unfold Cell.okWide Cell.ok at hk
    rw [Tryz.underlying3] at hk
    cases x <;> simp at hk
    exact ⟨_, by rw [hk.1]⟩
  have key : ∀ L : List Value, (∀ x ∈ L, ∃ a, x = Value.int .i64 a) → ∃ l : List Int, L = l.map (Value.int .i64) := by
    intro L
    induction L with
    | nil => exact fun _ => ⟨[], rfl⟩
    | cons x L ih =>
      intro hL
      obtain ⟨a, rfl⟩ := hL x (by simp)
      obtain ⟨l, rfl⟩ := ih (fun y hy => hL y (by simp [hy]))
      exact ⟨a :: l, rfl⟩
  obtain ⟨l, hl⟩ := key _ hall
  refine ⟨l, ?_, ?_⟩
  · have : cs.toList.length = n := by simpa using hsz.trans hc
    rw [hl, List.length_map] at this; exact this
  · rw [← hl]

theorem list_n6 {α : Type} {l : List α} (h : l.length = 6) : ∃ a0 a1 a2 a3 a4 a5, l = [a0, a1, a2, a3, a4, a5] := by
  match l, h with
  | [a0, a1, a2, a3, a4, a5], _ => exact ⟨_, _, _, _, _, _, rfl⟩
theorem cell_int {W : World} {r : Reach} {b0 : Nat} {v : Value} (h : Cell.okWide Tryz.prog W r b0 3 v) : ∃ n, v = .int .i64 n ∧ I64 n := by
  unfold Cell.okWide Cell.ok at h
  rw [Tryz.underlying3] at h
  cases v <;> simp at h
  obtain ⟨rfl, h2⟩ := h
  unfold IntKind.has at h2
  rw [show IntKind.i64.min = -9223372036854775808 by kernel_rfl, show IntKind.i64.max = 9223372036854775807 by kernel_rfl] at h2
  exact ⟨_, rfl, h2⟩
theorem list_n4 {α : Type} {l : List α} (h : l.length = 4) : ∃ a0 a1 a2 a3, l = [a0, a1, a2, a3] := by
  match l, h with
  | [a0, a1, a2, a3], _ => exact ⟨_, _, _, _, rfl⟩
/-- an argument that is a rectangle, with its bounds -/
theorem open_rect {W : World} {r : Reach} {b0 : Nat} {v : Value} (hv : Value.okWide Tryz.prog W r b0 34 v) : ∃ q0 q1 q2 q3 : Int, v = R.rv q0 q1 q2 q3 ∧ (I64 q0 ∧ I64 q1 ∧ I64 q2 ∧ I64 q3) := by
  unfold Value.okWide at hv
  rw [Tryz.underlying34] at hv
  obtain ⟨cs, rfl, hsz, ts, hts', _, hcell⟩ := hv
  rw [show Tryz.prog.cellTypes Tryz.prog.depth 34 = some [3, 3, 3, 3] by kernel_rfl] at hts'
  cases hts'
  obtain ⟨u0, u1, u2, u3, hl⟩ := list_n4 (l := cs.toList) (by simpa using hsz.trans (show Tryz.prog.cellsOf 34 = 4 by kernel_rfl))
  have hcs : cs = #[u0, u1, u2, u3] := by rw [show cs = cs.toList.toArray by simp, hl]
  subst hcs
  have hc : ∀ (i : Nat) x, (#[u0, u1, u2, u3] : Array Value)[i]? = some x → ([3, 3, 3, 3] : List TypeId)[i]? = some 3 → Cell.okWide Tryz.prog W r b0 3 x := by
    intro i x hx hu
    obtain ⟨u', hu', hk⟩ := hcell i x hx
    have hi := (Array.getElem?_eq_some_iff.1 hx).1
    rw [Nat.mod_eq_of_lt (by simpa using hi), hu] at hu'
    cases hu'
    exact hk
  obtain ⟨q0, rfl, h0⟩ := cell_int (hc 0 _ rfl rfl)
  obtain ⟨q1, rfl, h1⟩ := cell_int (hc 1 _ rfl rfl)
  obtain ⟨q2, rfl, h2⟩ := cell_int (hc 2 _ rfl rfl)
  obtain ⟨q3, rfl, h3⟩ := cell_int (hc 3 _ rfl rfl)
  exact ⟨q0, q1, q2, q3, rfl, h0, h1, h2, h3⟩
/-- an argument that is a filter -/
theorem open_filter {H : Type} {enc : TypeId × Value → H} {W : World} {r : Reach} {b0 : Nat} {v : Value} {d : DataW H} {p : List MemPlace}
    (hv : Value.okWide Tryz.prog W r b0 25 v) (h : DataW.Trod enc Tryz.prog W 0 (fun _ => true) true 25 v d p) :
    ∃ (k ra d' va : Int) (K C : Value) (ks cs : List Int), v = fv k ra K d' va C ∧ Ca W K ks ∧ Ca W C cs := by
  unfold Value.okWide at hv
  rw [Tryz.underlying25] at hv
  obtain ⟨cs, rfl, hsz, ts, hts', _, hcell⟩ := hv
  rw [show Tryz.prog.cellTypes Tryz.prog.depth 25 = some [3, 3, 22, 3, 3, 23] by kernel_rfl] at hts'
  cases hts'
  obtain ⟨u0, u1, u2, u3, u4, u5, hl⟩ := list_n6 (l := cs.toList) (by simpa using hsz.trans (show Tryz.prog.cellsOf 25 = 6 by kernel_rfl))
  have hcs : cs = #[u0, u1, u2, u3, u4, u5] := by rw [show cs = cs.toList.toArray by simp, hl]
  subst hcs
  have hc : ∀ (i : Nat) (u : TypeId) x, (#[u0, u1, u2, u3, u4, u5] : Array Value)[i]? = some x → ([3, 3, 22, 3, 3, 23] : List TypeId)[i]? = some u → Cell.okWide Tryz.prog W r b0 u x := by
    intro i u x hx hu
    obtain ⟨u', hu', hk⟩ := hcell i x hx
    have hi := (Array.getElem?_eq_some_iff.1 hx).1
    rw [Nat.mod_eq_of_lt (by simpa using hi), hu] at hu'
    cases hu'
    exact hk
  obtain ⟨k, rfl, _⟩ := cell_int (hc 0 _ _ rfl rfl)
  obtain ⟨ra, rfl, _⟩ := cell_int (hc 1 _ _ rfl rfl)
  obtain ⟨d', rfl, _⟩ := cell_int (hc 3 _ _ rfl rfl)
  obtain ⟨va, rfl, _⟩ := cell_int (hc 4 _ _ rfl rfl)
  have k2 : Cell.ok Tryz.prog W r b0 22 u2 := by
    have := hc 2 _ _ rfl rfl
    unfold Cell.okWide at this
    rw [Tryz.underlying22] at this
    simpa using this
  have k5 : Cell.ok Tryz.prog W r b0 23 u5 := by
    have := hc 5 _ _ rfl rfl
    unfold Cell.okWide at this
    rw [Tryz.underlying23] at this
    simpa using this
  obtain ⟨fuel, hf⟩ := h
  obtain ⟨xs, n, _, _, _, hx, he⟩ := DataW.trod_struct Tryz.underlying25 hf
  obtain ⟨x0, x1, x2, x3, x4, x5, rfl⟩ := list_n6 hx
  have h1 : Tryz.prog.cellsOf 22 = 1 := by kernel_rfl
  have h2 : Tryz.prog.cellsOf 23 = 1 := by kernel_rfl
  have e2 : DataW.trod enc Tryz.prog W 0 (fun _ => true) true n 22 (List.take (Tryz.prog.cellsOf 22) [u2, .int .i64 d', .int .i64 va, u5]) = some x2 := he 2 _ rfl
  have e5 : DataW.trod enc Tryz.prog W 0 (fun _ => true) true n 23 (List.take (Tryz.prog.cellsOf 23) [u5]) = some x5 := he 5 _ rfl
  rw [h1] at e2
  rw [h2] at e5
  obtain ⟨c0, hc0⟩ := ca_of 22 Tryz.underlying22 k2 e2
  obtain ⟨c1, hc1⟩ := ca_of 23 Tryz.underlying23 k5 e5
  exact ⟨k, ra, d', va, u2, u5, c0, c1, rfl, hc0, hc1⟩
end Go.Proofs.YtbodmeiecdomfaaGreat.W
