/-
  From a law's walk to its row: what the law returns is 'true', and nothing that was there before has changed.
-/
import Derived.Test.YtgdcjpnmalnmbaaSane
import Derived.WalkKit
import Derived.ProofKit
import Derived.OpenShut
import Derived.SizedLaws
import Derived.JoinedCond
import Derived.Lib.Hide
import Derived.ChangeSlices
import Derived.Lib.LaidTab
namespace Go.Proofs.Ytgdcjpnmalnmbaa
open Go.ChangeShapes Go.WideShapes Go.ChangeAt Go.RowKit

theorem own : ownKnob Try.prog.godebug = none := by kernel_rfl
theorem laidOut : laidOutB Try.prog = true := by kernel_rfl

set_option maxRecDepth 100000 in
theorem trodAll_below {H : Type} {enc : TypeId × Value → H} {W W' : World} (hb : Below W.heap.size W W') : ∀ (ts : List TypeId) (vs : List Value) (ds : List (DataW H)) (ps : List MemPlace),
    (∀ t ∈ ts, Try.prog.readableRec t = true ∧ t < Try.prog.types.size) → DataW.TrodAll enc Try.prog W 0 (fun _ => true) true ts vs ds ps → (∀ x ∈ ps, x.block < W.heap.size) →
    DataW.TrodAll enc Try.prog W' 0 (fun b => decide (b < W.heap.size)) true ts vs ds ps
  | [], vs, ds, ps, _, h, _ => by
    obtain ⟨rfl, rfl, rfl⟩ := trodAll_nil h
    exact trodAll_mk0
  | t :: ts, vs, ds, ps, hr, h, hp => by
    obtain ⟨v, vs', d, ds', p, q, rfl, rfl, rfl, h0, h1⟩ := trodAll_cons h
    have ht := hr t (by simp)
    exact trodAll_cons_mk (Below.trod laidOut ht.1 ht.2 h0 hb (fun x hx => hp x (by simp [hx]))) (trodAll_below hb ts vs' ds' q (fun t h => hr t (by simp [h])) h1 (fun x hx => hp x (by simp [hx])))

set_option maxRecDepth 100000 in
theorem law_post {H : Type} {enc : TypeId × Value → H} {f : Func} {s : ChangeSpec} {W W' : World} {args : Array Value} {ds gs : List (DataW H)} {before : List MemPlace}
    (hW : DataW.Whole enc Try.prog f.params.toList s.vars false W args.toList ds gs before) (hv : s.vars = []) (hres : f.resultTypes = #[4])
    (hspec : s.fn H (ds ++ gs) = { results := [.lit (.bool true)], args := ds }) (hr : ∀ t ∈ f.params.toList, Try.prog.readableRec t = true ∧ t < Try.prog.types.size) (hb : Below W.heap.size W W') :
    s.post enc Try.prog f false true false false W args (.bool true) W' := by
  have hW' := hW
  obtain ⟨p, q, hA, hV, rfl, hfz, hnd⟩ := hW
  rw [hv] at hV
  obtain ⟨rfl, rfl⟩ := trodVars_none hV
  refine ⟨ds, [], p ++ [], [], p, [], by simpa using hW', ?_, ?_, ?_, hb.frame _, fun h => by cases h⟩
  · rw [hspec, hres]; exact trodAll_mk1 (shut_bool Try.underlying4 _)
  · rw [hspec]; exact trodAll_below hb _ _ _ _ hr hA (fun x hx => by simpa using hW'.lt x (by simp [hx]))
  · rw [hspec, hv]; rfl

/-- an argument that is a slice of ints -/
theorem shape_lt {W : World} {b : Nat} {x : TypeId × Nat} (h : W.shape? b = some x) : b < W.heap.size := by
  unfold World.shape? at h
  cases hb : W.heap[b]? with
  | none => rw [hb] at h; simp at h
  | some o => exact (Array.getElem?_eq_some_iff.1 hb).1
set_option maxRecDepth 100000 in
theorem ca_of {H : Type} {enc : TypeId × Value → H} {W : World} {r : Reach} {b0 fuel : Nat} {v : Value} {x : DataW H × List MemPlace} (t : TypeId) (ht : Try.prog.underlying t = some (.slice 3))
    (hk : Cell.ok Try.prog W r b0 t v) (hf : DataW.trod enc Try.prog W 0 (fun _ => true) true fuel t [v] = some x) : ∃ c, Ca W v c := by
  have hci : Try.prog.cellsOf 3 = 1 := by kernel_rfl
  rcases open_ints ht Try.underlying3 hci hf with ⟨hcs, _⟩ | ⟨a, len, cap, zs, hcs, _, hl, hm, hz, _, hc, _⟩
  · simp at hcs
    exact ⟨[], .inl ⟨hcs, rfl⟩⟩
  · simp at hcs
    subst hcs
    unfold Cell.ok at hk
    rw [ht] at hk
    simp only at hk
    obtain ⟨_, _, _, hspot, row, cells, hsh, _⟩ := hk
    rw [if_pos rfl] at hz
    obtain ⟨bl, off, spot⟩ := a
    simp at hspot
    subst hspot
    have hlen : (zs.take len).length = len := by rw [List.length_take]; omega
    refine ⟨zs.take len, .inr ⟨bl, off, cap, by rw [hlen], by omega, by unfold maxLen at hm; omega, shape_lt hsh, fun i hi => ?_⟩⟩
    have h := hc i (by omega)
    have hadd : (⟨bl, off, none⟩ : Addr).add i = ⟨bl, off + i, none⟩ := by unfold Addr.add; split <;> simp_all
    rw [hadd] at h
    rw [h, cg_take (by omega)]
set_option maxRecDepth 100000 in
theorem open_ca {H : Type} {enc : TypeId × Value → H} {W : World} {r : Reach} {b0 : Nat} {v : Value} {d : DataW H} {p : List MemPlace} (t : TypeId) (ht : Try.prog.underlying t = some (.slice 3))
    (hv : Value.okWide Try.prog W r b0 t v) (h : DataW.Trod enc Try.prog W 0 (fun _ => true) true t v d p) : ∃ c, Ca W v c := by
  have hv0 := hv
  unfold Value.okWide Cell.okWide at hv
  rw [ht] at hv
  simp only at hv
  obtain ⟨fuel, hf⟩ := h
  obtain ⟨a0, len, cap, rfl⟩ := okWide_slice ht hv0
  exact ca_of t ht hv hf
theorem ex_cv (c : List Int) : ∃ r : Bool, (r = true ↔ Cv c) := by
  by_cases h : Cv c
  · exact ⟨true, by simp [h]⟩
  · exact ⟨false, by simp [h]⟩
theorem and16 (n : Int) : ∃ m : Nat, bits .and .i64 n 65535 = (m : Int) ∧ m ≤ 65535 := ⟨(n % 65536).toNat, by have := i64_mask 16 (by omega) n; simp at this; rw [this]; omega, by omega⟩
theorem and17 (n : Int) : ∃ m : Nat, bits .and .i64 n 131071 = (m : Int) ∧ m ≤ 131071 := ⟨(n % 131072).toNat, by have := i64_mask 17 (by omega) n; simp at this; rw [this]; omega, by omega⟩
theorem and2 (n : Int) : ∃ m : Nat, bits .and .i64 n 3 = (m : Int) ∧ m ≤ 3 := ⟨(n % 4).toNat, by have := i64_mask 2 (by omega) n; simp at this; rw [this]; omega, by omega⟩
theorem and3 (n : Int) : ∃ m : Nat, bits .and .i64 n 7 = (m : Int) ∧ m ≤ 7 := ⟨(n % 8).toNat, by have := i64_mask 3 (by omega) n; simp at this; rw [this]; omega, by omega⟩
theorem cell_at0 (x y : Value) : (#[x, y] : Array Value)[0]? = some x := rfl
theorem cell_at1 (x y : Value) : (#[x, y] : Array Value)[1]? = some y := rfl
theorem cm_put {W V : World} {v : Value} {c : List Int} {b : Nat} {L : List (Nat × Obj)} {po : Option Addr} {n cap : Nat} {x : Value} {t : TypeId} (hc : Cm V v c) (hl : c.length = 0 ∨ 2 ≤ c.length) (hs : St W L V)
    (hm : (b, .cells #[.slice po n cap, x] t) ∈ L) (y z : Value) : Cm ((V.setCell ⟨b, 0, none⟩ y).setCell ⟨b, 1, none⟩ z) v c := by
  obtain ⟨qo, cap', rfl, h1, h2, h3⟩ := hc
  refine ⟨qo, cap', rfl, h1, h2, fun hp => ?_⟩
  obtain ⟨g, off, rfl, hr⟩ := h3 hp
  have hne : g ≠ b := by
    intro he
    subst he
    have r0 := hr.at' 0 (by omega)
    have r1 := hr.at' 1 (by omega)
    rw [hs.cell hm] at r0 r1
    match off, r0, r1 with
    | 0, r0, _ => simp at r0
    | 1, _, r1 => simp at r1
    | k + 2, r0, _ => simp at r0
  refine ⟨g, off, rfl, ?_, fun i hi => ?_⟩
  · have hx : ∀ (V : World) (p : Addr) (x : Value), (V.setCell p x).heap.size = V.heap.size := fun V p x => by unfold World.setCell; simp
    rw [hx, hx]; exact hr.lt
  · have h := hr.at' i hi
    unfold World.cell? at h ⊢
    simp only at h ⊢
    rw [Below.heap_setCell _ _ _ _ hne, Below.heap_setCell _ _ _ _ hne]
    exact h
theorem rem256 (m : Nat) : ∃ k : Nat, 2 + (m : Int) % 256 = (k : Int) ∧ 2 ≤ k ∧ k ≤ 257 := ⟨2 + m % 256, by omega, by omega, by omega⟩
theorem rem40 (m : Nat) : ∃ k : Nat, 2 + (m : Int) % 40 = (k : Int) ∧ 2 ≤ k ∧ k ≤ 41 := ⟨2 + m % 40, by omega, by omega, by omega⟩
theorem at_is (c : List Int) (v : Value) (r : Bool) (x z : Int) (w : World) (hc : Cm w v c) (hr : r = true ↔ Cv c) (hz : atv r c x = z) :
    Calls Try.prog 13 #[v, .int .i64 x] w fun e w' => e = .returned (.int .i64 z) ∧ Below w.heap.size w w' := hz ▸ at_any c v r x w hc hr
theorem at_val {c : List Int} {x : Nat} (hx : x ≤ 65535) : atv true c x = val c x := by unfold atv; rw [if_pos rfl, clp_nat hx]
theorem lineL_lin {k : Nat} (h2 : 2 ≤ k) (h3 : k ≤ 257) : lineL k = lin k := by unfold lineL; rw [if_pos ((vc_iff _).2 (by omega))]; rfl
theorem line_is (k : Nat) (w : World) (h2 : 2 ≤ k) (h3 : k ≤ 257) : Calls Try.prog 12 #[.int .i64 k] w (GotC (lin k) w) := lineL_lin h2 h3 ▸ line_any k w
theorem list_two {α : Type} {l : List α} (h : l.length = 2) : ∃ a0 a1, l = [a0, a1] := by
  match l, h with
  | [a0, a1], _ => exact ⟨_, _, rfl⟩
set_option maxRecDepth 100000 in
theorem open_ca2 {H : Type} {enc : TypeId × Value → H} {W : World} {r : Reach} {b0 : Nat} {v : Value} {d : DataW H} {p : List MemPlace} (t s : TypeId) (ht : Try.prog.underlying t = some (.array 2 s)) (hs : Try.prog.underlying s = some (.slice 3))
    (hn : Try.prog.cellsOf t = 2) (h1 : Try.prog.cellsOf s = 1) (hts : Try.prog.cellTypes Try.prog.depth t = some [s, s])
    (hv : Value.okWide Try.prog W r b0 t v) (h : DataW.Trod enc Try.prog W 0 (fun _ => true) true t v d p) : ∃ u0 u1 c0 c1, v = .agg #[u0, u1] ∧ Ca W u0 c0 ∧ Ca W u1 c1 := by
  unfold Value.okWide at hv
  rw [ht] at hv
  obtain ⟨cs, rfl, hsz, ts, hts', _, hcell⟩ := hv
  rw [hts] at hts'
  cases hts'
  obtain ⟨u0, u1, hl⟩ := list_two (l := cs.toList) (by simpa using hsz.trans hn)
  have hcs : cs = #[u0, u1] := by rw [show cs = cs.toList.toArray by simp, hl]
  subst hcs
  have k0 : Cell.ok Try.prog W r b0 s u0 := by
    obtain ⟨u, hu, hk⟩ := hcell 0 u0 rfl
    simp at hu
    subst hu
    unfold Cell.okWide at hk
    rw [hs] at hk
    simpa using hk
  have k1 : Cell.ok Try.prog W r b0 s u1 := by
    obtain ⟨u, hu, hk⟩ := hcell 1 u1 rfl
    simp at hu
    subst hu
    unfold Cell.okWide at hk
    rw [hs] at hk
    simpa using hk
  obtain ⟨fuel, hf⟩ := h
  obtain ⟨xs, n, rfl, _, _, hx, he⟩ := DataW.trod_array ht hf
  obtain ⟨x0, x1, rfl⟩ := list_two hx
  have e0 := he 0 (by omega)
  have e1 := he 1 (by omega)
  rw [h1] at e0 e1
  simp [Value.cells] at e0 e1
  obtain ⟨c0, hc0⟩ := ca_of s hs k0 e0
  obtain ⟨c1, hc1⟩ := ca_of s hs k1 e1
  exact ⟨u0, u1, c0, c1, rfl, hc0, hc1⟩
end Go.Proofs.Ytgdcjpnmalnmbaa
