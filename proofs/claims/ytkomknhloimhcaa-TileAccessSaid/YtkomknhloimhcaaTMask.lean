/-
  The closures of Mask and Over.
-/
import Derived.Test.YtkomknhloimhcaaTClo
import Derived.Test.YtkomknhloimhcaaOver
namespace Go.Proofs.Ytkomknhloimhcaa.T
open Go.RowKit Go.Shelf
variable {W w w' : World} {L : List (Nat × Obj)}

end Go.Proofs.Ytkomknhloimhcaa.T
namespace Go.Proofs.Ytkomknhloimhcaa
open Go.RowKit T
variable {W w w' : World} {L : List (Nat × Obj)}
/-- the cells of the pixel number i of the tile in block b -/
abbrev Q4 (V : World) (b i : Nat) (p : Px) : Prop :=
  V.cell? ⟨b, 4 * i, none⟩ = some (.int .u8 p.r) ∧ V.cell? ⟨b, 4 * i + 1, none⟩ = some (.int .u8 p.g) ∧ V.cell? ⟨b, 4 * i + 2, none⟩ = some (.int .u8 p.b) ∧ V.cell? ⟨b, 4 * i + 3, none⟩ = some (.int .u8 p.a)
theorem St.q4 (h : St W L w) {b : Nat} {f : Nat → Px} (hm : (b, tob f) ∈ L) (i : Nat) (hi : i < 64) : Q4 w b i (f i) :=
  ⟨range_px (h.row hm) hi 0 _ rfl, range_px (h.row hm) hi 1 _ rfl, range_px (h.row hm) hi 2 _ rfl, range_px (h.row hm) hi 3 _ rfl⟩
theorem St.more (h : St W L w) {b : Nat} {o : Obj} (hb : w.heap[b]? = some o) : St W ((b, o) :: L) w := ⟨h.below, fun x hx => by
  rcases List.mem_cons.1 hx with rfl | hx
  · exact hb
  · exact h.rows x hx⟩
end Go.Proofs.Ytkomknhloimhcaa
namespace Go.Proofs.Ytkomknhloimhcaa.T
open Go.RowKit Go.Shelf
set_option maxRecDepth 100000 in
set_option maxHeartbeats 4000000 in
theorem mask1 (f g : Nat → Px) (b c i : Nat) (V : World) (hi : i < 64) (h : V.heap[b]? = some (tob f)) (h2 : V.heap[c]? = some (tob g)) (hf : Pc (f i)) (hg : Pc (g i)) :
    Calls Try.prog 48 (#[.int .i64 i, ptv i] ++ #[ptrB b, ptrB c]) V fun e w' => e = .returned (fad (f i) (g i).a).v ∧ Below V.heap.size V w' := by
  have key : Calls Try.prog 48 #[.int .i64 i, ptv i, ptrB b, ptrB c] V fun e w' => e = .returned (fad (f i) (g i).a).v ∧ Below V.heap.size V w' := by
    have hix := index_px b i hi
    have hiy := index_px c i hi
    have hga : IntKind.i64.wrap (g i).a = (g i).a := w64 hg.2.2.2
    have hs := ((((St.start V).more h).more h2).alloc (pto i)).alloc (po 0 0 0 0)
    rw [World.size_alloc] at hs
    have hs := hs.sub (L' := [(V.heap.size + 1, po 0 0 0 0), (c, tob g), (b, tob f)]) (by simp)
    have hlb : b < V.heap.size := (Array.getElem?_eq_some_iff.1 h).1
    have hlc : c < V.heap.size := (Array.getElem?_eq_some_iff.1 h2).1
    have HL : Hid (∀ V3, St V [(V.heap.size + 1, po 0 0 0 0), (c, tob g), (b, tob f)] V3 → St V [(c, tob g), (b, tob f)] V3) := fun V3 h => h.sub (by intro x hx; simp at hx ⊢; simp [hx])
    have HT : Hid (∀ V3 j v, St V [(c, tob g), (b, tob f)] V3 → St V [(c, tob g), (b, tob f)] (V3.setCell ⟨V.heap.size + 1, j, none⟩ v)) := fun V3 j v h => h.set (by omega) (by simp; omega)
    have HS : Hid (∀ V3, St V [(c, tob g), (b, tob f)] V3 → St V [(c, tob g), (b, tob f)] V3 ∧ Q4 V3 b i (f i) ∧ Q4 V3 c i (g i)) := fun V3 h => ⟨h, h.q4 (by simp) i hi, h.q4 (by simp) i hi⟩
    have HF : Hid (∀ V3, St V [(V.heap.size + 1, po 0 0 0 0), (c, tob g), (b, tob f)] V3 → RB V3 (V.heap.size + 1) 0 0 0 0 ∧ ∀ j, V3.frozen? ⟨V.heap.size + 1, j, none⟩ = false) := fun V h => ⟨h.pix (by simp), h.frozen (cs := #[.int .u8 0, .int .u8 0, .int .u8 0, .int .u8 0]) (t := 23) (by simp)⟩
    have HC : Hid (∀ V3, St V [(V.heap.size + 1, po 0 0 0 0), (c, tob g), (b, tob f)] V3 → Calls Try.prog 35 #[pv (f i).r (f i).g (f i).b (f i).a, .int .i64 (g i).a] V3 fun e w' => e = .returned (fad (f i) (g i).a).v ∧ St V [(V.heap.size + 1, po 0 0 0 0), (c, tob g), (b, tob f)] w') := fun V3 h => h.call (fade_any _ _ _ _ _ _ hf.2.2.2)
    clear h h2
    generalize hqf : fad (f i) (g i).a = q at *
    clear hqf hf hg
    generalize f i = pf at *
    generalize g i = pg at *
    obtain ⟨r, gg, bb, a⟩ := pf
    obtain ⟨r', gg', bb', a'⟩ := pg
    obtain ⟨qr, qg, qb, qa⟩ := q
    generalize hV2 : (V.alloc (pto i)).alloc (po 0 0 0 0) = V2 at hs
    have HV := Lib.hid hV2
    clear hV2
    have hd0 := hs.drew
    have hd := HL.out _ hd0
    clear hs hlb hlc
    go_enter Try.func48, Try.ntmps48
    go_upto_region 1 with fail
    have e1 : (V.alloc (pto i)).alloc (po 0 0 0 0) = V2 := HV.out
    rw [e1]
    clear e1
    go_region_held3 (fun V3 => St V [(c, tob g), (b, tob f)] V3 ∧ Q4 V3 b i ⟨r, gg, bb, a⟩ ∧ Q4 V3 c i ⟨r', gg', bb', a'⟩) ((refine HS.out _ ?_; repeat' (first | assumption | refine HT.out _ _ _ ?_))) (first
      | (go_at_call 35; (refine (HC.out _ ?_).mono ?_); (focus assumption); rintro e V3 ⟨rfl, h3⟩; have h3l := HL.out _ h3; obtain ⟨⟨t0, t1, t2, t3⟩, f3⟩ := HF.out _ h3))
    all_goals
      go_wp2_with fail
      exact bodyPost_ret (v := pv qr qg qb qa) (by simp [results, Try.results48, go_sem, *]) rfl ⟨rfl, below_set4 h3.below (by omega) _ _ _ _⟩
  exact key
/-- coverages as a value, and in memory -/
def cl64 (k : Nat → Int) : List Value := (List.range 64).map fun i => .int .u8 (k i)
def cvc (k : Nat → Int) : Array Value := (cl64 k).toArray
abbrev cvo (k : Nat → Int) : Obj := .cells (cvc k) 37
theorem cvc_size (k : Nat → Int) : (cvc k).size = 64 := by simp [cvc, cl64]
theorem cvc_get (k : Nat → Int) (i : Nat) (hi : i < 64) : (cvc k)[i]? = some (.int .u8 (k i)) := by
  unfold cvc cl64
  rw [List.getElem?_toArray, List.getElem?_map, List.getElem?_range hi]; rfl
theorem index_cov (b i : Nat) (hi : i < 64) (w : World) : (Instr.indexAt 37 (.pointer (some ⟨b, 0, none⟩)) (.int .i64 i)).run Try.prog w = .ok (.pointer (some ⟨b, i, none⟩)) w := by
  have hs : (sizeOf 5).run Try.prog w = .ok 1 w := by kernel_rfl
  have h2 : 0 ≤ (i : Int) ∧ (i : Int) < (64 : Nat) := ⟨by omega, by omega⟩
  have ha : (⟨b, 0, none⟩ : Addr).add (i * 1) = ⟨b, i, none⟩ := by rw [Addr.add_mid, Nat.zero_add, Nat.mul_one]
  simp only [Instr.indexAt, asIntOf, Instr.sureAddr, Sem.run_bind, Sem.run_pure, Result.andThen_ok, run_underlying Try.underlying37, hs, if_pos h2, Int.toNat_natCast, ha]
set_option maxRecDepth 100000 in
set_option maxHeartbeats 8000000 in
theorem over1 (f g : Nat → Px) (m : Int) (k : Nat → Int) (b c bm bc i : Nat) (V : World) (hi : i < 64) (h : V.heap[b]? = some (tob f)) (h2 : V.heap[c]? = some (tob g)) (h3 : V.heap[bm]? = some (vo (.int .i64 m) 3)) (h4 : V.heap[bc]? = some (cvo k))
    (hf : Pc (f i)) (hg : Pc (g i)) (hk : Ch (k i)) :
    Calls Try.prog 46 (#[.int .i64 i, ptv i] ++ #[ptrB b, ptrB c, ptrB bm, ptrB bc]) V fun e w' => e = .returned (ovr (f i) (g i) m (k i)).v ∧ Below V.heap.size V w' := by
  have key : Calls Try.prog 46 #[.int .i64 i, ptv i, ptrB b, ptrB c, ptrB bm, ptrB bc] V fun e w' => e = .returned (ovr (f i) (g i) m (k i)).v ∧ Below V.heap.size V w' := by
    have hix := index_px b i hi
    have hiy := index_px c i hi
    have hiz := index_cov bc i hi
    have hga : IntKind.i64.wrap (k i) = k i := w64 hk
    have hs := ((((((St.start V).more h).more h2).more h3).more h4).alloc (pto i)).alloc (po 0 0 0 0)
    rw [World.size_alloc] at hs
    have hs := hs.sub (L' := [(V.heap.size + 1, po 0 0 0 0), (bc, cvo k), (bm, vo (.int .i64 m) 3), (c, tob g), (b, tob f)]) (by simp)
    have hlb : b < V.heap.size := (Array.getElem?_eq_some_iff.1 h).1
    have hlc : c < V.heap.size := (Array.getElem?_eq_some_iff.1 h2).1
    have hlm : bm < V.heap.size := (Array.getElem?_eq_some_iff.1 h3).1
    have hlv : bc < V.heap.size := (Array.getElem?_eq_some_iff.1 h4).1
    have HL : Hid (∀ V3, St V [(V.heap.size + 1, po 0 0 0 0), (bc, cvo k), (bm, vo (.int .i64 m) 3), (c, tob g), (b, tob f)] V3 → St V [(bc, cvo k), (bm, vo (.int .i64 m) 3), (c, tob g), (b, tob f)] V3) := fun V3 h => h.sub (fun x hx => List.mem_cons_of_mem _ hx)
    have HT : Hid (∀ V3 j v, St V [(bc, cvo k), (bm, vo (.int .i64 m) 3), (c, tob g), (b, tob f)] V3 → St V [(bc, cvo k), (bm, vo (.int .i64 m) 3), (c, tob g), (b, tob f)] (V3.setCell ⟨V.heap.size + 1, j, none⟩ v)) := fun V3 j v h => h.set (by omega) (by simp; omega)
    have HS : Hid (∀ V3, St V [(bc, cvo k), (bm, vo (.int .i64 m) 3), (c, tob g), (b, tob f)] V3 → St V [(bc, cvo k), (bm, vo (.int .i64 m) 3), (c, tob g), (b, tob f)] V3 ∧ Q4 V3 b i (f i) ∧ Q4 V3 c i (g i) ∧ V3.cell? ⟨bm, 0, none⟩ = some (.int .i64 m) ∧ V3.cell? ⟨bc, i, none⟩ = some (.int .u8 (k i))) :=
      fun V3 h => ⟨h, h.q4 (by simp) i hi, h.q4 (by simp) i hi, h.var (t := 3) (by simp), (h.cell (t := 37) (cs := cvc k) (by simp) i).trans (cvc_get k i hi)⟩
    have HF : Hid (∀ V3, St V [(V.heap.size + 1, po 0 0 0 0), (bc, cvo k), (bm, vo (.int .i64 m) 3), (c, tob g), (b, tob f)] V3 → RB V3 (V.heap.size + 1) 0 0 0 0 ∧ ∀ j, V3.frozen? ⟨V.heap.size + 1, j, none⟩ = false) := fun V h => ⟨h.pix (by simp), h.frozen (cs := #[.int .u8 0, .int .u8 0, .int .u8 0, .int .u8 0]) (t := 23) (by simp)⟩
    have HC : Hid (∀ V3, St V [(V.heap.size + 1, po 0 0 0 0), (bc, cvo k), (bm, vo (.int .i64 m) 3), (c, tob g), (b, tob f)] V3 → Calls Try.prog 34 #[pv (f i).r (f i).g (f i).b (f i).a, pv (g i).r (g i).g (g i).b (g i).a, .int .i64 m, .int .i64 (k i)] V3 fun e w' => e = .returned (ovr (f i) (g i) m (k i)).v ∧ St V [(V.heap.size + 1, po 0 0 0 0), (bc, cvo k), (bm, vo (.int .i64 m) 3), (c, tob g), (b, tob f)] w') := fun V3 h => h.call (over_any _ _ _ _ _ _ _ _ _ _ _ hf.1 hf.2.1 hf.2.2.1 hf.2.2.2 hg.1 hg.2.1 hg.2.2.1 hg.2.2.2)
    clear h h2 h3 h4 hlb hlc hlm hlv
    generalize hqf : ovr (f i) (g i) m (k i) = q at *
    clear hqf hf hg hk
    generalize f i = pf at *
    generalize g i = pg at *
    generalize k i = ki at *
    obtain ⟨r, gg, bb, a⟩ := pf
    obtain ⟨r', gg', bb', a'⟩ := pg
    obtain ⟨qr, qg, qb, qa⟩ := q
    generalize hV2 : (V.alloc (pto i)).alloc (po 0 0 0 0) = V2 at hs
    have HV := Lib.hid hV2
    clear hV2
    have hd0 := hs.drew
    have hd := HL.out _ hd0
    clear hs
    go_enter Try.func46, Try.ntmps46
    go_upto_region 1 with fail
    have e1 : (V.alloc (pto i)).alloc (po 0 0 0 0) = V2 := HV.out
    rw [e1]
    clear e1
    go_region_held3 (fun V3 => St V [(bc, cvo k), (bm, vo (.int .i64 m) 3), (c, tob g), (b, tob f)] V3 ∧ Q4 V3 b i ⟨r, gg, bb, a⟩ ∧ Q4 V3 c i ⟨r', gg', bb', a'⟩ ∧ V3.cell? ⟨bm, 0, none⟩ = some (.int .i64 m) ∧ V3.cell? ⟨bc, i, none⟩ = some (.int .u8 ki)) ((refine HS.out _ ?_; repeat' (first | assumption | refine HT.out _ _ _ ?_))) (first
      | (go_at_call 34; (refine (HC.out _ ?_).mono ?_); (focus assumption); rintro e V3 ⟨rfl, h3⟩; have h3l := HL.out _ h3; obtain ⟨⟨t0, t1, t2, t3⟩, f3⟩ := HF.out _ h3))
    all_goals
      go_wp2_with fail
      exact bodyPost_ret (v := pv qr qg qb qa) (by simp [results, Try.results46, go_sem, *]) rfl ⟨rfl, below_set4 h3.below (by omega) _ _ _ _⟩
  exact key
end Go.Proofs.Ytkomknhloimhcaa.T
