/-
  Laws over single operations on whole structs; the reference's begin (contract).
-/
import Derived.Test.YtbfnahclkajahaaCDec
namespace Go.Proofs.Ytbfnahclkajahaa.C
open Go.RowKit Go.Shelf
set_option maxRecDepth 100000
variable {W w w' : World} {L : List (Nat × Obj)}
section
variable {ops : Array Oper} {rest : List Oper} {d : Option Tmp} {ty : TypeId} {pp : String} {af : Array Edge} {a : Act} {Q : Exit → Act → World → Prop}
theorem sAlloc {t : TypeId} (cs : Array Value) (H : Nat) (hH : w.heap.size = H) (hz : (zeroValue t).run Try.prog w = .ok (.agg cs) w) (h : wpList Try.prog ops Q rest (a.put d (.pointer (some ⟨H, 0, none⟩))) (w.alloc (.cells cs t))) :
    wpList Try.prog ops Q ({ dst := d, op := .alloc t, type := ty, pos := pp, after := af, guard := none } :: rest) a w :=
  wpList_plain rfl fun _ hK => by
    subst hH
    have hn : (newVar t (.agg cs)).run Try.prog w = .ok ⟨w.heap.size, 0, none⟩ (w.alloc (.cells cs t)) := rfl
    unfold Oper.wp execOp
    simp only [Instr.alloc, Sem.run_bind, hz, hn, Result.andThen_ok, Sem.run_pure]
    exact hK _ _ h
theorem sLoad {t : TypeId} {x : Operand} (p v : Value) (hx : a.eval x = p) (hl : (Instr.loadAt t p).run Try.prog w = .ok v w) (h : wpList Try.prog ops Q rest (a.put d v) w) :
    wpList Try.prog ops Q ({ dst := d, op := .load t x, type := ty, pos := pp, after := af, guard := none } :: rest) a w :=
  wpList_plain rfl fun _ hK => by
    unfold Oper.wp execOp
    simp only [hx, Sem.run_bind, hl, Result.andThen_ok, Sem.run_pure]
    exact hK _ _ h
theorem sStore {t : TypeId} {x y : Operand} (p v : Value) (hxy : a.eval x = p ∧ a.eval y = v) (hl : (Instr.storeAt t p v).run Try.prog w = .ok () w') (h : wpList Try.prog ops Q rest (a.put d undef) w') :
    wpList Try.prog ops Q ({ dst := d, op := .store t x y, type := ty, pos := pp, after := af, guard := none } :: rest) a w :=
  wpList_plain rfl fun _ hK => by
    unfold Oper.wp execOp
    simp only [hxy.1, hxy.2, Sem.run_bind, hl, Result.andThen_ok, Sem.run_pure]
    exact hK _ _ h
theorem sBuild1 {t : TypeId} {i : Nat} {x : Operand} (u v : Value) (hx : a.eval x = u) (hl : (Instr.build t #[(i, u)]).run Try.prog w = .ok v w) (h : wpList Try.prog ops Q rest (a.put d v) w) :
    wpList Try.prog ops Q ({ dst := d, op := .build t #[(i, x)], type := ty, pos := pp, after := af, guard := none } :: rest) a w :=
  wpList_plain rfl fun _ hK => by
    unfold Oper.wp execOp
    simp only [List.map_toArray, List.map_cons, List.map_nil, hx, Sem.run_bind, hl, Result.andThen_ok, Sem.run_pure]
    exact hK _ _ h
theorem sBuild2 {t : TypeId} {i j : Nat} {x y : Operand} (u u' v : Value) (hxy : a.eval x = u ∧ a.eval y = u') (hl : (Instr.build t #[(i, u), (j, u')]).run Try.prog w = .ok v w) (h : wpList Try.prog ops Q rest (a.put d v) w) :
    wpList Try.prog ops Q ({ dst := d, op := .build t #[(i, x), (j, y)], type := ty, pos := pp, after := af, guard := none } :: rest) a w :=
  wpList_plain rfl fun _ hK => by
    unfold Oper.wp execOp
    simp only [List.map_toArray, List.map_cons, List.map_nil, hxy.1, hxy.2, Sem.run_bind, hl, Result.andThen_ok, Sem.run_pure]
    exact hK _ _ h
end
theorem store_row (ty : TypeId) {b : Nat} {cs ds : Array Value} {t : TypeId} {w : World} (hi : (Try.prog.info? ty).map (·.size) = some ds.size) (hs : cs.size = ds.size) (h1 : ds.all (·.oneCell') = true) (h : w.heap[b]? = some (.cells cs t)) :
    (Instr.storeAt ty (.pointer (some ⟨b, 0, none⟩)) (.agg ds)).run Try.prog w = .ok () (w.setRow b ds) := by
  simp only [Instr.storeAt, Instr.sureAddr, Sem.run_bind, Sem.run_pure, Result.andThen_ok, run_storeVar_row w b _ ty _ _ h hi hs h1]
theorem load_row (ty : TypeId) {b : Nat} {cs : Array Value} {t : TypeId} {w : World} (d : TypeDesc) (hd : (match d with | .struct _ | .array _ _ => true | _ => false) = true) (hu : Try.prog.underlying ty = some d) (hi : (Try.prog.info? ty).map (·.size) = some cs.size) (h : w.heap[b]? = some (.cells cs t)) :
    (Instr.loadAt ty (.pointer (some ⟨b, 0, none⟩))).run Try.prog w = .ok (.agg cs) w := by
  simp only [Instr.loadAt, Instr.sureAddr, Sem.run_bind, Sem.run_pure, Result.andThen_ok, run_loadVar_row w b t ty cs (0, 0) d h hu (by cases d <;> first | rfl | cases hd) hi]
/-- the reference's coder: probabilities and bounds -/
def cr (c : Cd) (r : List Value) : List Value := .int .u32 (c.lo : Int) :: .int .u32 (c.hi : Int) :: r
def zd : Nat → Int := fun _ => 0
def mdd (k : Nat) : Nat → Int := fun i => if i < k then 2048 else 0
theorem zeroC (w : World) : (zeroValue 56).run Try.prog w = .ok (.agg (mc zd [.int .u32 0, .int .u32 0])) w := by kernel_rfl
theorem buildC (w : World) : (Instr.build 56 #[(2, .int .u32 4294967295)]).run Try.prog w = .ok (.agg (mc zd [.int .u32 0, .int .u32 4294967295])) w := by kernel_rfl
theorem infoC : (Try.prog.info? 56).map (·.size) = some 258 := by kernel_rfl
theorem mdd_next (k : Nat) : updI (mdd k) k 2048 = mdd (k + 1) := by
  funext i
  unfold updI mdd
  by_cases h : i = k
  · subst h; rw [if_pos rfl, if_pos (by omega)]
  · rw [if_neg h]; by_cases h2 : i < k
    · rw [if_pos h2, if_pos (by omega)]
    · rw [if_neg h2, if_neg (by omega)]
theorem mdd_end (r : List Value) : mc (mdd 256) r = mc (pcs c0.p) r := mc_ext r fun i hi => by unfold mdd pcs; rw [if_pos hi]; rfl
set_option maxHeartbeats 2000000 in
theorem begin_any (w : World) : Calls Try.prog 33 #[] w fun e w' => e = .returned (.agg (mc (pcs c0.p) (cr c0 []))) ∧ Below w.heap.size w w' := by
  have h0 := HS.start w
  obtain ⟨z0, hz0⟩ : ∃ z, z = mc zd [.int .u32 0, .int .u32 0] := ⟨_, rfl⟩
  obtain ⟨z1, hz1⟩ : ∃ z, z = mc zd [.int .u32 0, .int .u32 4294967295] := ⟨_, rfl⟩
  have HZ : Hid (∀ V, (zeroValue 56).run Try.prog V = .ok (.agg z0) V) := fun V => by rw [hz0]; exact zeroC V
  have HB : Hid (∀ V, (Instr.build 56 #[(2, .int .u32 4294967295)]).run Try.prog V = .ok (.agg z1) V) := fun V => by rw [hz1]; exact buildC V
  have h1 := h0.alloc (.cells z0 56)
  have h2 := h1.alloc (.cells z0 56)
  have hst := store_row 56 (ds := z1) (by rw [hz1, mc_size]; exact infoC) (by rw [hz0, hz1, mc_size, mc_size]; rfl) (by rw [hz1]; exact mc_one _ _ (by simp [Value.oneCell'])) h2.hd
  have h3 := h2.rowset (ds := z1)
  have HST := Lib.hid hst
  have H3 := Lib.hid h3
  have H0 := Lib.hid hz0
  have H1 := Lib.hid hz1
  rw [World.size_alloc] at H3 HST
  clear h0 h1 h2 h3 hst hz0 hz1
  go_enter Try.func33, Try.ntmps33
  go_wp2_with (first
    | (with_reducible refine sAlloc z0 (w.heap.size + 1) (by rw [World.size_alloc]) (HZ.out _) ?_)
    | (with_reducible refine sAlloc z0 w.heap.size rfl (HZ.out _) ?_)
    | ((with_reducible refine sBuild1 (.int .u32 4294967295) _ ?_ (HB.out _) ?_); focus rfl)
    | ((with_reducible refine sStore (.pointer (some ⟨w.heap.size + 1, 0, none⟩)) (.agg z1) ?_ HST.out ?_); focus exact ⟨rfl, rfl⟩))
  have H4 : Hid (HS w [(w.heap.size + 1, mob 56 (mdd 0) [.int .u32 0, .int .u32 4294967295]), (w.heap.size, .cells z0 56)] (((w.alloc (.cells z0 56)).alloc (.cells z0 56)).setRow (w.heap.size + 1) z1)) := by
    have h := H3.out
    have e : z1 = mc (mdd 0) [.int .u32 0, .int .u32 4294967295] := H1.out
    rw [e] at h ⊢
    exact h
  clear H3 H1 HST
  generalize ((w.alloc (.cells z0 56)).alloc (.cells z0 56)).setRow (w.heap.size + 1) z1 = w2 at H4 ⊢
  generalize hgs : w.heap.size = g at H4 ⊢
  have HG := Lib.hid hgs
  clear hgs
  go_loopw [2] (fun i V => ∃ k : Nat, k ≤ 256 ∧ i = .int .i64 (k : Int) ∧ Hid (HS w [(g + 1, mob 56 (mdd k) [.int .u32 0, .int .u32 4294967295]), (g, .cells z0 56)] V)) (fun i _ => 256 - (intOf i).toNat)
  case atStart => exact ⟨0, by omega, rfl, H4⟩
  case round =>
    obtain ⟨k, hk, rfl, HT⟩ := hrel
    clear H4
    by_cases hlt : k < 256
    · have hc := HT.out.hd_d k hlt
      have hf := HT.out.hfro k
      have hp := HT.out.putd k 2048 hlt
      rw [mdd_next] at hp
      have HP := Lib.hid hp
      have hlt2 : (k : Int) < 256 := by omega
      clear hp
      go_wp2_with fail
      go_roundw
      case rel => exact ⟨k + 1, by omega, by go_num, HP⟩
      case measure => simp [intOf]; omega
    · obtain rfl : k = 256 := by omega
      have h := HT.out
      unfold mob at h
      rw [mdd_end] at h
      have hl := load_row 56 _ (by rfl) Try.underlying56 (by rw [mc_size]; exact infoC) h.hd
      have h2 := h.swap
      have hst := store_row 56 (ds := mc (pcs c0.p) [.int .u32 0, .int .u32 4294967295]) (by rw [mc_size]; exact infoC) (by rw [H0.out, mc_size, mc_size]; rfl) (mc_one _ _ (by simp [Value.oneCell'])) h2.hd
      have h3 := h2.rowset (ds := mc (pcs c0.p) [.int .u32 0, .int .u32 4294967295])
      have hres := h3.hd
      have HL := Lib.hid hl
      have HST := Lib.hid hst
      have HRES := Lib.hid hres
      have HBL := Lib.hid h3.below
      clear h h2 h3 hl hst hres
      have hzz : mc (pcs c0.p) [.int .u32 0, .int .u32 4294967295] = mc (pcs c0.p) (cr c0 []) := rfl
      have hsz : (Try.prog.info? 56).map (·.size) = some (mc (pcs c0.p) [.int .u32 0, .int .u32 4294967295]).size := by rw [mc_size]; exact infoC
      have HSZ := Lib.hid hsz
      have HZZ := Lib.hid hzz
      clear hsz hzz
      generalize mc (pcs c0.p) [.int .u32 0, .int .u32 4294967295] = z3 at HL HST HRES HBL HSZ HZZ
      go_wp2_with (first
        | ((with_reducible refine sLoad (.pointer (some ⟨g + 1, 0, none⟩)) (.agg z3) ?_ HL.out ?_); focus rfl)
        | ((with_reducible refine sStore (.pointer (some ⟨g, 0, none⟩)) (.agg z3) ?_ HST.out ?_); focus exact ⟨rfl, rfl⟩))
      rw [← HG.out] at *
      refine bodyPost_ret (results_cell_row Try.results33 _ _ _ _ _ _ _ rfl HRES.out Try.underlying56 rfl HSZ.out) rfl ⟨?_, HBL.out⟩
      rw [HZZ.out]
end Go.Proofs.Ytbfnahclkajahaa.C
