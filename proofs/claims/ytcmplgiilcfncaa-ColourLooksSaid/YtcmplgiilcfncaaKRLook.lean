/-
  The reference's Look: a colour in a grid, or the error.
-/
import Derived.Test.YtcmplgiilcfncaaKRLk
import Derived.Test.YtcmplgiilcfncaaKRGr
namespace Go.Proofs.Ytcmplgiilcfncaa.K
open Go.RowKit
set_option maxRecDepth 100000
variable {W w w' : World} {L : List (Nat × Obj)}

/-- what the reference's functions return: a colour and an error, the other fields zero -/
abbrev gotC (a b c e : Int) : Array Value := #[.int .i64 a, .int .i64 b, .int .i64 c, .int .i64 0, .slice none 0 0, .int .i64 0, .int .u8 0, .int .u8 0, .int .u8 0, .int .u8 0, .int .i64 e]
abbrev got (a b c e : Int) : Value := .agg (gotC a b c e)
abbrev gotO (a b c e : Int) : Obj := .cells (gotC a b c e) 37
theorem zero_got (w : World) : (zeroValue 37).run Try.prog w = .ok (got 0 0 0 0) w := by kernel_rfl
theorem built_e (w : World) : (Instr.build 37 #[(4, .int .i64 1)]).run Try.prog w = .ok (got 0 0 0 1) w := by kernel_rfl
theorem built_c (a b c : Int) (w : World) : (Instr.build 37 #[(0, ag a b c)]).run Try.prog w = .ok (got a b c 0) w := by kernel_rfl
theorem info_got : (Try.prog.info? 37).map (fun i => i.size) = some 11 := by kernel_rfl
theorem store_got (k : Nat) (w : World) {a0 b0 c0 e0 : Int} (h : w.heap[k]? = some (gotO a0 b0 c0 e0)) (a b c e : Int) : (Instr.storeAt 37 (.pointer (some ⟨k, 0, none⟩)) (got a b c e)).run Try.prog w = .ok () (w.setRow k (gotC a b c e)) := by
  simp only [Instr.storeAt, Instr.sureAddr, Sem.run_bind, Sem.run_pure, Result.andThen_ok, run_storeVar_row w k _ 37 (gotC a0 b0 c0 e0) (gotC a b c e) h (by rw [info_got]; rfl) rfl (by simp [Value.oneCell'])]
theorem res_got {tmps : Array Value} {k : Nat} {a b c e : Int} (hp : tmps.getD 4 undef = .pointer (some ⟨k, 0, none⟩)) (h : w.heap[k]? = some (gotO a b c e)) : (results Try.f7 tmps).run Try.prog w = .ok (got a b c e) w := by
  have q := fun j => cell_of_row _ _ j _ _ _ h
  have q0 := q 0; have q1 := q 1; have q2 := q 2; have q3 := q 3; have q4 := q 4; have q5 := q 5; have q6 := q 6; have q7 := q 7; have q8 := q 8; have q9 := q 9; have q10 := q 10
  simp at q0 q1 q2 q3 q4 q5 q6 q7 q8 q9 q10
  have hp' : tmps[4]?.getD undef = .pointer (some ⟨k, 0, none⟩) := by simpa using hp
  simp [results, Try.results7, go_sem, hp', q0, q1, q2, q3, q4, q5, q6, q7, q8, q9, q10]
section
variable {P : Program} {ops : Array Oper} {rest : List Oper} {o : Oper} {a : Act} {Q : Exit → Act → World → Prop} {w w' : World}
theorem wl_alloc (hg : o.guard = none) (t : TypeId) (ho : o.op = .alloc t) (cs : Array Value) (hz : (zeroValue t).run P w = .ok (.agg cs) w)
    (h : wpList P ops Q rest (a.put o.dst (.pointer (some ⟨w.heap.size, 0, none⟩))) (w.alloc (.cells cs t))) : wpList P ops Q (o :: rest) a w :=
  wpList_plain hg fun K hK => by
    have hn : (newVar t (.agg cs)).run P w = .ok ⟨w.heap.size, 0, none⟩ (w.alloc (.cells cs t)) := rfl
    unfold Oper.wp execOp
    simp only [ho, Instr.alloc, Sem.run_bind, hz, hn, Result.andThen_ok, Sem.run_pure]
    exact hK _ _ h
theorem wl_store (hg : o.guard = none) (ty : TypeId) (x y : Operand) (ho : o.op = .store ty x y)
    (hl : (Instr.storeAt ty (a.eval x) (a.eval y)).run P w = .ok () w') (h : wpList P ops Q rest (a.put o.dst undef) w') : wpList P ops Q (o :: rest) a w :=
  wpList_plain hg fun K hK => by
    unfold Oper.wp execOp
    simp only [ho, Sem.run_bind, hl, Result.andThen_ok, Sem.run_pure]
    exact hK _ _ h
theorem wl_build1 (hg : o.guard = none) (t : TypeId) (i : Nat) (x : Operand) (ho : o.op = .build t #[(i, x)]) (u v : Value) (hx : a.eval x = u) (hl : (Instr.build t #[(i, u)]).run P w = .ok v w) (h : wpList P ops Q rest (a.put o.dst v) w) : wpList P ops Q (o :: rest) a w :=
  wpList_plain hg fun K hK => by
    unfold Oper.wp execOp
    have hl' : (Instr.build t ((#[(i, x)] : Array (Nat × Operand)).map fun (i, x) => (i, a.eval x))).run P w = .ok v w := by
      simp only [List.map_toArray, List.map_cons, List.map_nil, hx]
      exact hl
    simp only [ho, Sem.run_bind, hl', Result.andThen_ok, Sem.run_pure]
    exact hK _ _ h
end
theorem below_setRow (h : Below W.heap.size W w) {k : Nat} (hk : W.heap.size ≤ k) (cs : Array Value) : Below W.heap.size W (w.setRow k cs) :=
  h.trans ⟨rfl, rfl, rfl, by simp [World.setRow], fun j hj => setRow_other _ _ _ _ (by omega)⟩
set_option maxHeartbeats 8000000 in
theorem rLook_any (n : Int) (v : Value) (l : List C3) (r : Bool) (c0 c1 c2 : Int) (w : World) (hc : Cls w v l) (hl : l.length ≤ 1000000000) (hr : r = true ↔ ∃ m : Nat, n = m ∧ GV m l) :
    Calls Try.prog 7 #[gv n v, ag c0 c1 c2] w fun e w' => e = .returned (if r = true then got (ipl n l ⟨c0, c1, c2⟩).r (ipl n l ⟨c0, c1, c2⟩).g (ipl n l ⟨c0, c1, c2⟩).b 0 else got 0 0 0 1) ∧ Below w.heap.size w w' := by
  have hcl := hc
  obtain ⟨po, cap, rfl, _⟩ := hc
  have HG : Hid (∀ V, Below w.heap.size w V → Calls Try.prog 14 #[gv n (.slice po l.length cap)] V fun e w' => e = .returned (.bool r) ∧ Below V.heap.size V w') := fun V hV => rgrid_any n _ l r V (hcl.later hV) hl hr
  have HL : Hid (r = true → ∀ V, Below w.heap.size w V → Calls Try.prog 15 #[gv n (.slice po l.length cap), ag c0 c1 c2] V fun e w' => e = .returned (ipl n l ⟨c0, c1, c2⟩).v ∧ Below V.heap.size V w') := fun h V hV => by
    obtain ⟨m, rfl, hg⟩ := hr.1 h
    exact rlook_any m _ l c0 c1 c2 V (hcl.later hV) hg
  generalize ipl n l ⟨c0, c1, c2⟩ = A at HL ⊢
  obtain ⟨A0, A1, A2⟩ := A
  generalize l.length = N at HG HL
  clear hcl hr hl
  have hs := (((St.start w).alloc (gob n (.slice po N cap))).alloc (ac c0 c1 c2)).alloc (gotO 0 0 0 0)
  simp only [World.size_alloc] at hs
  cases r
  · clear HL
    rw [if_neg (by decide)]
    go_enter Try.func7, Try.ntmps7
    go_upto_region 1 with (refine wl_alloc rfl 37 rfl _ (zero_got _) ?_)
    generalize ((w.alloc (gob n (.slice po N cap))).alloc (ac c0 c1 c2)).alloc (gotO 0 0 0 0) = w1 at hs ⊢
    generalize hb : w.heap.size = b at hs ⊢
    obtain ⟨k0, k1⟩ := gv_cells (hs.sub (L' := [(b, gob n (.slice po N cap))]) (by simp))
    go_upto_region 3 with (go_at_call 14; (with_reducible refine (HG.out _ hs.below).mono ?_); rintro e w2 ⟨rfl, h2⟩)
    have k2 := hs.later h2
    have hrow := k2.row (b := b + 1 + 1) (o := gotO 0 0 0 0) (by simp)
    have HB := Lib.hid k2.below
    clear hs h2 k2 k0 k1 HG
    go_wp2_with (first
      | (refine wl_build1 rfl 37 4 (.const (.int .i64 1)) rfl (.int .i64 1) (got 0 0 0 1) rfl (built_e _) ?_; (try simp only [Act.put, List.setIfInBounds_toArray, List.set_cons_zero, List.set_cons_succ]))
      | (refine wl_store rfl 37 (.tmp 4) (.tmp 10) rfl (store_got _ _ hrow 0 0 0 1) ?_; (try simp only [Act.put, List.setIfInBounds_toArray, List.set_cons_zero, List.set_cons_succ])))
    exact bodyPost_ret (res_got rfl (setRow_heap _ _ _ _ _ (0, 0) hrow)) rfl ⟨rfl, hb ▸ below_setRow HB.out (by omega) _⟩
  · have HL2 := Lib.hid (HL.out rfl)
    clear HL
    rw [if_pos rfl]
    go_enter Try.func7, Try.ntmps7
    go_upto_region 1 with (refine wl_alloc rfl 37 rfl _ (zero_got _) ?_)
    generalize ((w.alloc (gob n (.slice po N cap))).alloc (ac c0 c1 c2)).alloc (gotO 0 0 0 0) = w1 at hs ⊢
    generalize hb : w.heap.size = b at hs ⊢
    obtain ⟨k0, k1⟩ := gv_cells (hs.sub (L' := [(b, gob n (.slice po N cap))]) (by simp))
    go_upto_region 4 with (go_at_call 14; (with_reducible refine (HG.out _ hs.below).mono ?_); rintro e w2 ⟨rfl, h2⟩)
    have k2 := hs.later h2
    clear hs h2 k0 k1 HG
    obtain ⟨k0, k1⟩ := gv_cells (k2.sub (L' := [(b, gob n (.slice po N cap))]) (by simp))
    obtain ⟨m0, m1, m2⟩ := k2.col (b := b + 1) (x := c0) (y := c1) (z := c2) (t := 25) (by simp)
    have HS := Lib.hid k2; clear k2
    go_wp2_with (first
      | (go_at_call 15; (with_reducible refine (HL2.out _ HS.out.below).mono ?_); rintro e w3 ⟨rfl, h3⟩; have k3 := HS.out.later h3; have hrow := k3.row (b := b + 1 + 1) (o := gotO 0 0 0 0) (by simp); have HB := Lib.hid k3.below; clear k3 h3)
      | (refine wl_build1 rfl 37 0 (.tmp 13) rfl (ag A0 A1 A2) (got A0 A1 A2 0) rfl (built_c _ _ _ _) ?_; (try simp only [Act.put, List.setIfInBounds_toArray, List.set_cons_zero, List.set_cons_succ]))
      | (refine wl_store rfl 37 (.tmp 4) (.tmp 14) rfl (store_got _ _ hrow A0 A1 A2 0) ?_; (try simp only [Act.put, List.setIfInBounds_toArray, List.set_cons_zero, List.set_cons_succ])))
    exact bodyPost_ret (res_got rfl (setRow_heap _ _ _ _ _ (0, 0) hrow)) rfl ⟨rfl, hb ▸ below_setRow HB.out (by omega) _⟩
end Go.Proofs.Ytcmplgiilcfncaa.K
