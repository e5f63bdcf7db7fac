/-
  The pixels of a square of four tiles, in the reference.
-/
import Derived.Test.YtkomknhloimhcaaTHal2
import Derived.Test.YtkomknhloimhcaaTRefB
namespace Go.Proofs.Ytkomknhloimhcaa.T
open Go.RowKit Go.Shelf

theorem fill4 (place : Nat → Option (Nat × Nat)) (f0 f1 f2 f3 : Nat → Px) (z : Array Value) (hz : z.size = 1024) (h0 : place 0 = some (0, 256)) (h1 : place 1 = some (256, 256)) (h2 : place 2 = some (512, 256)) (h3 : place 3 = some (768, 256)) :
    Instr.fill place z [(0, .agg (fc 64 f0)), (1, .agg (fc 64 f1)), (2, .agg (fc 64 f2)), (3, .agg (fc 64 f3))] = some (fc 256 (sqG f0 f1 f2 f3)) := by
  have c0 : (Value.agg (fc 64 f0)).cells = fc 64 f0 := rfl
  have c1 : (Value.agg (fc 64 f1)).cells = fc 64 f1 := rfl
  have c2 : (Value.agg (fc 64 f2)).cells = fc 64 f2 := rfl
  have c3 : (Value.agg (fc 64 f3)).cells = fc 64 f3 := rfl
  simp only [Instr.fill, h0, h1, h2, h3, c0, c1, c2, c3, fc_size, fold_size, hz]
  rw [if_neg (by first | (simp; done) | (simp; omega)), if_neg (by first | (simp; done) | (simp; omega)), if_neg (by first | (simp; done) | (simp; omega)), if_neg (by first | (simp; done) | (simp; omega))]
  refine congrArg some (fc_of _ (by rw [fold_size, fold_size, fold_size, fold_size, hz]) fun i j hi hj => ?_)
  rw [fold_arr _ _ _ _ (by rw [fold_size, fold_size, fold_size, hz, fc_size]; omega), fold_arr _ _ _ _ (by rw [fold_size, fold_size, hz, fc_size]; omega), fold_arr _ _ _ _ (by rw [fold_size, hz, fc_size]; omega), fold_arr _ _ _ _ (by rw [hz, fc_size]; omega), fc_size, fc_size, fc_size, fc_size]
  unfold sqG app
  by_cases a0 : i < 64
  · rw [if_neg (by omega), if_neg (by omega), if_neg (by omega), if_pos (by omega), if_pos (by omega), if_pos a0, Nat.sub_zero]
    exact fc_get 64 f0 i j a0 hj
  · by_cases a1 : i < 128
    · rw [if_neg (by omega), if_neg (by omega), if_pos (by omega), if_pos a1, if_neg a0, show 4 * i + j - 256 = 4 * (i - 64) + j by omega]
      exact fc_get 64 f1 (i - 64) j (by omega) hj
    · by_cases a2 : i < 192
      · rw [if_neg (by omega), if_pos (by omega), if_neg a1, if_pos (by omega), show 4 * i + j - 512 = 4 * (i - 128) + j by omega]
        exact fc_get 64 f2 (i - 128) j (by omega) hj
      · rw [if_pos (by omega), if_neg a1, if_neg (by omega), show 4 * i + j - 768 = 4 * (i - 192) + j by omega, show i - 128 - 64 = i - 192 by omega]
        exact fc_get 64 f3 (i - 192) j (by omega) hj
set_option maxRecDepth 100000 in
theorem built_sq (a b c d : Nat → Px) (w : World) : (Instr.build 43 #[(0, tv a), (1, tv b), (2, tv c), (3, tv d)]).run Try.prog w = .ok (.agg (fc 256 (sqG a b c d))) w := by
  refine run_build w 43 _ _ ?_
  have hi : (Try.prog.info? 43).map (fun i => (i.zero.map fun z => z.cells.size)) = some (some 1024) := by kernel_rfl
  have he : (Try.prog.info? 25).map (·.size) = some 256 := info_tile
  unfold Program.built
  rw [Try.underlying43]
  cases h1 : Try.prog.info? 43 with
  | none => rw [h1] at hi; simp at hi
  | some it =>
    cases h2 : Try.prog.info? 25 with
    | none => rw [h2] at he; simp at he
    | some ie =>
      rw [h1] at hi; rw [h2] at he
      simp only [Option.map_some, Option.some.injEq] at hi he
      cases h3 : it.zero with
      | none => rw [h3] at hi; simp at hi
      | some z =>
        rw [h3] at hi
        simp only [Option.map_some, Option.some.injEq] at hi
        simp only [h3]
        rw [h2]
        show Instr.fill (fun i => some (i * ie.size, ie.size)) z.cells [(0, tv a), (1, tv b), (2, tv c), (3, tv d)] = some (fc 256 (sqG a b c d))
        rw [he]
        exact fill4 _ a b c d z.cells hi rfl rfl rfl rfl
theorem wpList_build4 {P : Program} {ops : Array Oper} {rest : List Oper} {o : Oper} {a : Act} {Q : Exit → Act → World → Prop} {w : World} (hg : o.guard = none) (t : TypeId) (x y z u : Operand) (ho : o.op = .build t #[(0, x), (1, y), (2, z), (3, u)]) (v x' y' z' u' : Value) (hx : a.eval x = x') (hy : a.eval y = y') (hz : a.eval z = z') (hu : a.eval u = u')
    (hl : (Instr.build t #[(0, x'), (1, y'), (2, z'), (3, u')]).run P w = .ok v w) (h : wpList P ops Q rest (a.put o.dst v) w) : wpList P ops Q (o :: rest) a w :=
  wpList_build_of hg t _ ho v (by subst hx hy hz hu; simpa using hl) h
abbrev sq4 (G : Nat → Px) : Obj := .cells (fc 256 G) 43
set_option maxRecDepth 100000 in
theorem zero_sq4 (w : World) : (zeroValue 43).run Try.prog w = .ok (.agg (fc 256 z0)) w := by kernel_rfl
theorem info_sq4 : (Try.prog.info? 43).map (·.size) = some 1024 := by kernel_rfl
theorem store_sq4 (b : Nat) (f g : Nat → Px) (w : World) (h : w.heap[b]? = some (sq4 f)) : (Instr.storeAt 43 (ptrB b) (.agg (fc 256 g))).run Try.prog w = .ok () (w.setRow b (fc 256 g)) := by
  simp only [Instr.storeAt, Instr.sureAddr, Sem.run_bind, Sem.run_pure, Result.andThen_ok, run_storeVar_row w b _ 43 _ _ h (by rw [info_sq4, fc_size]) (by rw [fc_size, fc_size]) (fc_one 256 g)]
theorem load_sq4 (b : Nat) (f : Nat → Px) (w : World) (h : w.heap[b]? = some (sq4 f)) : (Instr.loadAt 43 (ptrB b)).run Try.prog w = .ok (.agg (fc 256 f)) w := by
  have := run_loadAt_mid w b 0 43 (fc 256 f).toList _ (fun j v hv => by rw [Nat.zero_add, cell_of_row w b j _ _ (0, 0) h]; simpa using hv) Try.underlying43 rfl (by rw [info_sq4, Array.length_toList, fc_size])
  simpa using this
/-- one tile of a square -/
def sub4 (G : Nat → Px) (q : Nat) : Nat → Px := fun i => G (64 * q + i)
theorem load_tmid (b q : Nat) (G : Nat → Px) (w : World) (hq : q < 4) (h : w.heap[b]? = some (sq4 G)) : (Instr.loadAt 25 (.pointer (some ⟨b, q * 256, none⟩))).run Try.prog w = .ok (tv (sub4 G q)) w := by
  have := run_loadAt_mid w b (q * 256) 25 (tc (sub4 G q)).toList _ (fun j v hv => by
    rw [cell_of_row w b (q * 256 + j) _ _ (0, 0) h]
    have hj : j < 256 := by have := (List.getElem?_eq_some_iff.1 hv).1; rwa [Array.length_toList, tc_size] at this
    rw [Array.getElem?_toList] at hv
    rw [← hv, show q * 256 + j = 4 * (64 * q + j / 4) + j % 4 by omega, fc_get 256 G _ _ (by omega) (by omega)]
    have := tc_get (sub4 G q) (j / 4) (j % 4) (by omega) (by omega)
    rw [show 4 * (j / 4) + j % 4 = j by omega] at this
    exact this.symm) Try.underlying25 rfl (by rw [info_tile, Array.length_toList, tc_size])
  simpa using this
set_option maxRecDepth 100000 in
set_option maxHeartbeats 4000000 in
theorem refAt_any (G : Nat → Px) (X Y : Nat) (x y : Int) (w : World) (hx : x = X) (hy : y = Y) (hX : X < 16) (hY : Y < 16) :
    Calls Try.prog 57 #[.agg (fc 256 G), .int .i64 x, .int .i64 y] w fun e w' => e = .returned (G (num X Y)).v ∧ Below w.heap.size w w' := by
  obtain ⟨V2, hV2⟩ : ∃ V2, V2 = (w.alloc (sq4 G)).alloc (pxo zp) := ⟨_, rfl⟩
  have hs := ((St.start w).alloc (sq4 G)).alloc (pxo zp)
  simp only [World.size_alloc] at hs
  rw [← hV2] at hs
  have hz2 : V2.heap.size = w.heap.size + 1 + 1 := by rw [hV2]; simp
  have hx0 : 0 ≤ x ∧ x < 16 := by omega
  have hy0 : 0 ≤ y ∧ y < 16 := by omega
  have hq : 2 * (Y / 8) + X / 8 < 4 := by omega
  have hi1 := fun W => index_at (t := 43) (n := 4) Try.underlying43 size_tile (w.heap.size) 0 (2 * (Y / 8) + X / 8) (2 * (y / 8) + x / 8) (by omega) (by omega) W
  have hi2 := fun W => index_at (t := 25) (n := 64) Try.underlying25 size_px (w.heap.size + 1 + 1) 0 (8 * (Y % 8) + X % 8) (8 * (y % 8) + x % 8) (by omega) (by omega) W
  rw [show 0 + (2 * (Y / 8) + X / 8) * 256 = (2 * (Y / 8) + X / 8) * 256 by omega] at hi1
  rw [show 0 + (8 * (Y % 8) + X % 8) * 4 = 4 * (8 * (Y % 8) + X % 8) by omega] at hi2
  have HL1 := Lib.hid (load_tmid w.heap.size (2 * (Y / 8) + X / 8) G V2 hq (hs.row (b := w.heap.size) (o := sq4 G) (by simp)))
  have h3 := hs.alloc (tob z0)
  have hA := World.alloc_heap_new V2 (tob z0)
  have h4 := St.rowset (ds := tc (sub4 G (2 * (Y / 8) + X / 8))) h3 (by omega) (by simp; omega)
  rw [hz2] at hA h4
  have hl2 := load_px (w.heap.size + 1 + 1) (sub4 G (2 * (Y / 8) + X / 8)) (8 * (Y % 8) + X % 8) (by omega) _ (h4.row (b := w.heap.size + 1 + 1) (o := tob (sub4 G (2 * (Y / 8) + X / 8))) (by simp))
  have hnum : sub4 G (2 * (Y / 8) + X / 8) (8 * (Y % 8) + X % 8) = G (num X Y) := by unfold sub4 num; congr 1; omega
  rw [hnum] at hl2
  have HL2 := Lib.hid hl2
  have HA := Lib.hid hA
  have HZ2 := Lib.hid hz2
  have HR := Lib.hid (h4.row (b := w.heap.size + 1) (o := pxo zp) (by simp))
  have HB := Lib.hid h4.below
  have HV := Lib.hid hV2
  have hzt := zero_tile
  have ex : x.tmod 8 = x % 8 := Int.tmod_eq_emod_of_nonneg hx0.1
  have ey : y.tmod 8 = y % 8 := Int.tmod_eq_emod_of_nonneg hy0.1
  have fx : IntKind.i64.wrap (x.tdiv 8) = x / 8 := by rw [Int.tdiv_eq_ediv_of_nonneg hx0.1]; exact IntWalk.i64_in _ ⟨by omega, by omega⟩
  have fy : IntKind.i64.wrap (y.tdiv 8) = y / 8 := by rw [Int.tdiv_eq_ediv_of_nonneg hy0.1]; exact IntWalk.i64_in _ ⟨by omega, by omega⟩
  have b1 : 0 ≤ x / 8 ∧ x / 8 < 2 := by omega
  have b2 : 0 ≤ y / 8 ∧ y / 8 < 2 := by omega
  have b3 : 0 ≤ x % 8 ∧ x % 8 < 8 := by omega
  have b4 : 0 ≤ y % 8 ∧ y % 8 < 8 := by omega
  have ex2 := ex.symm
  have ey2 := ey.symm
  generalize x / 8 = xq at *
  generalize y / 8 = yq at *
  rw [ex2] at hi2 b3
  rw [ey2] at hi2 b4
  clear ex ey ex2 ey2 hnum hl2 hA h3 h4 hs hV2 hz2 hx hy hX hY hq hx0 hy0
  generalize hG : G (num X Y) = p at *
  have HG := Lib.hid hG
  clear hG
  generalize 2 * (Y / 8) + X / 8 = q at *
  generalize 8 * (Y % 8) + X % 8 = o at *
  generalize sub4 G q = T at *
  go_enter Try.func57, Try.ntmps57
  go_upto_region 1 with fail
  have e1 : (w.alloc (.cells (fc 256 G) 43)).alloc (po 0 0 0 0) = V2 := HV.out.symm
  rw [e1]
  clear e1
  go_wp2_with (first
    | (refine wpList_load_of rfl 25 _ rfl _ HL1.out ?_)
    | (refine wpList_alloc_of rfl 25 rfl _ (zero_tile _) ?_; rw [HZ2.out])
    | (refine wpList_store_of rfl 25 _ _ rfl (store_tile (w.heap.size + 1 + 1) z0 T _ HA.out) ?_)
    | (refine wpList_load_of rfl 23 _ rfl _ HL2.out ?_)
    | (refine wpList_store_of rfl 23 _ _ rfl (store_px0 _ _ p _ HR.out) ?_))
  exact bodyPost_ret (v := p.v) (results_cell_row rfl _ _ (w.heap.size + 1) _ _ _ _ rfl (setRow_heap _ _ _ _ _ _ HR.out) Try.underlying23 rfl info_px) rfl ⟨rfl, Below.setRow HB.out (by omega) _⟩
end Go.Proofs.Ytkomknhloimhcaa.T
