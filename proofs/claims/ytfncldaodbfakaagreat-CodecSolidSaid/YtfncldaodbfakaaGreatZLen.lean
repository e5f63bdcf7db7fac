/-
  Lengths of packed rasters; a raster of one tile; arguments that are pixels and slices of numbers.
-/
import Derived.Test.YtfncldaodbfakaaGreatZPack
import Derived.Test.YtfncldaodbfakaaGreatZMadeM
import Derived.Test.YtfncldaodbfakaaGreatTLaw
import Derived.Test.YtfncldaodbfakaaGreatZLaw
namespace Go.Proofs.YtfncldaodbfakaaGreat.Z
open Go.ChangeShapes Go.WideShapes Go.ChangeAt Go.RowKit Go.Shelf T Q
set_option maxRecDepth 100000
variable {V W w w' : World} {L : List (Nat × Obj)} {b : Nat}

theorem varN_le2 {u : Nat} (h : u < 16384) : (O.Leb.varN u).length ≤ 2 := O.Leb.varN_len (k := 1) (by omega)
theorem varN_1 {u : Nat} (h : u < 128) : (O.Leb.varN u).length = 1 := by rw [O.Leb.varN_small h]; rfl
theorem ent_len2 (a : TA) : (ent a).length ≤ 14 := by
  unfold ent ebl
  have h := varN_le2 (u := (blob a.t).length) (by have := (blob_len a.t).2; omega)
  simp only [List.length_append, O.Leb.putN_len, sm_len, show (pb (mea a.t)).length = 4 from rfl]
  omega
theorem flat_len2 : ∀ l : List TA, (l.flatMap ent).length ≤ 14 * l.length
  | [] => Nat.le_refl _
  | a :: l => by
    have h1 := flat_len2 l
    have h3 := ent_len2 a
    simp only [List.flatMap_cons, List.length_append, List.length_cons]
    omega
theorem pck_le (l : List TA) (hl : l.length ≤ 6) : (pck l).length ≤ 8 + 271 * l.length := by
  have h1 := flat_len2 l
  have h2 := (flat_len l).2
  have h3 : (ixl l.length l).length ≤ 1 + 14 * l.length := by
    unfold ixl
    rw [List.length_append, varN_1 (by omega)]; omega
  unfold pck
  simp only [List.length_append, List.length_cons, List.length_nil, sm_len]
  rw [varN_1 (u := (ixl l.length l).length) (by omega)]
  omega
theorem pck_one (q : Px) : (pck [⟨0, 0, fun _ => q⟩]).length = 26 := by
  have hs : sb (fun _ => q) = true := by
    unfold sb
    rw [teq_iff]
    intro i _
    rfl
  have hb : (blob fun _ => q).length = 5 := by
    unfold blob
    rw [if_pos hs]
    rfl
  have he : (ent ⟨0, 0, fun _ => q⟩).length = 13 := by
    unfold ent ebl
    simp only [List.length_append, O.Leb.putN_len, sm_len, show (pb (mea fun _ => q)).length = 4 from rfl, hb]
    rw [varN_1 (by omega)]
  have hi : (ixl 1 [⟨0, 0, fun _ => q⟩]).length = 14 := by
    unfold ixl
    rw [List.length_append, varN_1 (by omega)]
    simp only [List.flatMap_cons, List.flatMap_nil, List.append_nil, he]
  unfold pck bls
  simp only [List.length_append, List.length_cons, List.length_nil, sm_len, List.flatMap_cons, List.flatMap_nil, List.append_nil, hb]
  rw [show (0 + 1 : Nat) = 1 from rfl, hi, varN_1 (by omega)]
theorem one_valid (q : Px) (h : q.a ≠ 0) : vldR [⟨0, 0, fun _ => q⟩] = true := by
  have hv : vtile (fun _ => q) = true := by
    rw [vtile_iff]
    refine ⟨fun i _ => ?_, 0, by omega, h⟩
    unfold cln
    rw [if_neg h]
  exact vldR_snoc (l := []) (a := ⟨0, 0, fun _ => q⟩) (by decide) (by decide) (show wth 8192 0 0 = true by decide) hv (by simp)
theorem mdl_pc (n : Nat) (z : Nat → Int) (i : Nat) : ∀ a ∈ mdl n z i, ∀ j, j < 64 → Pc (a.t j) := by
  intro a ha j _
  obtain ⟨k, _, rfl, _⟩ := mdl_mem n z i a ha
  have hz : Pc zp := ⟨by decide, by decide, by decide, by decide⟩
  have hc : ∀ p : Px, Pc p → Pc (cln p) := fun p hp => by
    unfold cln
    split
    · exact hz
    · exact hp
  refine hc _ ?_
  have hm : ∀ (m : Nat) (y : Nat → Int) i, Pc (mdt m y i) := fun m y i => by
    unfold mdt
    split
    · exact hz
    · split
      · exact hc _ (mdp_pc _)
      · exact hc _ (mdp_pc _)
  show Pc (tle n z k j)
  unfold tle
  split
  · exact hm _ _ _
  · exact hm _ _ _
theorem opened_is {H : Type} {enc : TypeId × Value → H} {W : World} {b0 : Nat} {r : Reach} {v : Value} {d : DataW H} {p : List MemPlace} (hv : Value.okWide Tryz.prog W r b0 22 v) (h : DataW.Trod enc Tryz.prog W 0 (fun _ => true) true 22 v d p)
    (hsz : ∀ el sp, d = .slice el sp → (el.length + sp.length) * 8 ≤ reachBytes) : ∃ (po : Option Addr) (n c : Nat) (z : Nat → Int), v = .slice po n c ∧ IS W po n c z := by
  obtain ⟨a0, len, cap, rfl⟩ := okWide_slice Tryz.underlying22 hv
  obtain ⟨fuel, hf⟩ := h
  rcases open_ints Tryz.underlying22 Tryz.underlying3 (by kernel_rfl) hf with ⟨hcs, _⟩ | ⟨a, len', cap', zs, hcs, _, hl, hm, hz, hx, hcell, _⟩
  · simp [Value.cells] at hcs
    obtain ⟨rfl, rfl, rfl⟩ := hcs
    exact ⟨none, 0, 0, fun _ => 0, rfl, by omega, Nat.le_refl _, .inl rfl⟩
  · simp [Value.cells] at hcs
    obtain ⟨rfl, rfl, rfl⟩ := hcs
    simp only [if_true] at hz
    have hd := hsz _ _ (congrArg Prod.fst hx)
    have hlen : ∀ l : List Int, (lits (H := H) .i64 l).length = l.length := fun l => by simp [lits]
    rw [hlen, hlen, List.length_take, List.length_drop] at hd
    refine ⟨some a, len, cap, fun i => zs.getD i 0, rfl, by unfold reachBytes at hd; omega, hl, ?_⟩
    by_cases h0 : len = 0
    · exact .inl h0
    · right
      obtain ⟨b, off, spot⟩ := a
      have hspot : spot = none := by simpa [Addr.add] using World.cell?_spot (hcell 0 (by omega))
      subst hspot
      have hadd : ∀ i, (⟨b, off, none⟩ : Addr).add i = ⟨b, off + i, none⟩ := fun i => by unfold Addr.add; split <;> simp_all
      refine ⟨b, off, rfl, ?_, fun i hi => ?_⟩
      · have hc := hcell 0 (by omega)
        rw [hadd] at hc
        exact block_lt_of_cell hc
      · have hc := hcell i (by omega)
        rw [hadd] at hc
        exact hc
theorem built_ta1 (f : Nat → Px) (w : World) : (Instr.build 42 #[(1, tv f)]).run Tryz.prog w = .ok (tav ⟨0, 0, f⟩) w := by
  refine run_build w 42 _ _ ?_
  obtain ⟨i0, z, hi0, hz0, hsz, hby, hzc⟩ := info_ta
  have hzz : (Tryz.prog.info? 42).bind (fun i => i.zero) = some (tav ta0) := by kernel_rfl
  rw [hi0] at hzz
  simp only [Option.bind_some, hz0, Option.some.injEq] at hzz
  subst hzz
  have hp : (match Tryz.prog.underlying 42 with | some (.struct fs) => fs.toList.mapM (fun f => (Tryz.prog.info? f.type).map fun i => (f.offset, i.size)) | _ => none) = some [(0, 2), (2, 256)] := by kernel_rfl
  rw [Tryz.underlying42] at hp
  unfold Program.built
  rw [hi0, Tryz.underlying42]
  simp only [hz0]
  simp only at hp
  rw [hp]
  have c1 : (Value.agg (tc f)).cells = tc f := rfl
  show Instr.fill (fun i => #[(0, 2), (2, 256)][i]?) (tac ta0).toArray [(1, tv f)] = some (tac ⟨0, 0, f⟩).toArray
  have q1 : (#[(0, 2), (2, 256)] : Array (Nat × Nat))[1]? = some (2, 256) := rfl
  simp only [Instr.fill, q1, c1, tc_size]
  have h258 : (tac ta0).toArray.size = 258 := by rw [List.size_toArray, tac_len]
  rw [if_neg (by rw [h258]; simp)]
  refine congrArg some ?_
  apply Array.ext_getElem?
  intro k
  rw [fold_arr 2 (tc f) _ k (by rw [tc_size, h258]; omega), tc_size]
  have hR : (tac ⟨0, 0, f⟩).toArray[k]? = (tac ⟨0, 0, f⟩)[k]? := List.getElem?_toArray
  have hT : tac ⟨0, 0, f⟩ = [.int .i64 0, .int .i64 0] ++ (tc f).toList := rfl
  have hT0 : tac ta0 = [.int .i64 0, .int .i64 0] ++ (tc z0).toList := rfl
  have hz2 := tc_size f
  have hz3 := tc_size z0
  rw [hR, hT]
  by_cases hk : 2 ≤ k ∧ k < 258
  · rw [if_pos (by omega), List.getElem?_append_right (by simp; omega), Array.getElem?_toList]; rfl
  · rw [if_neg (by omega), List.getElem?_toArray, hT0]
    by_cases h2 : k < 2
    · rw [List.getElem?_append_left (by simp; omega), List.getElem?_append_left (by simp; omega)]
    · rw [List.getElem?_eq_none (by simp [hz3]; omega), List.getElem?_eq_none (by simp [hz2]; omega)]
end Go.Proofs.YtfncldaodbfakaaGreat.Z
