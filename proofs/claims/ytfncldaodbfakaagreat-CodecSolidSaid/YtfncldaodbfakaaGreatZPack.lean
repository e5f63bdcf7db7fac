/-
  Rasters, packed (contract of Pack).
-/
import Derived.Test.YtfncldaodbfakaaGreatZPk
import Derived.Test.YtfncldaodbfakaaGreatQValid
import Derived.Test.YtfncldaodbfakaaGreatQRefU
namespace Go.Proofs.YtfncldaodbfakaaGreat.Z
open Go.RowKit Go.Shelf T Q
set_option maxRecDepth 100000
variable {V W w w' : World} {L : List (Nat × Obj)} {b : Nat}

theorem TBld.writeF {x y : Nat} {vx vy : Value} {l m : List UInt8} (k : List UInt8) (h : TBld W x y vx vy l m w) (hlen : l.length + k.length ≤ 140737488355328) :
    Calls Tryz.prog 50 #[.pointer (some ⟨x, 0, none⟩), .string (O.str k)] w fun e w' => e = .returned (.tuple #[.int .i64 (O.str k).size, .nilIface]) ∧ (∃ vx', TBld W x y vx' vy (l ++ k) m w') ∧ ∀ j, j < w.heap.size → j ≠ x → vx.ownBlock ≠ some j → w'.heap[j]? = w.heap[j]? :=
  (h.fst.write k hlen h.below.size).mono fun _ _ ⟨h1, vx', h2, h3, h4⟩ => ⟨h1, ⟨vx', h.fr h2 h3 h4⟩, h4.old⟩
theorem mea_pc {f : Nat → Px} (hf : ∀ i, i < 64 → Pc (f i)) : Pc (mea f) := by
  obtain ⟨_, ⟨a0, a1⟩, ⟨x0, x1⟩, ⟨y0, y1⟩, ⟨z0, z1⟩⟩ := mb64 f 64 (by omega) hf
  have hz : Pc zp := ⟨by decide, by decide, by decide, by decide⟩
  obtain ⟨c1, c2, c3⟩ := mpx_cases 64 (ma f 64) (mx f 64) (my f 64) (mz f 64)
  show Pc (mpx 64 (ma f 64) (mx f 64) (my f 64) (mz f 64))
  by_cases h : rd (ma f 64) 64 = 0
  · rw [c2 (by decide) h]; exact hz
  · rw [c3 (by decide) h]
    have ha : 0 < ma f 64 := by
      rcases Int.lt_or_eq_of_le a0 with q | q
      · exact q
      · exfalso; apply h; rw [← q]; decide
    have h1 := rd_between (n := ma f 64) (d := 64) (lo := 0) (hi := 255) (by omega) (by omega) (by omega)
    have h2 := rd_between (n := mx f 64) (lo := 0) (hi := 255) ha (by omega) x1
    have h3 := rd_between (n := my f 64) (lo := 0) (hi := 255) ha (by omega) y1
    have h4 := rd_between (n := mz f 64) (lo := 0) (hi := 255) ha (by omega) z1
    exact ⟨h2, h3, h4, h1⟩
/-- an entry of the index, the index, the blobs, the packed raster -/
def ent (a : TA) : List UInt8 := ebl a.x a.y (mea a.t) (blob a.t).length (sm (blob a.t))
def ixl (n : Nat) (l : List TA) : List UInt8 := O.Leb.varN n ++ l.flatMap ent
def bls (l : List TA) : List UInt8 := l.flatMap fun a => blob a.t
def pck (l : List TA) : List UInt8 := [71, 1] ++ (O.Leb.varN (ixl l.length l).length ++ ixl l.length l) ++ sm (ixl l.length l) ++ bls l
theorem ent_len (a : TA) : (ent a).length ≤ 22 := by
  unfold ent ebl
  have h := O.Leb.varN_len64 (u := (blob a.t).length) (by have := (blob_len a.t).2; omega)
  simp only [List.length_append, O.Leb.putN_len, sm_len, show (pb (mea a.t)).length = 4 from rfl]
  omega
theorem ixl_snoc (n : Nat) (l : List TA) (a : TA) : ixl n (l ++ [a]) = ixl n l ++ ent a := by unfold ixl; simp
theorem bls_snoc (l : List TA) (a : TA) : bls (l ++ [a]) = bls l ++ blob a.t := by unfold bls; simp
theorem flat_len : ∀ l : List TA, (l.flatMap ent).length ≤ 22 * l.length ∧ (bls l).length ≤ 257 * l.length
  | [] => ⟨Nat.le_refl _, Nat.le_refl _⟩
  | a :: l => by
    obtain ⟨h1, h2⟩ := flat_len l
    have h3 := ent_len a
    have h4 := (blob_len a.t).2
    unfold bls at h2 ⊢
    simp only [List.flatMap_cons, List.length_append, List.length_cons]
    omega
theorem ixl_len (n : Nat) (hn : n < 1000000) (l : List TA) : (ixl n l).length ≤ 10 + 22 * l.length := by
  unfold ixl
  have h1 := O.Leb.varN_len64 (u := n) (by omega)
  have h2 := (flat_len l).1
  rw [List.length_append]; omega
theorem textc (l : List UInt8) (hl : l.length < 1000000) (w : World) : Calls Tryz.prog 54 #[.string (O.str l)] w fun e w' => e = .returned (.string (O.str (O.Leb.varN l.length ++ l))) ∧ Below w.heap.size w w' := by
  have h := O.text_any (O.str l) w (by rw [O.str_size]; omega)
  rw [O.str_size, O.str_toList] at h
  exact h
theorem sumc (l : List UInt8) (hl : l.length < 1000000) (w : World) : Calls Tryz.prog 56 #[.string (O.str l)] w fun e w' => e = .returned (.string (O.str (sm l))) ∧ Below w.heap.size w w' := by
  have h := sumOf_any (O.str l) w (by rw [O.str_size]; omega)
  rw [O.str_toList] at h
  exact h
variable {x y : Int} {p : Px} {m : Nat} {s bl : List UInt8}
theorem ld_en (h : V.heap[b]? = some (pko x y p m s bl)) : (Instr.loadAt 110 (.pointer (some ⟨b, 0, none⟩))).run Tryz.prog V = .ok (env x y p m s) V := by
  have hr : V.rangeAt b 0 (enl x y p m s) := fun j v hv => by
    rw [cell_of_row V b (0 + j) _ _ (0, 0) h, List.getElem?_toArray, Nat.zero_add]
    unfold pkl
    rw [List.getElem?_append_left (List.getElem?_eq_some_iff.1 hv).1]
    exact hv
  exact run_loadAt_mid V b 0 110 (enl x y p m s) _ hr Tryz.underlying110 rfl (by kernel_rfl)
theorem ld_bl (h : V.heap[b]? = some (pko x y p m s bl)) : (Instr.loadAt 9 (.pointer (some ⟨b, 8, none⟩))).run Tryz.prog V = .ok (.string (O.str bl)) V := by
  have hc : V.cell? ⟨b, 8, none⟩ = some (.string (O.str bl)) := by rw [cell_of_row V b 8 _ _ (0, 0) h]; rfl
  have ht : (isAgg 9).run Tryz.prog V = .ok false V := by kernel_rfl
  simp only [Instr.loadAt, Instr.sureAddr, loadVar, Sem.run_bind, Sem.run_pure, Result.andThen_ok, ht, run_load, hc, Bool.false_eq_true, if_false]
set_option maxHeartbeats 8000000 in
theorem pack_val (p : Option Addr) (n c : Nat) (l : List TA) (w : World) (hr : RS w p n c l) (hv : vldR l = true) (hf : ∀ a ∈ l, ∀ i, i < 64 → Pc (a.t i)) : Calls Tryz.prog 14 #[rv1 p n c] w fun e w' => e = .returned (.tuple #[.string (O.str (pck l)), .int .i64 0]) ∧ Below w.heap.size w w' := by
  have h0 := (St.start w).alloc (rob p n c)
  have HL0 := Lib.hid (ld_ra (h0.row (List.mem_cons_self ..)))
  have HV : Hid (∀ (V : World), Below w.heap.size w V → Calls Tryz.prog 49 #[rv1 p n c] V fun e w' => e = .returned (.bool true) ∧ Below V.heap.size V w') := fun V hV => by
    have h := valid_any p n c l V (hr.later hV)
    rw [hv] at h
    exact h
  have hn1 := ((vldR_iff l).1 hv).1
  have hln := hr.len
  have HR := Lib.hid hr
  have HF := Lib.hid hf
  have HPK : Hid (pck l = [71, 1] ++ (O.Leb.varN (ixl n l).length ++ ixl n l) ++ sm (ixl n l) ++ bls l) := by unfold Hid; rw [← hln]; rfl
  have HOK : Hid (∀ a ∈ l, (-8192 ≤ a.x ∧ a.x < 8192) ∧ (-8192 ≤ a.y ∧ a.y < 8192)) := fun a ha => by
    obtain ⟨i, hi, rfl⟩ := List.getElem_of_mem ha
    have h := (okA_wth (((vldR_iff l).1 hv).2 i hi) (List.getElem?_eq_getElem hi)).1
    unfold wth at h
    simp only [Bool.and_eq_true, decide_eq_true_eq] at h
    omega
  clear hr hf hv
  go_enter Tryz.func14, Tryz.ntmps14
  go_upto_region 1 with fail
  generalize w.alloc (.cells #[.slice p n c] 26) = V1 at h0 HL0 ⊢
  go_upto_region 3 with (first
    | ((with_reducible refine sLoad (ty := 26) (v := rv1 p n c) ?_ ?_); · exact HL0.out)
    | (go_at_call 49; with_reducible refine (h0.call (HV.out _ h0.below)).mono ?_; rintro e w2 ⟨rfl, h2⟩))
  have hT := TBld.fresh w2
  have hlt := h2.lt (List.mem_cons_self ..)
  have HBX : Hid (∀ V, Below w2.heap.size w2 V → V.cell? ⟨w.heap.size, 0, none⟩ = some (.slice p n c)) := fun V hV => by rw [hV.cell (p := ⟨w.heap.size, 0, none⟩) hlt]; exact h2.cell (List.mem_cons_self ..) 0
  have HW := Lib.hid h2.below
  clear h0 HL0 HV
  go_upto_region 4 with fail
  generalize (w2.alloc (.cells #[.pointer none, .slice none 0 0] 103)).alloc (.cells #[.pointer none, .slice none 0 0] 103) = w3 at hT ⊢
  have c3 := HBX.out _ hT.below
  have HVA := Lib.hid (varc n (by omega))
  have hvl := O.Leb.varN_len64 (u := n) (by omega)
  go_upto_region 6 with (first
    | (go_at_call 51; with_reducible refine (HVA.out _).mono ?_; rintro e w4 ⟨rfl, hb4⟩; have h4 := hT.later hb4)
    | (go_at_call 50; with_reducible refine (h4.write (O.Leb.varN n) (by simp only [List.length_nil]; omega)).mono ?_; rintro e w5 ⟨rfl, vx, h5⟩; have c5 := HBX.out _ h5.below))
  have H5 : Hid (∃ vx vy, TBld w2 w2.heap.size (w2.heap.size + 1) vx vy (ixl n (l.take 0)) (bls (l.take 0)) w5) := ⟨_, _, by
    have e : ixl n (l.take 0) = [] ++ O.Leb.varN n := by unfold ixl; simp
    rw [e]; exact h5⟩
  clear c3 hvl HVA hT h4 h5 c5 h2
  go_loopw [20] (fun v wr => ∃ k : Nat, k ≤ n ∧ v = .int .i64 k ∧ Hid (∃ vx vy, TBld w2 w2.heap.size (w2.heap.size + 1) vx vy (ixl n (l.take k)) (bls (l.take k)) wr)) (fun i _ => n - (intOf i).toNat)
  case atStart => exact ⟨0, by omega, rfl, H5⟩
  case round =>
    obtain ⟨k, hk, rfl, HT⟩ := hrel
    clear H5
    obtain ⟨vx, vy, hT⟩ := HT.out
    have hl1 := ixl_len n (by omega) (l.take k)
    have hl2 := (flat_len (l.take k)).2
    rw [List.length_take] at hl1 hl2
    by_cases hlt2 : k < n
    · obtain ⟨a, ha⟩ : ∃ a, l[k]? = some a := ⟨l[k]'(by omega), List.getElem?_eq_getElem _⟩
      have hmem : a ∈ l := List.mem_of_getElem? ha
      have htk : l.take (k + 1) = l.take k ++ [a] := by rw [List.take_add_one, ha]; rfl
      have hix := index_ta HR.out hlt2
      have hBw : Below w.heap.size w wr := HW.out.trans (hT.below.mono HW.out.size)
      have HLD := Lib.hid (load_ta (HR.out.later hBw) ha)
      have HEN : Hid (ixl n (l.take (k + 1)) = ixl n (l.take k) ++ ent a) := by unfold Hid; rw [htk, ixl_snoc]
      have HBN : Hid (bls (l.take (k + 1)) = bls (l.take k) ++ blob a.t) := by unfold Hid; rw [htk, bls_snoc]
      have HPA := Lib.hid (fun V => pack_any a V (HF.out a hmem))
      have hbl := blob_len a.t
      have HEB : Hid (∀ (V : World), Calls Tryz.prog 53 #[env a.x a.y (mea a.t) (blob a.t).length (sm (blob a.t))] V fun e w' => e = .returned (.string (O.str (ent a))) ∧ Below V.heap.size V w') := fun V => ebytes_any a.x a.y (mea a.t) _ _ V (HOK.out a hmem).1 (HOK.out a hmem).2 (mea_pc (HF.out a hmem)) (by omega) (by rw [sm_len]; omega)
      have hel := ent_len a
      clear htk hmem
      generalize ent a = EA at *
      generalize blob a.t = BL at *
      generalize sm BL = SB at *
      generalize mea a.t = PM at *
      generalize ixl n (l.take k) = IX at *
      generalize bls (l.take k) = BX at *
      have hxlt := hT.fst.lt
      have HA0 := Lib.hid (heap_alloc_new wr (taob ta0))
      have s1 : St wr [(wr.heap.size, taob a)] ((wr.alloc (taob ta0)).setRow wr.heap.size (tac a).toArray) := T.St.rowset ((St.start wr).alloc (taob ta0)) (Nat.le_refl _) (by simp)
      go_upto_region 8 with (first
        | ((with_reducible refine sLoad (ty := 42) (v := .agg (tac a).toArray) ?_ ?_); · exact HLD.out)
        | ((with_reducible refine sAlloc (ty := 42) (tac ta0).toArray ?_ ?_); · exact zero_ta _)
        | ((with_reducible refine sStore (ty := 42) (w' := (wr.alloc (.cells (tac ta0).toArray 42)).setRow wr.heap.size (tac a).toArray) ?_ ?_); · exact store_ta _ ta0 a _ HA0.out))
      try simp only [Act.put, List.setIfInBounds_toArray, List.set_cons_zero, List.set_cons_succ]
      generalize (wr.alloc (.cells (tac ta0).toArray 42)).setRow wr.heap.size (tac a).toArray = V1 at s1 ⊢
      have HLT := Lib.hid (ldv_ta (s1.row (List.mem_cons_self ..)))
      clear HLD HA0 hix
      go_upto_region 9 with (first
        | ((with_reducible refine sLoad (ty := 42) (v := tav a) ?_ ?_); · exact HLT.out)
        | (go_at_call 52; with_reducible refine (s1.call (HPA.out _)).mono ?_; rintro e V2 ⟨rfl, s2⟩; have HA2 := Lib.hid (heap_alloc_new V2 (pko 0 0 zp 0 [] [])))
        | ((with_reducible refine sAlloc (ty := 112) (pkl 0 0 zp 0 [] []).toArray ?_ ?_); · exact zero_pk _)
        | ((with_reducible refine sStore (ty := 112) (w' := (V2.alloc (.cells (pkl 0 0 zp 0 [] []).toArray 112)).setRow V2.heap.size (pkl a.x a.y PM BL.length SB BL).toArray) ?_ ?_); · exact store_pk rfl HA2.out))
      have s2lt := s2.lt (List.mem_cons_self ..)
      have s3 : St wr [(V2.heap.size, pko a.x a.y PM BL.length SB BL)] ((V2.alloc (pko 0 0 zp 0 [] [])).setRow V2.heap.size (pkl a.x a.y PM BL.length SB BL).toArray) := (T.St.rowset (s2.alloc (pko 0 0 zp 0 [] [])) s2.below.size (by simp; omega)).sub (by simp)
      try simp only [Act.put, List.setIfInBounds_toArray, List.set_cons_zero, List.set_cons_succ]
      generalize (V2.alloc (.cells (pkl 0 0 zp 0 [] []).toArray 112)).setRow V2.heap.size (pkl a.x a.y PM BL.length SB BL).toArray = V3 at s3 ⊢
      generalize V2.heap.size = b8 at *
      clear HLT HA2 s1 s2 HPA
      have HLE := Lib.hid (ld_en (s3.row (List.mem_cons_self ..)))
      go_upto_region 10 with (first
        | ((with_reducible refine sLoad (ty := 110) (v := env a.x a.y PM BL.length SB) ?_ ?_); · exact HLE.out)
        | (go_at_call 53; with_reducible refine (s3.call (HEB.out _)).mono ?_; rintro e V4 ⟨rfl, s4⟩; have hT4 := hT.later s4.below)
        | (go_at_call 50; with_reducible refine (hT4.writeF EA (by omega)).mono ?_; rintro e V5 ⟨rfl, ⟨vx', hT5⟩, hold⟩))
      have row5 : V5.heap[b8]? = some (pko a.x a.y PM BL.length SB BL) := (hold b8 (s4.lt (List.mem_cons_self ..)) (by omega) (fun e => by have := (hT.fst.blk e).2; omega)).trans (s4.row (List.mem_cons_self ..))
      have HLB := Lib.hid (ld_bl row5)
      clear hold row5 HLE s3 s4 hT4 hT HEB
      go_wp2_with (first
        | ((with_reducible refine sLoad (ty := 9) (v := .string (O.str BL)) ?_ ?_); · exact HLB.out)
        | (go_at_call 50; with_reducible refine (hT5.swap.write BL (by omega)).mono ?_; rintro e V6 ⟨rfl, vy', hT6⟩))
      have H6 : Hid (∃ vx vy, TBld w2 w2.heap.size (w2.heap.size + 1) vx vy (ixl n (l.take (k + 1))) (bls (l.take (k + 1))) V6) := ⟨vx', vy', by rw [HEN.out, HBN.out]; exact hT6.swap⟩
      go_roundw
      case rel => exact ⟨k + 1, by omega, by go_num, H6⟩
      case measure => simp [intOf]; omega
    · obtain rfl : k = n := by omega
      have e1 : l.take k = l := List.take_of_length_le (by omega)
      rw [e1] at hT
      have hi1 : (ixl k l).length ≤ 30000 := by have := ixl_len k (by omega) l; omega
      have hi2 : (bls l).length ≤ 300000 := by have := (flat_len l).2; omega
      have hv1 := O.Leb.varN_len64 (u := (ixl k l).length) (by omega)
      have HTX := Lib.hid (textc (ixl k l) (by omega))
      have HSX := Lib.hid (sumc (ixl k l) (by omega))
      have hs4 := sm_len (ixl k l)
      have hv2 : (O.Leb.varN (ixl k l).length ++ ixl k l).length ≤ 31000 := by rw [List.length_append]; omega
      clear HT hl1 hl2 e1 HR HF HOK
      generalize O.Leb.varN (ixl k l).length ++ ixl k l = VT at *
      generalize sm (ixl k l) = SI at *
      generalize ixl k l = IX at *
      generalize bls l = BX at *
      go_wp2_with (first
        | (go_at_call 55; refine (h9.swap.string).mono ?_; rintro e w10 ⟨rfl, h10⟩)
        | (go_at_call 55; refine (h7.string).mono ?_; rintro e w8 ⟨rfl, h8⟩)
        | (go_at_call 55; refine (hT.string).mono ?_; rintro e w6 ⟨rfl, h6⟩)
        | (go_at_call 54; with_reducible refine (HTX.out _).mono ?_; rintro e w7 ⟨rfl, hb7⟩; have h7 := h6.later hb7)
        | (go_at_call 56; with_reducible refine (HSX.out _).mono ?_; rintro e w9 ⟨rfl, hb9⟩; have h9 := h8.later hb9)
        | ((with_reducible refine sAddS (l := [71, 1]) (m := VT) ?_ ?_ ?_ ?_); (focus rfl); (focus rfl); (focus (simp only [List.length_cons, List.length_nil]; omega)))
        | ((with_reducible refine sAddS (l := [71, 1] ++ VT) (m := SI) ?_ ?_ ?_ ?_); (focus rfl); (focus rfl); (focus (rw [List.length_append]; simp only [List.length_cons, List.length_nil]; omega)))
        | ((with_reducible refine sAddS (l := [71, 1] ++ VT ++ SI) (m := BX) ?_ ?_ ?_ ?_); (focus rfl); (focus rfl); (focus (rw [List.length_append, List.length_append]; simp only [List.length_cons, List.length_nil]; omega))))
      go_ret2
      have HPK2 : pck l = 71 :: 1 :: (VT ++ (SI ++ BX)) := by rw [HPK.out]; simp
      exact ⟨by rw [HPK2]; rfl, HW.out.trans (h10.below.mono HW.out.size)⟩
end Go.Proofs.YtfncldaodbfakaaGreat.Z
