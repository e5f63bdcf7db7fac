/-
  Narrow: the nearest pixel.
-/
import Derived.Test.YtcmplgiilcfncaaKClip
namespace Go.Proofs.Ytcmplgiilcfncaa.K
open Go.RowKit
variable {W w w' : World} {L : List (Nat × Obj)}

/-- a pixel as a value -/
abbrev p4 (r g b a : Int) : Value := .agg #[.int .u8 r, .int .u8 g, .int .u8 b, .int .u8 a]
abbrev p4o (r g b a : Int) : Obj := .cells #[.int .u8 r, .int .u8 g, .int .u8 b, .int .u8 a] 35
def cl4 (r g b a : Int) : Value := if a = 0 then p4 0 0 0 0 else p4 r g b a
set_option maxHeartbeats 1000000 in
theorem clean_any (r g b a : Int) (w : World) : Calls Try.prog 28 #[p4 r g b a] w fun e w' => e = .returned (cl4 r g b a) ∧ Below w.heap.size w w' := by
  by_cases ha : a = 0
  · subst ha
    have HE : cl4 r g b 0 = p4 0 0 0 0 := rfl
    rw [HE]
    go_enter Try.func28, Try.ntmps28
    go_wp2
    all_goals exact bodyPost_ret (v := p4 0 0 0 0) (by simp_all [results, Try.results28, go_sem]) rfl ⟨rfl, below1.alloc (by simp) _⟩
  · have HE : cl4 r g b a = p4 r g b a := if_neg ha
    rw [HE]
    go_enter Try.func28, Try.ntmps28
    go_wp2
    all_goals exact bodyPost_ret (v := p4 r g b a) (by simp_all [results, Try.results28, go_sem]) rfl ⟨rfl, below1.alloc (by simp) _⟩
/-- a channel of 8 bits -/
def nar (v : Int) : Int := (clp 0 65535 v + 128) / 257
theorem nar_in (v : Int) : 0 ≤ nar v ∧ nar v ≤ 255 := by unfold nar clp; omega
theorem nar1_any (k v : Int) (w : World) : Calls Try.prog 27 (#[.int .i64 k, .int .i64 (clp 0 65535 v)] ++ #[]) w fun e w' => e = .returned (.int .i64 (nar v)) ∧ Below w.heap.size w w' := by
  have h0 : 0 ≤ clp 0 65535 v ∧ clp 0 65535 v ≤ 65535 := by unfold clp; omega
  have HE : Hid (nar v = (clp 0 65535 v + 128) / 257) := rfl
  generalize nar v = y at HE ⊢
  generalize clp 0 65535 v = x at *
  have h1 : IntKind.i64.wrap (x + 128) = x + 128 := wr_in (by omega)
  have h2 : wrap64 (x + 128) = x + 128 := wrap_in (by omega)
  have h3 : (x + 128).tdiv 257 = (x + 128) / 257 := Int.tdiv_eq_ediv_of_nonneg (by omega)
  have h4 : IntKind.i64.wrap ((x + 128) / 257) = (x + 128) / 257 := wr_in (by omega)
  have h5 : wrap64 ((x + 128) / 257) = (x + 128) / 257 := wrap_in (by omega)
  have key : Calls Try.prog 27 #[.int .i64 k, .int .i64 x] w fun e w' => e = .returned (.int .i64 y) ∧ Below w.heap.size w w' := by
    rw [HE.out]
    clear HE
    go_enter Try.func27, Try.ntmps27
    go_wp2
    go_ret
    exact ⟨rfl, Below.refl _ _⟩
  exact key
theorem u8_in {x : Int} (h : 0 ≤ x ∧ x ≤ 255) : IntKind.u8.wrap x = x := by show x % 256 = x; omega
set_option maxRecDepth 100000 in
set_option maxHeartbeats 4000000 in
theorem narrow_any (c0 c1 c2 al : Int) (w : World) : Calls Try.prog 11 #[ag c0 c1 c2, .int .i64 al] w fun e w' => e = .returned (cl4 (nar c0) (nar c1) (nar c2) (clp 0 255 al)) ∧ Below w.heap.size w w' := by
  have HG : Hid (∀ V, Calls Try.prog 26 #[ag c0 c1 c2] V fun e w' => e = .returned (ag (clp 0 65535 c0) (clp 0 65535 c1) (clp 0 65535 c2)) ∧ Below V.heap.size V w') := fun V => clampG_any c0 c1 c2 V
  have HM : Hid (∀ V, Calls Try.prog 24 #[ag (clp 0 65535 c0) (clp 0 65535 c1) (clp 0 65535 c2), .func (.func 27) #[] #[]] V fun e w' => e = .returned (ag (nar c0) (nar c1) (nar c2)) ∧ Below V.heap.size V w') := fun V =>
    map_any 27 #[] _ _ _ _ _ _ V (enters_of Try.func27 (by kernel_rfl) rfl) (fun V _ => nar1_any 0 c0 V) (fun V _ => nar1_any 1 c1 V) (fun V _ => nar1_any 2 c2 V)
  have i0 := nar_in c0; have i1 := nar_in c1; have i2 := nar_in c2
  have ia : 0 ≤ clp 0 255 al ∧ clp 0 255 al ≤ 255 := by unfold clp; omega
  generalize clp 0 65535 c0 = k0 at *
  generalize clp 0 65535 c1 = k1 at *
  generalize clp 0 65535 c2 = k2 at *
  generalize nar c0 = n0 at *
  generalize nar c1 = n1 at *
  generalize nar c2 = n2 at *
  have e0 := u8_in i0; have e1 := u8_in i1; have e2 := u8_in i2; have ea := u8_in ia
  unfold clp at ia ea ⊢
  have HK : Hid (∀ V, Calls Try.prog 28 #[p4 n0 n1 n2 (min (max al 0) 255)] V fun e w' => e = .returned (cl4 n0 n1 n2 (min (max al 0) 255)) ∧ Below V.heap.size V w') := fun V => clean_any _ _ _ _ V
  generalize hcl : cl4 n0 n1 n2 (min (max al 0) 255) = d at HK ⊢
  obtain ⟨d0, d1, d2, d3, rfl⟩ : ∃ d0 d1 d2 d3, d = p4 d0 d1 d2 d3 := by
    unfold cl4 at hcl; split at hcl <;> exact ⟨_, _, _, _, hcl.symm⟩
  clear hcl
  go_enter Try.func11, Try.ntmps11
  go_upto_region 1 with fail
  have hs := ((St.start w).alloc (ac c0 c1 c2)).alloc (p4o 0 0 0 0)
  simp only [World.size_alloc] at hs
  generalize (w.alloc (ac c0 c1 c2)).alloc (p4o 0 0 0 0) = w1 at hs ⊢
  generalize hb : w.heap.size = b at hs ⊢
  obtain ⟨l0, l1, l2⟩ := hs.col (b := b) (x := c0) (y := c1) (z := c2) (t := 25) (by simp)
  have HS := Lib.hid hs
  clear hs
  go_upto_region 2 with (first
    | (go_at_call 26; (refine (HG.out _).mono ?_); rintro e w2 ⟨rfl, h2⟩)
    | (go_at_call 24; (refine (HM.out _).mono ?_); rintro e w3 ⟨rfl, h3⟩))
  have k3 := ((HS.out.later h2).later h3).alloc (ac n0 n1 n2)
  generalize w3.alloc (ac n0 n1 n2) = w4 at k3 ⊢
  generalize w3.heap.size = h at k3 ⊢
  clear l0 l1 l2 h2 h3 HS HG HM
  obtain ⟨l0, l1, l2⟩ := k3.col (b := h) (x := n0) (y := n1) (z := n2) (t := 25) (by simp)
  have HF : Hid (∀ V, Below w4.heap.size w4 V → (V.cell? ⟨b + 1, 0, none⟩ = some (.int .u8 0) ∧ V.cell? ⟨b + 1, 1, none⟩ = some (.int .u8 0) ∧ V.cell? ⟨b + 1, 2, none⟩ = some (.int .u8 0) ∧ V.cell? ⟨b + 1, 3, none⟩ = some (.int .u8 0)) ∧ (V.frozen? ⟨b + 1, 0, none⟩ = false ∧ V.frozen? ⟨b + 1, 1, none⟩ = false ∧ V.frozen? ⟨b + 1, 2, none⟩ = false ∧ V.frozen? ⟨b + 1, 3, none⟩ = false) ∧ Below w.heap.size w V) := fun V hV => by
    have hk := k3.later hV
    have hm : (b + 1, p4o 0 0 0 0) ∈ [(h, ac n0 n1 n2), (b + 1, p4o 0 0 0 0), (b, ac c0 c1 c2)] := by simp
    exact ⟨⟨hk.cell hm 0, hk.cell hm 1, hk.cell hm 2, hk.cell hm 3⟩, ⟨hk.frozen hm 0, hk.frozen hm 1, hk.frozen hm 2, hk.frozen hm 3⟩, hk.below⟩
  clear k3
  go_wp2_with (go_at_call 28; (refine (HK.out _).mono ?_); rintro e w5 ⟨rfl, h5⟩; obtain ⟨⟨m0, m1, m2, m3⟩, ⟨f0, f1, f2, f3⟩, h6⟩ := HF.out _ h5)
  subst hb
  exact bodyPost_ret (v := p4 d0 d1 d2 d3) (by simp [results, Try.results11, go_sem, *]) rfl ⟨rfl, (below_set3 h6 (by omega) _ _ _).setCell (p := ⟨w.heap.size + 1, 3, none⟩) (by simp) _⟩
end Go.Proofs.Ytcmplgiilcfncaa.K
