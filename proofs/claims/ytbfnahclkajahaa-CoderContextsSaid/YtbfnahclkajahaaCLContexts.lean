/-
  CoderContexts: exchanging contexts one to one does not change the bytes written, and contexts count modulo 256 (at most 400 bits).
-/
import Derived.Test.YtbfnahclkajahaaCLaw
import Derived.Test.YtbfnahclkajahaaCLoop
namespace Go.Proofs.Ytbfnahclkajahaa.C.CLContexts
open Go.ChangeShapes Go.WideShapes Go.ChangeAt Go.RowKit Go.Shelf
open Go.ChangeMaps (open_string)
set_option maxRecDepth 100000

/-- where a context goes -/
def sg (by2 add : Int) (k : Nat) : Nat := (((k : Int) * (2 * by2 + 1) + add) % 256).toNat
theorem wrap_mod (z : Int) : wrap64 z % 256 = z % 256 := by unfold wrap64; omega
theorem ctx_sg (x by2 add : Int) : ctx (wrap64 (wrap64 (x * wrap64 (wrap64 (2 * by2) + 1)) + add)) = sg by2 add (ctx x) := by
  unfold ctx sg
  congr 1
  have h1 : wrap64 (wrap64 (2 * by2) + 1) % 256 = (2 * by2 + 1) % 256 := by rw [wrap_mod, Int.add_emod, wrap_mod, ← Int.add_emod]
  have h2 : (((x % 256).toNat : Nat) : Int) = x % 256 := by omega
  rw [wrap_mod, Int.add_emod, wrap_mod, Int.mul_emod, h1]
  conv => rhs; rw [h2, Int.add_emod, Int.mul_emod, Int.emod_emod]
theorem bitn_add (y add : Int) : bitn (wrap64 (y + wrap64 (2 * add))) = bitn y := by unfold bitn wrap64; omega
theorem odd_inv : ∀ t : Fin 128, ((2 * t.val + 1) * ((2 * t.val + 1) ^ 63 % 256)) % 256 = 1 := by decide +kernel
theorem sg_inj (by2 add : Int) {i j : Nat} (hi : i < 256) (hj : j < 256) (h : sg by2 add i = sg by2 add j) : i = j := by
  have h1 : ((i : Int) * (2 * by2 + 1) + add) % 256 = ((j : Int) * (2 * by2 + 1) + add) % 256 := by unfold sg at h; omega
  obtain ⟨t, ht⟩ : ∃ t : Fin 128, (2 * by2 + 1) % 256 = 2 * (t.val : Int) + 1 := ⟨⟨(by2 % 128).toNat, by omega⟩, by show (2 * by2 + 1) % 256 = 2 * (((by2 % 128).toNat : Nat) : Int) + 1; omega⟩
  have hinv := odd_inv t
  obtain ⟨v, hv⟩ : ∃ v : Nat, v = (2 * t.val + 1) ^ 63 % 256 := ⟨_, rfl⟩
  rw [← hv] at hinv
  have h2 : ((i : Int) * (2 * by2 + 1)) % 256 = ((j : Int) * (2 * by2 + 1)) % 256 := by omega
  have hv2 : (v : Int) % 256 = v := by have : v < 256 := by rw [hv]; exact Nat.mod_lt _ (by omega)
                                       omega
  have hm : ((2 * by2 + 1) * (v : Int)) % 256 = 1 := by
    rw [Int.mul_emod, ht, hv2]
    have h3 : (((2 * t.val + 1) * v % 256 : Nat) : Int) = 1 := by rw [hinv]; rfl
    push_cast at h3
    exact h3
  have key : ∀ q : Nat, q < 256 → ((q : Int) * (2 * by2 + 1) % 256 * v) % 256 = q := by
    intro q hq
    rw [Int.mul_emod ((q : Int) * (2 * by2 + 1) % 256) v 256, Int.emod_emod, ← Int.mul_emod, Int.mul_assoc, Int.mul_emod (q : Int) _ 256, hm, Int.mul_one, Int.emod_emod]
    omega
  have := key i hi
  rw [h2, key j hj] at this
  omega
/-- two coders that differ by where the contexts lie -/
structure Rel (σ : Nat → Nat) (c d : Cd) : Prop where
  lo : d.lo = c.lo
  hi : d.hi = c.hi
  p : ∀ k, k < 256 → d.p (σ k) = c.p k
theorem rel_step {σ : Nat → Nat} (hσ : ∀ i j, i < 256 → j < 256 → σ i = σ j → i = j) {c d : Cd} (h : Rel σ c d) (k b : Nat) (hk : k < 256) : out d (σ k) b = out c k b ∧ Rel σ (stp c k b) (stp d (σ k) b) := by
  have hm : mid d (σ k) = mid c k := by unfold mid; rw [h.lo, h.hi, h.p k hk]
  have hl : nl d (σ k) b = nl c k b := by unfold nl; rw [hm, h.lo]
  have hh : nh d (σ k) b = nh c k b := by unfold nh; rw [hm, h.hi]
  refine ⟨by unfold out; rw [hl, hh], ⟨?_, ?_, fun j hj => ?_⟩⟩
  · show (shf 4 (nl d (σ k) b) (nh d (σ k) b)).2.1 = _; rw [hl, hh]; rfl
  · show (shf 4 (nl d (σ k) b) (nh d (σ k) b)).2.2 = _; rw [hl, hh]; rfl
  · show upd d.p (σ k) (lrn (d.p (σ k)) b) (σ j) = upd c.p k (lrn (c.p k) b) j
    unfold upd
    by_cases e : j = k
    · subst e; rw [if_pos rfl, if_pos rfl, h.p j hj]
    · rw [if_neg e, if_neg (fun e2 => e (hσ j k hj hk e2)), h.p j hj]
theorem rel_ops {σ : Nat → Nat} (hσ : ∀ i j, i < 256 → j < 256 → σ i = σ j → i = j) (f g : Nat → Int × Int) (k : Nat) (h : ∀ i, i < k → ctx (g i).1 = σ (ctx (f i).1) ∧ bitn (g i).2 = bitn (f i).2) :
    wt c0 (ops g k) = wt c0 (ops f k) ∧ Rel σ (fin c0 (ops f k)) (fin c0 (ops g k)) := by
  induction k with
  | zero => exact ⟨rfl, rfl, rfl, fun _ _ => rfl⟩
  | succ k ih =>
    have h1 := ih (fun i hi => h i (by omega))
    have h2 := h k (by omega)
    have h3 := rel_step hσ h1.2 (ctx (f k).1) (bitn (f k).2) (ctx_lt _)
    rw [ops_succ, ops_succ, wt_snoc, wt_snoc, fin_snoc, fin_snoc, h2.1, h2.2, h1.1, h3.1]
    exact ⟨rfl, h3.2⟩
/-- the second writer's bits -/
def gf (by2 add : Int) (f : Nat → Int × Int) : Nat → Int × Int := fun i => (wrap64 (wrap64 ((f i).1 * wrap64 (wrap64 (2 * by2) + 1)) + add), wrap64 ((f i).2 + wrap64 (2 * add)))
theorem same_bytes (by2 add : Int) (f : Nat → Int × Int) (k : Nat) : yb (gf by2 add f) k = yb f k := by
  have h := rel_ops (σ := sg by2 add) (fun i j hi hj e => sg_inj by2 add hi hj e) f (gf by2 add f) k (fun i _ => ⟨ctx_sg _ _ _, bitn_add _ _⟩)
  unfold yb byts
  rw [h.1, h.2.lo]

set_option maxHeartbeats 8000000 in
set_option maxRecDepth 100000 in
theorem walk (po : Option Addr) (n c : Nat) (f : Nat → Int × Int) (add : Int) (by2 : Int) (w : World) (_hn : n ≤ 9223372036854775807) (hI : ∀ i, i < n → BitAt w po i (f i).1 (f i).2) : Calls Try.prog 10 #[.slice po n c, .int .i64 add, .int .i64 by2] w fun e w' => e = .returned (.bool true) ∧ Below w.heap.size w w' := by
  have h0 := HS.start w
  have HI := Lib.hid hI
  clear hI
  go_enter Try.func10, Try.ntmps10
  go_wp2_with (first
    | (go_at_call 13; (with_reducible refine (h0.call (sanity_any _)).mono ?_); rintro e w1 ⟨rfl, h1⟩)
    | (go_at_call 19; (with_reducible refine (newW_any _ h2).mono ?_); rintro e w3 ⟨b2, rfl, h3⟩)
    | (go_at_call 19; (with_reducible refine (newW_any _ h1).mono ?_); rintro e w2 ⟨b, rfl, h2⟩))
  have H3 : Hid (SF wob wob w [] f (gf by2 add f) b 0 b2 0 w3) := Lib.hid (SF.new h3).swap
  clear h0 h1 h2 h3
  go_loopw [10] (fun i V => ∃ k : Nat, k ≤ 400 ∧ i = .int .i64 (k : Int) ∧ Hid (SF wob wob w [] f (gf by2 add f) b k b2 k V)) (fun i _ => 400 - (intOf i).toNat)
  case atStart => exact ⟨0, by omega, rfl, H3⟩
  case round =>
    obtain ⟨k, hk, rfl, HT⟩ := hrel
    clear H3
    by_cases h1 : k < n
    · by_cases h2 : k < 400
      · obtain ⟨bl, off, rfl, hbi⟩ := (HI.out k h1).at
        have hfk : f k = ((f k).1, (f k).2) := rfl
        have hgk : gf by2 add f k = (wrap64 (wrap64 ((f k).1 * wrap64 (wrap64 (2 * by2) + 1)) + add), wrap64 ((f k).2 + wrap64 (2 * add))) := rfl
        have HBI := Lib.hid hbi
        have HFK := Lib.hid hfk
        have HGK := Lib.hid hgk
        clear hbi hfk hgk
        generalize (f k).1 = x at *
        generalize (f k).2 = y at *
        go_upto_region 9 with fail
        have hd := HT.out.drew
        obtain ⟨hcx, hcy⟩ := HBI.out _ hd.below
        go_still_tail 11, (by kernel_rfl)
        change wpList _ _ _ _ _ wr.drew
        have HD := Lib.hid hd
        clear hd
        generalize wr.drew = w4 at *
        go_upto_region 10 with (go_at_call 21; refine (SF.bit HFK.out (by omega) HD.out).mono ?_; rintro e w5 ⟨rfl, h5⟩; have H5 := Lib.hid h5; clear h5)
        clear hcx hcy
        have hd := H5.out.drew
        obtain ⟨hcx, hcy⟩ := HBI.out _ hd.below
        go_still_tail 20, (by kernel_rfl)
        change wpList _ _ _ _ _ w5.drew
        have HD2 := Lib.hid hd
        clear hd
        generalize w5.drew = w6 at *
        go_wp2_with (go_at_call 21; refine (SF.bit ?_ (by omega) HD2.out.swap).mono ?_; (focus first | exact HGK.out | (trace_state; sorry)); rintro e w7 ⟨rfl, h7⟩; have H7 := Lib.hid h7.swap; clear h7)
        go_roundw
        case rel => exact ⟨k + 1, by omega, by go_num, H7⟩
        case measure => simp [intOf]; omega
      · have HQ : Hid (yb (gf by2 add f) k = yb f k) := same_bytes by2 add f k
        have hq : ((str (yb f k)).toList == (str (yb f k)).toList) = true := beq_self_eq_true _
        have HBY : Hid (∀ V, SF wob wob w [] f (gf by2 add f) b k b2 k V → Calls Try.prog 23 #[.pointer (some ⟨b, 0, none⟩)] V fun e w' => e = .returned (.string (str (yb f k))) ∧ SF wob wob w [] f (gf by2 add f) b k b2 k w') := fun V hV => hV.bytes (by omega)
        have HBZ : Hid (∀ V, SF wob wob w [] f (gf by2 add f) b k b2 k V → Calls Try.prog 23 #[.pointer (some ⟨b2, 0, none⟩)] V fun e w' => e = .returned (.string (str (yb f k))) ∧ SF wob wob w [] f (gf by2 add f) b k b2 k w') := fun V hV => (hV.swap.bytes (by omega)).mono fun e w' ⟨h1, h2⟩ => ⟨by rw [h1, HQ.out], h2.swap⟩
        generalize str (yb f k) = z at *
        go_wp2_with (first
          | (go_at_call 23; (with_reducible refine (HBZ.out _ H8.out).mono ?_); rintro e w9 ⟨rfl, h9⟩; have H9 := Lib.hid h9; clear h9)
          | (go_at_call 23; (with_reducible refine (HBY.out _ HT.out).mono ?_); rintro e w8 ⟨rfl, h8⟩; have H8 := Lib.hid h8; clear h8))
        go_ret
        exact ⟨rfl, H9.out.below⟩
    · have HQ : Hid (yb (gf by2 add f) k = yb f k) := same_bytes by2 add f k
      have hq : ((str (yb f k)).toList == (str (yb f k)).toList) = true := beq_self_eq_true _
      have HBY : Hid (∀ V, SF wob wob w [] f (gf by2 add f) b k b2 k V → Calls Try.prog 23 #[.pointer (some ⟨b, 0, none⟩)] V fun e w' => e = .returned (.string (str (yb f k))) ∧ SF wob wob w [] f (gf by2 add f) b k b2 k w') := fun V hV => hV.bytes (by omega)
      have HBZ : Hid (∀ V, SF wob wob w [] f (gf by2 add f) b k b2 k V → Calls Try.prog 23 #[.pointer (some ⟨b2, 0, none⟩)] V fun e w' => e = .returned (.string (str (yb f k))) ∧ SF wob wob w [] f (gf by2 add f) b k b2 k w') := fun V hV => (hV.swap.bytes (by omega)).mono fun e w' ⟨h1, h2⟩ => ⟨by rw [h1, HQ.out], h2.swap⟩
      generalize str (yb f k) = z at *
      go_wp2_with (first
        | (go_at_call 23; (with_reducible refine (HBZ.out _ H8.out).mono ?_); rintro e w9 ⟨rfl, h9⟩; have H9 := Lib.hid h9; clear h9)
        | (go_at_call 23; (with_reducible refine (HBY.out _ HT.out).mono ?_); rintro e w8 ⟨rfl, h8⟩; have H8 := Lib.hid h8; clear h8))
      go_ret
      exact ⟨rfl, H9.out.below⟩
theorem lifted (os : Os) (started : os.Started) (H : Type) (enc : TypeId × Value → H) :
    ReturnsInHanded {} Try.checked os 10 .any (Rows.coderContextsSpec.pre6 enc Try.prog Try.f10 Rows.coderContextsRow.domain false) (Rows.coderContextsSpec.post enc Try.prog Try.f10 false true false false) := by
  refine returnsInHanded_of_change_sized (C := Try.checked) own started (by kernel_rfl) Try.func10
    (ChangeSpec.witness6 (enc := enc) (C := Try.checked) false ⟨#[], #[.slice none 0 0, .int .i64 0, .int .i64 0], []⟩ 8 (by kernel_rfl) (by kernel_rfl) (by kernel_rfl) (by kernel_rfl)) ?_
  intro W base args ds gs before hval0 hW _ _ _
  have hval : ∀ (j : Nat) t v, Try.f10.params[j]? = some t → args[j]? = some v → Value.okWide Try.prog W .any base t v := hval0
  have hW' := hW
  obtain ⟨p, q, hA0, hV, rfl, hfz, hnd⟩ := hW
  have hA : DataW.TrodAll enc Try.prog W 0 (fun _ => true) true Try.f10.params.toList args.toList ds p := hA0
  rw [Try.params10] at hA hval
  obtain ⟨v0, v1, v2, d0, d1, d2, p0, p1, p2, rfl, rfl, rfl, h0, h1, h2⟩ := trodAll_three hA
  obtain ⟨rfl, rfl⟩ := trodVars_none hV
  obtain ⟨po, n, c, f, rfl, hn, hI⟩ := opened_bits (hval 0 36 v0 rfl rfl) h0
  obtain ⟨add, rfl, rfl, rfl, _⟩ := open_int Try.underlying3 (hval 1 3 v1 rfl rfl) h1
  obtain ⟨by2, rfl, rfl, rfl, _⟩ := open_int Try.underlying3 (hval 2 3 v2 rfl rfl) h2
  refine (walk po n c f add by2 W hn hI).mono fun e W' ⟨he, hb⟩ => ?_
  subst he
  exact ⟨_, rfl, law_post hW' rfl (by kernel_rfl) rfl (by intro t ht; rw [Try.params10] at ht; simp at ht; rcases ht with rfl | rfl <;> exact ⟨by kernel_rfl, of_decide_eq_true (by kernel_rfl)⟩) hb⟩

theorem holds : Rows.CoderContextsSaid :=
  OpenClaim.holds_of_wide 10 Try.f10 rfl rfl rfl rfl rfl rfl rfl ⟨rfl, rfl, rfl, rfl, rfl⟩ rfl rfl rfl rfl rfl (by kernel_rfl) Try.func10 (by kernel_rfl)
    (of_decide_eq_true (by kernel_rfl)) (by unfold Func.isWrapper; first | (rw [if_pos (by decide +kernel)]; kernel_rfl) | (rw [if_neg (by decide +kernel)]; exact ⟨rfl, rfl⟩))
    (fun os started H enc _ => lifted os started H enc)
end Go.Proofs.Ytbfnahclkajahaa.C.CLContexts
