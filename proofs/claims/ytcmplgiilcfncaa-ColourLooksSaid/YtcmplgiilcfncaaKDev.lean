/-
  Device: the identity space.
-/
import Derived.Test.YtcmplgiilcfncaaKApi
namespace Go.Proofs.Ytcmplgiilcfncaa.K
open Go.RowKit
variable {W w w' : World} {L : List (Nat × Obj)}

def I9 : M9 := ⟨4096, 0, 0, 0, 4096, 0, 0, 0, 4096⟩
def devP : Ps := ⟨[0, 65535], [0, 65535], [0, 65535], I9, I9⟩
def O9 : M9 := ⟨0, 0, 0, 0, 0, 0, 0, 0, 0⟩
abbrev sz : Sp := ⟨.slice none 0 0, .slice none 0 0, .slice none 0 0, O9, O9⟩
instance (c : List Int) : Decidable (Asc c) := decidable_of_iff (∀ i, i < c.length - 1 → cg c i ≤ cg c (i + 1)) ⟨fun h i hi => h i (by omega), fun h i hi => h i (by omega)⟩
theorem cv_two : Cv [0, 65535] := (cv_iff _).2 ⟨(vc_iff _).2 (by decide), by decide, by decide, by decide⟩
instance (f t : M9) (i k : Nat) : Decidable (OkE f t i k) := by unfold OkE; infer_instance
instance (f t : M9) : Decidable (Und f t) := by unfold Und; infer_instance
theorem devP_vd : Vd devP := ⟨⟨cv_two, cv_two, cv_two, by unfold EnM En; decide, by unfold EnM En; decide⟩, by decide⟩
theorem Cm.past {v : Value} {g : Nat} {cs : Array Value} (h : Cm w v [0, 65535]) (hg : w.heap[g]? = some (so sz)) : Cm (w.setRow g cs) v [0, 65535] := by
  obtain ⟨po, cap, rfl, h1, h2, h3⟩ := h
  refine ⟨po, cap, rfl, h1, h2, fun hp => ?_⟩
  obtain ⟨b, off, rfl, hr⟩ := h3 hp
  have hne : b ≠ g := by
    intro he
    subst he
    have r1 := hr.at' 1 (by decide)
    rw [cell_of_row w b (off + 1) _ _ (0, 0) hg] at r1
    have := Array.mem_of_getElem? r1
    simp [cg, O9] at this
  refine ⟨b, off, rfl, by simpa [World.setRow] using hr.lt, fun i hi => ?_⟩
  rw [cell_setRow_other w g cs _ hne]
  exact hr.at' i hi
theorem line_two (V : World) : Calls Try.prog 19 #[.int .i64 2] V (GotC [0, 65535] V) := by
  have h := line_any 2 V
  have e : lineL 2 = [0, 65535] := by decide
  rw [e] at h; exact h
set_option maxRecDepth 100000 in
set_option maxHeartbeats 8000000 in
theorem dev_any (w : World) : Calls Try.prog 9 #[] w fun e w' => ∃ s, e = .returned s.v ∧ Rep w' s devP ∧ Below w.heap.size w w' := by
  go_enter Try.func9, Try.ntmps9
  go_upto_region 2 with fail
  have h5 := ((St.start w).alloc (.cells #[.slice none 0 0, .slice none 0 0, .slice none 0 0, .int .i64 0, .int .i64 0, .int .i64 0, .int .i64 0, .int .i64 0, .int .i64 0, .int .i64 0, .int .i64 0, .int .i64 0, .int .i64 0, .int .i64 0, .int .i64 0, .int .i64 0, .int .i64 0, .int .i64 0, .int .i64 0, .int .i64 0, .int .i64 0] 46)).alloc (.cells #[.int .i64 4096, .int .i64 0, .int .i64 0, .int .i64 0, .int .i64 4096, .int .i64 0, .int .i64 0, .int .i64 0, .int .i64 4096] 44)
  rw [World.size_alloc] at h5
  generalize (w.alloc (.cells #[.slice none 0 0, .slice none 0 0, .slice none 0 0, .int .i64 0, .int .i64 0, .int .i64 0, .int .i64 0, .int .i64 0, .int .i64 0, .int .i64 0, .int .i64 0, .int .i64 0, .int .i64 0, .int .i64 0, .int .i64 0, .int .i64 0, .int .i64 0, .int .i64 0, .int .i64 0, .int .i64 0, .int .i64 0] 46)).alloc (.cells #[.int .i64 4096, .int .i64 0, .int .i64 0, .int .i64 0, .int .i64 4096, .int .i64 0, .int .i64 0, .int .i64 0, .int .i64 4096] 44) = w2 at h5 ⊢
  generalize hg : w.heap.size = g at h5 ⊢
  have hgw : g < g + 1 := Nat.lt_succ_self g
  generalize g + 1 = h at h5 hgw ⊢
  have h5 : St w [(h, .cells I9.l.toArray 44), (g, so sz)] w2 := h5
  have HG : Hid (w.heap.size = g) := hg
  have HGW := Lib.hid hgw
  have hd := h5.drew
  clear hg
  have HJ : Hid (∀ V, St w [(h, .cells I9.l.toArray 44)] V → St w [(h, .cells I9.l.toArray 44)] V ∧ V.rangeAt h 0 I9.l) := fun V hV => ⟨hV, St.has hV (t := 44) (by simp)⟩
  have HSH : Hid (∀ V, St w [(h, .cells I9.l.toArray 44), (g, so sz)] V → St w [(h, .cells I9.l.toArray 44)] V) := fun V h => h.sub (by intro z hz; simp at hz ⊢; simp [hz])
  have HR : Hid (∀ V cs, St w [(h, .cells I9.l.toArray 44)] V → St w [(h, .cells I9.l.toArray 44)] (V.setRow g cs)) := fun V cs hV => ⟨hV.below.trans ⟨rfl, rfl, rfl, by simp [World.setRow], fun k hk => setRow_other V g k cs (by have := HG.out; omega)⟩, fun x hx => by
    rw [setRow_other V g x.1 cs (by simp at hx; rw [hx]; show h ≠ g; have := HGW.out; omega)]; exact hV.rows x hx⟩
  have HC : Hid (∀ V, St w [(h, .cells I9.l.toArray 44), (g, so sz)] V → Calls Try.prog 19 #[.int .i64 2] V fun e w' => ∃ po n cap, e = .returned (.slice po n cap) ∧ Cm w' (.slice po n cap) [0, 65535] ∧ St w [(h, .cells I9.l.toArray 44), (g, so sz)] w' ∧ Below V.heap.size V w') := fun V hV => (line_two V).mono fun e w' ⟨po, n, cap, h1, h2, h3⟩ => ⟨po, n, cap, h1, h2, hV.later h3, h3⟩
  have hq := HSH.out _ hd
  refine wp_region_held_drew (S := fun V => St w [(h, .cells I9.l.toArray 44)] V ∧ V.rangeAt h 0 I9.l) (by kernel_rfl) ?_ (fun hHeld => ?_)
  · ((refine HJ.out _ ?_; assumption))
  refine wpAnyH_take (i := 4) (oi := { dst := some 7, op := Op.load 44 (Operand.tmp 1), type := 44, pos := "space.go:27", after := #[], guard := none }) rfl (by kernel_rfl) (by kernel_rfl) (by kernel_rfl) (fun _ _ _ h => h) (yieldsIf_load_mid (by kernel_rfl) 44 (.tmp 1) rfl h 0 rfl I9.l _ (fun V hV => hV.2) Try.underlying44 rfl (by kernel_rfl)) (by assumption) ?_
  try simp only [Act.put, List.setIfInBounds_toArray, List.set_cons_zero, List.set_cons_succ]
  refine wpAnyH_take (i := 5) (oi := { dst := some 8, op := Op.load 44 (Operand.tmp 1), type := 44, pos := "space.go:27", after := #[], guard := none }) rfl (by kernel_rfl) (by kernel_rfl) (by kernel_rfl) (fun _ _ _ h => h) (yieldsIf_load_mid (by kernel_rfl) 44 (.tmp 1) rfl h 0 rfl I9.l _ (fun V hV => hV.2) Try.underlying44 rfl (by kernel_rfl)) (by assumption) ?_
  try simp only [Act.put, List.setIfInBounds_toArray, List.set_cons_zero, List.set_cons_succ]
  refine wpAnyH_ready (rs := [0]) (by kernel_rfl) (by simp) (AllReadyH.cons (o := { dst := some 3, op := Op.call { callee := Callee.value (Operand.func 19), args := #[Operand.const (Value.int IntKind.i64 2)], argTypes := #[3] }, type := 42, pos := "space.go:28", after := #[], guard := none }) rfl (fun K hK => ?_) AllReadyH.nil)
  (go_simp; (go_at_call 19; (refine (HC.out _ hd).mono ?_); rintro e w3 ⟨p3, n3, c3, rfl, hc3, k3, b3⟩; have q3 := HSH.out _ k3; have HC3 := Lib.hid hc3; clear hc3))
  refine hK.out _ _ ?_ (fun hHeld => ?_)
  · ((refine HJ.out _ ?_; assumption))
  clear hK K
  try simp only [Act.put, List.setIfInBounds_toArray, List.set_cons_zero, List.set_cons_succ]
  refine wpAnyH_ready (rs := [1]) (by kernel_rfl) (by simp) (AllReadyH.cons (o := { dst := some 4, op := Op.call { callee := Callee.value (Operand.func 19), args := #[Operand.const (Value.int IntKind.i64 2)], argTypes := #[3] }, type := 42, pos := "space.go:28", after := #[{ on := 0, ground := Ground.chain }], guard := none }) rfl (fun K hK => ?_) AllReadyH.nil)
  (go_simp; (go_at_call 19; (refine (HC.out _ k3).mono ?_); rintro e w4 ⟨p4, n4, c4, rfl, hc4, k4, b4⟩; have q4 := HSH.out _ k4; have HC4 := Lib.hid hc4; have HC34 := Lib.hid (HC3.out.later b4); clear hc4))
  refine hK.out _ _ ?_ (fun hHeld => ?_)
  · ((refine HJ.out _ ?_; assumption))
  clear hK K
  try simp only [Act.put, List.setIfInBounds_toArray, List.set_cons_zero, List.set_cons_succ]
  refine wpAnyH_ready (rs := [2]) (by kernel_rfl) (by simp) (AllReadyH.cons (o := { dst := some 5, op := Op.call { callee := Callee.value (Operand.func 19), args := #[Operand.const (Value.int IntKind.i64 2)], argTypes := #[3] }, type := 42, pos := "space.go:28", after := #[{ on := 1, ground := Ground.chain }], guard := none }) rfl (fun K hK => ?_) AllReadyH.nil)
  (go_simp; (go_at_call 19; (refine (HC.out _ k4).mono ?_); rintro e w5 ⟨p5, n5, c5, rfl, hc5, k5, b5⟩; have q5 := HSH.out _ k5; have HC5 := Lib.hid hc5; have HC35 := Lib.hid (HC34.out.later b5); have HC45 := Lib.hid (HC4.out.later b5); clear hc5))
  refine hK.out _ _ ?_ (fun hHeld => ?_)
  · ((refine HJ.out _ ?_; assumption))
  clear hK K
  try simp only [Act.put, List.setIfInBounds_toArray, List.set_cons_zero, List.set_cons_succ]
  refine wpAnyH_ready (rs := [3]) (by kernel_rfl) (by simp) (AllReadyH.cons (o := { dst := some 6, op := Op.build 43 #[(0, Operand.tmp 3), (1, Operand.tmp 4), (2, Operand.tmp 5)], type := 43, pos := "space.go:27", after := #[{ on := 0, ground := Ground.data }, { on := 1, ground := Ground.data }, { on := 2, ground := Ground.data }], guard := none }) rfl (fun K hK => ?_) AllReadyH.nil)
  (go_simp)
  refine hK.out _ _ ?_ (fun hHeld => ?_)
  · ((refine HJ.out _ ?_; assumption))
  clear hK K
  try simp only [Act.put, List.setIfInBounds_toArray, List.set_cons_zero, List.set_cons_succ]
  refine wpAnyH_ready (rs := [6]) (by kernel_rfl) (by simp) (AllReadyH.cons (o := { dst := some 9, op := Op.build 46 #[(0, Operand.tmp 6), (1, Operand.tmp 7), (2, Operand.tmp 8)], type := 46, pos := "space.go:27", after := #[{ on := 3, ground := Ground.data }, { on := 4, ground := Ground.data }, { on := 5, ground := Ground.data }], guard := none }) rfl (fun K hK => ?_) AllReadyH.nil)
  (go_simp)
  refine hK.out _ _ ?_ (fun hHeld => ?_)
  · ((refine HJ.out _ ?_; assumption))
  clear hK K
  try simp only [Act.put, List.setIfInBounds_toArray, List.set_cons_zero, List.set_cons_succ]
  have hrow := k5.row (b := g) (o := so sz) (by simp)
  have hrep : Rep w5 ⟨.slice p3 n3 c3, .slice p4 n4 c4, .slice p5 n5 c5, I9, I9⟩ devP := ⟨HC35.out, HC45.out, HC5.out, rfl, rfl⟩
  refine wpAnyH_ready (rs := [7]) (by kernel_rfl) (by simp) (AllReadyH.cons (o := { dst := none, op := Op.store 46 (Operand.tmp 0) (Operand.tmp 9), type := 0, pos := "space.go:27", after := #[{ on := 6, ground := Ground.data }, { on := 2, ground := Ground.chain }, { on := 0, ground := Ground.phase }, { on := 1, ground := Ground.phase }, { on := 2, ground := Ground.phase }, { on := 3, ground := Ground.phase }, { on := 4, ground := Ground.phase }, { on := 5, ground := Ground.phase }, { on := 6, ground := Ground.phase }], guard := none }) rfl (fun K hK => ?_) AllReadyH.nil)
  refine wp_store_row 46 _ _ rfl g _ rfl rfl 46 _ hrow (by kernel_rfl) rfl (Rep.one hrep) ?_
  refine hK.out _ _ ?_ (fun hHeld => ?_)
  · ((refine HJ.out _ ?_; exact HR.out _ _ q5))
  clear hK K
  try simp only [Act.put]
  refine wpAnyH_done (by kernel_rfl) ?_ _
  have hz := setRow_heap w5 g _ (Sp.l ⟨.slice p3 n3 c3, .slice p4 n4 c4, .slice p5 n5 c5, I9, I9⟩).toArray _ (0, 0) hrow
  have hrep2 : Rep (w5.setRow g (Sp.l ⟨.slice p3 n3 c3, .slice p4 n4 c4, .slice p5 n5 c5, I9, I9⟩).toArray) ⟨.slice p3 n3 c3, .slice p4 n4 c4, .slice p5 n5 c5, I9, I9⟩ devP := ⟨Cm.past hrep.a hrow, Cm.past hrep.b hrow, Cm.past hrep.c hrow, rfl, rfl⟩
  have hB : Below w.heap.size w (w5.setRow g (Sp.l ⟨.slice p3 n3 c3, .slice p4 n4 c4, .slice p5 n5 c5, I9, I9⟩).toArray) := (HR.out _ _ q5).below
  clear hq
  go_wp2_with fail
  exact bodyPost_ret (v := Sp.v ⟨.slice p3 n3 c3, .slice p4 n4 c4, .slice p5 n5 c5, I9, I9⟩) (results_cell_row rfl _ _ g _ (Sp.l ⟨.slice p3 n3 c3, .slice p4 n4 c4, .slice p5 n5 c5, I9, I9⟩).toArray (0, 0) _ rfl hz Try.underlying46 rfl (by kernel_rfl)) rfl ⟨⟨.slice p3 n3 c3, .slice p4 n4 c4, .slice p5 n5 c5, I9, I9⟩, rfl, hrep2, hB⟩
end Go.Proofs.Ytcmplgiilcfncaa.K
