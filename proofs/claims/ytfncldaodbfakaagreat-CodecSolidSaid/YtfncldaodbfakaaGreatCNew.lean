/-
  NewWriter, nil writers, writeByte, Encode (contracts). Encode (contract).
-/
import Derived.Test.YtfncldaodbfakaaGreatCBitW
namespace Go.Proofs.YtfncldaodbfakaaGreat.C
open Go.RowKit Go.Shelf
set_option maxRecDepth 100000
variable {W w w' : World} {L : List (Nat × Obj)}

theorem wpList_build0 {P : Program} {ops : Array Oper} {rest : List Oper} {o : Oper} {a : Act} {Q : Exit → Act → World → Prop} {w : World} (hg : o.guard = none) (t : TypeId) (ho : o.op = .build t #[]) (v : Value)
    (hl : (Instr.build t #[]).run P w = .ok v w) (h : wpList P ops Q rest (a.put o.dst v) w) : wpList P ops Q (o :: rest) a w :=
  wpList_plain hg fun K hK => by
    unfold Oper.wp execOp
    have hl' : (Instr.build t ((#[] : Array (Nat × Operand)).map fun (i, x) => (i, a.eval x))).run P w = .ok v w := by simpa using hl
    simp only [ho, Sem.run_bind, hl', Result.andThen_ok, Sem.run_pure]
    exact hK _ _ h
theorem built0W (w : World) : (Instr.build 267 #[]).run Tryz.prog w = .ok (.agg (mc (dc c0.p) (iv c0.lo c0.hi [.slice none 0 0]))) w := by kernel_rfl
theorem newW_any (w : World) (h : HS W L w) : Calls Tryz.prog 184 #[] w fun e w' => ∃ b, e = .returned (.pointer (some ⟨b, 0, none⟩)) ∧ HS W ((b, wob c0 (.slice none 0 0)) :: L) w' := by
  have h2 := h.alloc (wob c0 (.slice none 0 0))
  have HB := Lib.hid (fun V => built0W V)
  generalize hz : mc (dc c0.p) (iv c0.lo c0.hi [.slice none 0 0]) = z at *
  go_enter Tryz.func184, Tryz.ntmps184
  go_wp2_with (refine wpList_build0 rfl 267 rfl _ (HB.out _) ?_)
  go_ret
  subst hz
  exact ⟨_, rfl, h2⟩
theorem bitWnil_any (n m : Int) (w : World) : Calls Tryz.prog 210 #[.pointer none, .int .i64 n, .int .i64 m] w fun e w' => e = .returned (.tuple #[]) ∧ Below w.heap.size w w' := by
  go_enter Tryz.func210, Tryz.ntmps210
  go_wp2
  exact bodyPost_ret (results_none rfl _ _ _) rfl ⟨rfl, (Below.refl _ w).alloc (Nat.le_refl _) _⟩
theorem bytesWnil_any (w : World) : Calls Tryz.prog 186 #[.pointer none] w fun e w' => e = .returned (.string ByteArray.empty) ∧ Below w.heap.size w w' := by
  go_enter Tryz.func186, Tryz.ntmps186
  go_wp2
  go_ret
  exact ⟨rfl, Below.refl _ w⟩
theorem ctx_nat {x : Nat} (h : x < 256) : ctx (x : Int) = x := by unfold ctx; omega
theorem bitn_nat {x : Nat} (h : x ≤ 1) : bitn (x : Int) = x := by unfold bitn; omega
/-- the first bits of a byte -/
theorem bops_get (B j : Nat) (hj : j < 8) : (bops B)[j]? = some ((256 + B) / 2 ^ (8 - j), B / 2 ^ (7 - j) % 2) := by
  have : j = 0 ∨ j = 1 ∨ j = 2 ∨ j = 3 ∨ j = 4 ∨ j = 5 ∨ j = 6 ∨ j = 7 := by omega
  rcases this with rfl | rfl | rfl | rfl | rfl | rfl | rfl | rfl <;> simp [bops]
theorem take_next {α : Type} {l : List α} {j : Nat} {x : α} (h : l[j]? = some x) : l.take (j + 1) = l.take j ++ [x] := by rw [List.take_add_one, h]; rfl
theorem bops_len (B : Nat) : (bops B).length = 8 := rfl
/-- a writer's state behind some bits: the bits written so far -/
def WS (W : World) (L : List (Nat × Obj)) (b : Nat) (c : Cd) (bs : List UInt8) (w : World) : Prop := ∃ v l, SL v bs l ∧ HS W ((b, wob c v) :: (l ++ L)) w
theorem bit_ws {b : Nat} {n m : Int} {c : Cd} {bs : List UInt8} {w : World} (ok : Ok c) (h : WS W L b c bs w) (hlen : bs.length ≤ 800000) :
    Calls Tryz.prog 210 #[.pointer (some ⟨b, 0, none⟩), .int .i64 n, .int .i64 m] w fun e w' => e = .returned (.tuple #[]) ∧ WS W L b (stp c (ctx n) (bitn m)) (bs ++ out c (ctx n) (bitn m)) w' := by
  obtain ⟨v, l, hv, h⟩ := h
  exact (bitW_any b n m c v bs l w ok hv h hlen).mono fun e w' ⟨h1, v', l', h2, h3⟩ => ⟨h1, v', l', h2, h3⟩
theorem bytes_ws {b : Nat} {c : Cd} {bs : List UInt8} {w : World} (ok : Ok c) (h : WS W L b c bs w) (hlen : bs.length ≤ 800000) :
    Calls Tryz.prog 186 #[.pointer (some ⟨b, 0, none⟩)] w fun e w' => e = .returned (.string (str (bs ++ be4 c.lo))) ∧ WS W L b c bs w' ∧ Below w.heap.size w w' := by
  obtain ⟨v, l, hv, h⟩ := h
  exact (bytesW_any b c v bs l w ok hv h hlen).mono fun e w' ⟨h1, h2⟩ => ⟨h1, ⟨v, l, hv, h.later h2⟩, h2⟩
theorem WS.hs {b : Nat} {c : Cd} {bs : List UInt8} (h : WS W L b c bs w) : HS W L w := by
  obtain ⟨v, l, _, h⟩ := h
  exact h.tl.right
theorem WS.later {b : Nat} {c : Cd} {bs : List UInt8} (h : WS W L b c bs w) (hb : Below w.heap.size w w') : WS W L b c bs w' := by
  obtain ⟨v, l, hv, h⟩ := h
  exact ⟨v, l, hv, h.later hb⟩
theorem WS.drewN {b : Nat} {c : Cd} {bs : List UInt8} (h : WS W L b c bs w) (n : Nat) : WS W L b c bs (w.drewN n) := h.later (below_drewN n)
theorem WS.drew {b : Nat} {c : Cd} {bs : List UInt8} (h : WS W L b c bs w) : WS W L b c bs w.drew := h.later (Below.refl _ w).drew
theorem newW_ws {w : World} (h : HS W L w) : Calls Tryz.prog 184 #[] w fun e w' => ∃ b, e = .returned (.pointer (some ⟨b, 0, none⟩)) ∧ WS W L b c0 [] w' :=
  (newW_any w h).mono fun _ _ ⟨b, h1, h2⟩ => ⟨b, h1, _, [], SL.nil, h2⟩
set_option maxHeartbeats 2000000 in
theorem writeByte_any (b B : Nat) (c : Cd) (bs : List UInt8) (w : World) (hB : B < 256) (ok : Ok c) (h : WS W L b c bs w) (hlen : bs.length ≤ 700000) :
    Calls Tryz.prog 185 #[.pointer (some ⟨b, 0, none⟩), .int .u8 B] w fun e w' => e = .returned (.tuple #[]) ∧ WS W L b (fin c (bops B)) (bs ++ wt c (bops B)) w' := by
  have H := Lib.hid h
  have HB := Lib.hid hB
  clear h
  go_enter Tryz.func185, Tryz.ntmps185
  go_wp2_with fail
  go_loopw [4, 5, 6] (fun x r _ V => ∃ (j a : Nat), j ≤ 8 ∧ x = .int .i64 (a : Int) ∧ r = .int .i64 (7 - (j : Int)) ∧ Hid (a = (256 + B) / 2 ^ (8 - j) ∧ WS W L b (fin c ((bops B).take j)) (bs ++ wt c ((bops B).take j)) V)) (fun _ r _ _ => (intOf r + 1).toNat)
  case atStart => exact ⟨0, 1, by omega, rfl, rfl, Lib.hid ⟨by have := HB.out; omega, by have := H.out; simpa [fin, wt] using this⟩⟩
  case round =>
    obtain ⟨j, x, hj, rfl, rfl, HT⟩ := hrel
    clear H
    have hx0 := HT.out.1
    have hB2 := HB.out
    have hj8 : j = 0 ∨ j = 1 ∨ j = 2 ∨ j = 3 ∨ j = 4 ∨ j = 5 ∨ j = 6 ∨ j = 7 ∨ j = 8 := by omega
    rcases hj8 with rfl | rfl | rfl | rfl | rfl | rfl | rfl | rfl | rfl
    · obtain ⟨y, hy⟩ : ∃ y, y = B / 128 % 2 := ⟨_, rfl⟩
      have hy1 : y ≤ 1 := by omega
      have hx1 : x < 256 := by omega
      have ha : bits .and .i64 ((B : Int) / 128) 1 = (y : Int) := by rw [and1, hy]; unfold bitn; omega
      have HX : Hid (x = (256 + B) / 256 ∧ y = B / 128 % 2) := Lib.hid ⟨hx0, hy⟩
      have HBT : Hid (∀ V, WS W L b (fin c ((bops B).take 0)) (bs ++ wt c ((bops B).take 0)) V → Calls Tryz.prog 210 #[.pointer (some ⟨b, 0, none⟩), .int .i64 x, .int .i64 y] V fun e w' => e = .returned (.tuple #[]) ∧ WS W L b (fin c ((bops B).take 1)) (bs ++ wt c ((bops B).take 1)) w') := fun V hV => by
        have h := bit_ws (n := (x : Int)) (m := (y : Int)) (fin_ok ok _) hV (by rw [List.length_append]; have := wt_len ok ((bops B).take 0); have h3 : ((bops B).take 0).length ≤ 8 := (by rw [List.length_take, bops_len]; omega); omega)
        rw [ctx_nat hx1, bitn_nat hy1] at h
        have hg := bops_get B 0 (by omega)
        rw [take_next hg, fin_snoc, wt_snoc]
        simp only [Nat.reduceSub, Nat.reducePow]
        rw [← hx0, ← hy, ← List.append_assoc]
        exact h
      clear hx0 hy hB2
      go_wp2_with (first
        | (go_at_call 210; refine (HBT.out _ HT.out.2).mono ?_; rintro e w2 ⟨rfl, h2⟩; have H2 := Lib.hid h2; clear h2)
        | (go_at_call 211; refine (below_any x y _ (by omega) hy1).mono ?_; rintro e w3 ⟨rfl, rfl⟩))
      go_roundw
      case rel => exact ⟨1, 2 * x + y, by omega, rfl, rfl, Lib.hid ⟨by have := HX.out; omega, H2.out⟩⟩
      case measure => simp [intOf]
    · obtain ⟨y, hy⟩ : ∃ y, y = B / 64 % 2 := ⟨_, rfl⟩
      have hy1 : y ≤ 1 := by omega
      have hx1 : x < 256 := by omega
      have ha : bits .and .i64 ((B : Int) / 64) 1 = (y : Int) := by rw [and1, hy]; unfold bitn; omega
      have HX : Hid (x = (256 + B) / 128 ∧ y = B / 64 % 2) := Lib.hid ⟨hx0, hy⟩
      have HBT : Hid (∀ V, WS W L b (fin c ((bops B).take 1)) (bs ++ wt c ((bops B).take 1)) V → Calls Tryz.prog 210 #[.pointer (some ⟨b, 0, none⟩), .int .i64 x, .int .i64 y] V fun e w' => e = .returned (.tuple #[]) ∧ WS W L b (fin c ((bops B).take 2)) (bs ++ wt c ((bops B).take 2)) w') := fun V hV => by
        have h := bit_ws (n := (x : Int)) (m := (y : Int)) (fin_ok ok _) hV (by rw [List.length_append]; have := wt_len ok ((bops B).take 1); have h3 : ((bops B).take 1).length ≤ 8 := (by rw [List.length_take, bops_len]; omega); omega)
        rw [ctx_nat hx1, bitn_nat hy1] at h
        have hg := bops_get B 1 (by omega)
        rw [take_next hg, fin_snoc, wt_snoc]
        simp only [Nat.reduceSub, Nat.reducePow]
        rw [← hx0, ← hy, ← List.append_assoc]
        exact h
      clear hx0 hy hB2
      go_wp2_with (first
        | (go_at_call 210; refine (HBT.out _ HT.out.2).mono ?_; rintro e w2 ⟨rfl, h2⟩; have H2 := Lib.hid h2; clear h2)
        | (go_at_call 211; refine (below_any x y _ (by omega) hy1).mono ?_; rintro e w3 ⟨rfl, rfl⟩))
      go_roundw
      case rel => exact ⟨2, 2 * x + y, by omega, rfl, rfl, Lib.hid ⟨by have := HX.out; omega, H2.out⟩⟩
      case measure => simp [intOf]
    · obtain ⟨y, hy⟩ : ∃ y, y = B / 32 % 2 := ⟨_, rfl⟩
      have hy1 : y ≤ 1 := by omega
      have hx1 : x < 256 := by omega
      have ha : bits .and .i64 ((B : Int) / 32) 1 = (y : Int) := by rw [and1, hy]; unfold bitn; omega
      have HX : Hid (x = (256 + B) / 64 ∧ y = B / 32 % 2) := Lib.hid ⟨hx0, hy⟩
      have HBT : Hid (∀ V, WS W L b (fin c ((bops B).take 2)) (bs ++ wt c ((bops B).take 2)) V → Calls Tryz.prog 210 #[.pointer (some ⟨b, 0, none⟩), .int .i64 x, .int .i64 y] V fun e w' => e = .returned (.tuple #[]) ∧ WS W L b (fin c ((bops B).take 3)) (bs ++ wt c ((bops B).take 3)) w') := fun V hV => by
        have h := bit_ws (n := (x : Int)) (m := (y : Int)) (fin_ok ok _) hV (by rw [List.length_append]; have := wt_len ok ((bops B).take 2); have h3 : ((bops B).take 2).length ≤ 8 := (by rw [List.length_take, bops_len]; omega); omega)
        rw [ctx_nat hx1, bitn_nat hy1] at h
        have hg := bops_get B 2 (by omega)
        rw [take_next hg, fin_snoc, wt_snoc]
        simp only [Nat.reduceSub, Nat.reducePow]
        rw [← hx0, ← hy, ← List.append_assoc]
        exact h
      clear hx0 hy hB2
      go_wp2_with (first
        | (go_at_call 210; refine (HBT.out _ HT.out.2).mono ?_; rintro e w2 ⟨rfl, h2⟩; have H2 := Lib.hid h2; clear h2)
        | (go_at_call 211; refine (below_any x y _ (by omega) hy1).mono ?_; rintro e w3 ⟨rfl, rfl⟩))
      go_roundw
      case rel => exact ⟨3, 2 * x + y, by omega, rfl, rfl, Lib.hid ⟨by have := HX.out; omega, H2.out⟩⟩
      case measure => simp [intOf]
    · obtain ⟨y, hy⟩ : ∃ y, y = B / 16 % 2 := ⟨_, rfl⟩
      have hy1 : y ≤ 1 := by omega
      have hx1 : x < 256 := by omega
      have ha : bits .and .i64 ((B : Int) / 16) 1 = (y : Int) := by rw [and1, hy]; unfold bitn; omega
      have HX : Hid (x = (256 + B) / 32 ∧ y = B / 16 % 2) := Lib.hid ⟨hx0, hy⟩
      have HBT : Hid (∀ V, WS W L b (fin c ((bops B).take 3)) (bs ++ wt c ((bops B).take 3)) V → Calls Tryz.prog 210 #[.pointer (some ⟨b, 0, none⟩), .int .i64 x, .int .i64 y] V fun e w' => e = .returned (.tuple #[]) ∧ WS W L b (fin c ((bops B).take 4)) (bs ++ wt c ((bops B).take 4)) w') := fun V hV => by
        have h := bit_ws (n := (x : Int)) (m := (y : Int)) (fin_ok ok _) hV (by rw [List.length_append]; have := wt_len ok ((bops B).take 3); have h3 : ((bops B).take 3).length ≤ 8 := (by rw [List.length_take, bops_len]; omega); omega)
        rw [ctx_nat hx1, bitn_nat hy1] at h
        have hg := bops_get B 3 (by omega)
        rw [take_next hg, fin_snoc, wt_snoc]
        simp only [Nat.reduceSub, Nat.reducePow]
        rw [← hx0, ← hy, ← List.append_assoc]
        exact h
      clear hx0 hy hB2
      go_wp2_with (first
        | (go_at_call 210; refine (HBT.out _ HT.out.2).mono ?_; rintro e w2 ⟨rfl, h2⟩; have H2 := Lib.hid h2; clear h2)
        | (go_at_call 211; refine (below_any x y _ (by omega) hy1).mono ?_; rintro e w3 ⟨rfl, rfl⟩))
      go_roundw
      case rel => exact ⟨4, 2 * x + y, by omega, rfl, rfl, Lib.hid ⟨by have := HX.out; omega, H2.out⟩⟩
      case measure => simp [intOf]
    · obtain ⟨y, hy⟩ : ∃ y, y = B / 8 % 2 := ⟨_, rfl⟩
      have hy1 : y ≤ 1 := by omega
      have hx1 : x < 256 := by omega
      have ha : bits .and .i64 ((B : Int) / 8) 1 = (y : Int) := by rw [and1, hy]; unfold bitn; omega
      have HX : Hid (x = (256 + B) / 16 ∧ y = B / 8 % 2) := Lib.hid ⟨hx0, hy⟩
      have HBT : Hid (∀ V, WS W L b (fin c ((bops B).take 4)) (bs ++ wt c ((bops B).take 4)) V → Calls Tryz.prog 210 #[.pointer (some ⟨b, 0, none⟩), .int .i64 x, .int .i64 y] V fun e w' => e = .returned (.tuple #[]) ∧ WS W L b (fin c ((bops B).take 5)) (bs ++ wt c ((bops B).take 5)) w') := fun V hV => by
        have h := bit_ws (n := (x : Int)) (m := (y : Int)) (fin_ok ok _) hV (by rw [List.length_append]; have := wt_len ok ((bops B).take 4); have h3 : ((bops B).take 4).length ≤ 8 := (by rw [List.length_take, bops_len]; omega); omega)
        rw [ctx_nat hx1, bitn_nat hy1] at h
        have hg := bops_get B 4 (by omega)
        rw [take_next hg, fin_snoc, wt_snoc]
        simp only [Nat.reduceSub, Nat.reducePow]
        rw [← hx0, ← hy, ← List.append_assoc]
        exact h
      clear hx0 hy hB2
      go_wp2_with (first
        | (go_at_call 210; refine (HBT.out _ HT.out.2).mono ?_; rintro e w2 ⟨rfl, h2⟩; have H2 := Lib.hid h2; clear h2)
        | (go_at_call 211; refine (below_any x y _ (by omega) hy1).mono ?_; rintro e w3 ⟨rfl, rfl⟩))
      go_roundw
      case rel => exact ⟨5, 2 * x + y, by omega, rfl, rfl, Lib.hid ⟨by have := HX.out; omega, H2.out⟩⟩
      case measure => simp [intOf]
    · obtain ⟨y, hy⟩ : ∃ y, y = B / 4 % 2 := ⟨_, rfl⟩
      have hy1 : y ≤ 1 := by omega
      have hx1 : x < 256 := by omega
      have ha : bits .and .i64 ((B : Int) / 4) 1 = (y : Int) := by rw [and1, hy]; unfold bitn; omega
      have HX : Hid (x = (256 + B) / 8 ∧ y = B / 4 % 2) := Lib.hid ⟨hx0, hy⟩
      have HBT : Hid (∀ V, WS W L b (fin c ((bops B).take 5)) (bs ++ wt c ((bops B).take 5)) V → Calls Tryz.prog 210 #[.pointer (some ⟨b, 0, none⟩), .int .i64 x, .int .i64 y] V fun e w' => e = .returned (.tuple #[]) ∧ WS W L b (fin c ((bops B).take 6)) (bs ++ wt c ((bops B).take 6)) w') := fun V hV => by
        have h := bit_ws (n := (x : Int)) (m := (y : Int)) (fin_ok ok _) hV (by rw [List.length_append]; have := wt_len ok ((bops B).take 5); have h3 : ((bops B).take 5).length ≤ 8 := (by rw [List.length_take, bops_len]; omega); omega)
        rw [ctx_nat hx1, bitn_nat hy1] at h
        have hg := bops_get B 5 (by omega)
        rw [take_next hg, fin_snoc, wt_snoc]
        simp only [Nat.reduceSub, Nat.reducePow]
        rw [← hx0, ← hy, ← List.append_assoc]
        exact h
      clear hx0 hy hB2
      go_wp2_with (first
        | (go_at_call 210; refine (HBT.out _ HT.out.2).mono ?_; rintro e w2 ⟨rfl, h2⟩; have H2 := Lib.hid h2; clear h2)
        | (go_at_call 211; refine (below_any x y _ (by omega) hy1).mono ?_; rintro e w3 ⟨rfl, rfl⟩))
      go_roundw
      case rel => exact ⟨6, 2 * x + y, by omega, rfl, rfl, Lib.hid ⟨by have := HX.out; omega, H2.out⟩⟩
      case measure => simp [intOf]
    · obtain ⟨y, hy⟩ : ∃ y, y = B / 2 % 2 := ⟨_, rfl⟩
      have hy1 : y ≤ 1 := by omega
      have hx1 : x < 256 := by omega
      have ha : bits .and .i64 ((B : Int) / 2) 1 = (y : Int) := by rw [and1, hy]; unfold bitn; omega
      have HX : Hid (x = (256 + B) / 4 ∧ y = B / 2 % 2) := Lib.hid ⟨hx0, hy⟩
      have HBT : Hid (∀ V, WS W L b (fin c ((bops B).take 6)) (bs ++ wt c ((bops B).take 6)) V → Calls Tryz.prog 210 #[.pointer (some ⟨b, 0, none⟩), .int .i64 x, .int .i64 y] V fun e w' => e = .returned (.tuple #[]) ∧ WS W L b (fin c ((bops B).take 7)) (bs ++ wt c ((bops B).take 7)) w') := fun V hV => by
        have h := bit_ws (n := (x : Int)) (m := (y : Int)) (fin_ok ok _) hV (by rw [List.length_append]; have := wt_len ok ((bops B).take 6); have h3 : ((bops B).take 6).length ≤ 8 := (by rw [List.length_take, bops_len]; omega); omega)
        rw [ctx_nat hx1, bitn_nat hy1] at h
        have hg := bops_get B 6 (by omega)
        rw [take_next hg, fin_snoc, wt_snoc]
        simp only [Nat.reduceSub, Nat.reducePow]
        rw [← hx0, ← hy, ← List.append_assoc]
        exact h
      clear hx0 hy hB2
      go_wp2_with (first
        | (go_at_call 210; refine (HBT.out _ HT.out.2).mono ?_; rintro e w2 ⟨rfl, h2⟩; have H2 := Lib.hid h2; clear h2)
        | (go_at_call 211; refine (below_any x y _ (by omega) hy1).mono ?_; rintro e w3 ⟨rfl, rfl⟩))
      go_roundw
      case rel => exact ⟨7, 2 * x + y, by omega, rfl, rfl, Lib.hid ⟨by have := HX.out; omega, H2.out⟩⟩
      case measure => simp [intOf]
    · obtain ⟨y, hy⟩ : ∃ y, y = B % 2 := ⟨_, rfl⟩
      have hy1 : y ≤ 1 := by omega
      have hx1 : x < 256 := by omega
      have ha : bits .and .i64 ((B : Int)) 1 = (y : Int) := by rw [and1, hy]; unfold bitn; omega
      have HX : Hid (x = (256 + B) / 2 ∧ y = B % 2) := Lib.hid ⟨hx0, hy⟩
      have HBT : Hid (∀ V, WS W L b (fin c ((bops B).take 7)) (bs ++ wt c ((bops B).take 7)) V → Calls Tryz.prog 210 #[.pointer (some ⟨b, 0, none⟩), .int .i64 x, .int .i64 y] V fun e w' => e = .returned (.tuple #[]) ∧ WS W L b (fin c ((bops B).take 8)) (bs ++ wt c ((bops B).take 8)) w') := fun V hV => by
        have h := bit_ws (n := (x : Int)) (m := (y : Int)) (fin_ok ok _) hV (by rw [List.length_append]; have := wt_len ok ((bops B).take 7); have h3 : ((bops B).take 7).length ≤ 8 := (by rw [List.length_take, bops_len]; omega); omega)
        rw [ctx_nat hx1, bitn_nat hy1] at h
        have hg := bops_get B 7 (by omega)
        rw [take_next hg, fin_snoc, wt_snoc]
        simp only [Nat.reduceSub, Nat.reducePow, Nat.div_one]
        rw [← hx0, ← hy, ← List.append_assoc]
        exact h
      clear hx0 hy hB2
      go_wp2_with (first
        | (go_at_call 210; refine (HBT.out _ HT.out.2).mono ?_; rintro e w2 ⟨rfl, h2⟩; have H2 := Lib.hid h2; clear h2)
        | (go_at_call 211; refine (below_any x y _ (by omega) hy1).mono ?_; rintro e w3 ⟨rfl, rfl⟩))
      go_roundw
      case rel => exact ⟨8, 2 * x + y, by omega, rfl, rfl, Lib.hid ⟨by have := HX.out; omega, H2.out⟩⟩
      case measure => simp [intOf]
    · go_wp2_with fail
      exact bodyPost_end (results_none rfl _ _ _) rfl ⟨rfl, HT.out.2⟩
end Go.Proofs.YtfncldaodbfakaaGreat.C

namespace Go.Proofs.YtfncldaodbfakaaGreat.C
open Go.RowKit Go.Shelf
set_option maxRecDepth 100000
variable {W w w' : World} {L : List (Nat × Obj)}

theorem byt_lt (b : UInt8) : b.toNat < 256 := b.toNat_lt
theorem sops_take {l : List UInt8} {k : Nat} {x : UInt8} (h : l[k]? = some x) : sops (l.take (k + 1)) = sops (l.take k) ++ bops x.toNat := by rw [take_next h, sops_snoc]
theorem sops_take_len (l : List UInt8) (k : Nat) : (sops (l.take k)).length ≤ 8 * k := by rw [sops_len]; have : (l.take k).length ≤ k := List.length_take_le ..; omega
theorem toL (s : ByteArray) (k : Nat) (h : k < s.size) : s.data.toList[k]? = some s[k] := by
  rw [Array.getElem?_toList, Array.getElem?_eq_getElem (by exact h)]; rfl
set_option maxHeartbeats 2000000 in
theorem encode_any (s : ByteArray) (w : World) (hs : s.size ≤ 20000) : Calls Tryz.prog 151 #[.string s] w fun e w' => e = .returned (.string (str (enc s.data.toList))) ∧ Below w.heap.size w w' := by
  have h0 := HS.start w
  go_enter Tryz.func151, Tryz.ntmps151
  go_wp2_with (go_at_call 184; refine (newW_ws h0).mono ?_; rintro e w1 ⟨b, rfl, h1⟩)
  have H1 := Lib.hid h1
  clear h0 h1
  go_loopw [4, 8] (fun _ i V => ∃ k : Nat, k ≤ s.size ∧ i = .int .i64 (k : Int) ∧ Hid (WS w [] b (fin c0 (sops (s.data.toList.take k))) (wt c0 (sops (s.data.toList.take k))) V)) (fun _ i _ => s.size - (intOf i).toNat)
  case atStart => exact ⟨0, by omega, rfl, H1⟩
  case round =>
    obtain ⟨k, hk, rfl, HT⟩ := hrel
    clear H1
    have hlen : (wt c0 (sops (s.data.toList.take k))).length ≤ 700000 := by have h1 := wt_len c0_ok (sops (s.data.toList.take k)); have h2 := sops_take_len s.data.toList k; omega
    by_cases hlt : k < s.size
    · have HN := Lib.hid (toL s k hlt)
      have HL := Lib.hid hlen
      clear hlen
      go_wp2_with (go_at_call 185; refine (writeByte_any b _ _ _ _ (byt_lt s[k]) (fin_ok c0_ok _) HT.out HL.out).mono ?_; rintro e w2 ⟨rfl, h2⟩; have H2 := Lib.hid h2; clear h2)
      go_roundw
      case rel => exact ⟨k + 1, by omega, by go_num, Lib.hid (by have := H2.out; rwa [← fin_app, ← wt_app, ← sops_take HN.out] at this)⟩
      case measure => simp [intOf]; omega
    · obtain rfl : k = s.size := by omega
      have e1 : s.data.toList.take s.size = s.data.toList := List.take_of_length_le (by rw [Array.length_toList]; exact Nat.le_refl _)
      rw [e1] at HT hlen
      have HL := Lib.hid hlen
      clear hlen e1
      go_wp2_with (go_at_call 186; refine (bytes_ws (fin_ok c0_ok _) HT.out (by have := HL.out; omega)).mono ?_; rintro e w2 ⟨rfl, h2, _⟩)
      go_ret
      exact ⟨rfl, h2.hs.below⟩
end Go.Proofs.YtfncldaodbfakaaGreat.C
