/-
  The iterator of Tiles: which positions it yields.
-/
import Derived.Test.YtjadccelplnpnaaAround
import Derived.Deep.RegionWith
import Derived.Deep.DeepCutAuto
namespace Go.Proofs.Ytjadccelplnpnaa
open Go.RowKit Go.Shelf
attribute [local go_sem] Oper.semAt_some

/-- c columns and r rows of positions from x, y on -/
def tls (x y : Int) (c r : Nat) : List (Int × Int) := (List.range (r * c)).map fun i => (x + ((i % c : Nat) : Int), y + ((i / c : Nat) : Int))
/-- the positions of the tiles of a rectangle -/
def tiles (x0 y0 x1 y1 : Int) : List (Int × Int) :=
  if emp x0 y0 x1 y1 then [] else tls (flo x0 8) (flo y0 8) (flo (x1 - 1) 8 - flo x0 8 + 1).toNat (flo (y1 - 1) 8 - flo y0 8 + 1).toNat
theorem flo8 {a : Int} (h0 : -4611686018427387904 ≤ a) (h1 : a ≤ 4611686018427387904) : flo a 8 = a / 8 := by
  have e1 : a.tdiv 8 = if 0 ≤ a then a / 8 else -((-a) / 8) := by
    split
    · exact Int.tdiv_eq_ediv_of_nonneg (by assumption)
    · rw [← Int.neg_neg a, Int.neg_tdiv, Int.tdiv_eq_ediv_of_nonneg (by omega), Int.neg_neg]
  have e2 : a.tmod 8 = a - 8 * a.tdiv 8 := by have := Int.tmod_add_mul_tdiv a 8; omega
  have w1 : wrap64 (a.tdiv 8) = a.tdiv 8 := IntWalk.wrap64_in _ (by rw [e1]; split <;> constructor <;> omega)
  unfold flo
  rw [if_neg (by decide), w1]
  split
  · rename_i h
    simp [dif] at h
    rw [IntWalk.wrap64_in _ (by rw [e1]; split <;> constructor <;> omega)]
    rw [e2, e1] at h
    rw [e1]
    by_cases ha : 0 ≤ a
    · have : ¬ a < 0 := by omega
      simp [ha, this] at h
    · rw [if_neg ha] at h ⊢
      omega
  · rename_i h
    rw [e2, e1] at h
    rw [e1]
    by_cases ha : 0 ≤ a
    · rw [if_pos ha]
    · rw [if_neg ha] at h ⊢
      have h3 : dif a 8 = true := by unfold dif; rw [decide_eq_true (show a < 0 by omega)]; rfl
      rw [h3] at h
      simp at h
      omega

theorem St.set {W w : World} {L : List (Nat × Obj)} (h : St W L w) {b j : Nat} {v : Value} (hb : W.heap.size ≤ b) (hL : ∀ x ∈ L, x.1 < W.heap.size) : St W L (w.setCell ⟨b, j, none⟩ v) :=
  ⟨h.below.setCell (p := ⟨b, j, none⟩) hb _, fun x hx => by
    have h1 := h.rows x hx
    have hne : x.1 ≠ b := by have := hL x hx; omega
    rw [← h1]
    exact Below.heap_setCell _ _ _ _ hne⟩
/-- the box of a pair, which a loop that keeps Kp B keeps -/
def FB (B b : Nat) (x y : Int) (w : World) : Prop := (∃ cs t fr, w.heap[b]? = some (.cells cs t fr) ∧ cs[0]? = some (.int .i64 x) ∧ cs[1]? = some (.int .i64 y)) ∧ ∀ g, rowB w B = some g → b < g
theorem FB.kp {B b : Nat} {x y : Int} {w w' : World} (h : FB B b x y w) (hne : b ≠ B) (hk : Kp B w w') : FB B b x y w' := by
  obtain ⟨⟨cs, t, fr, hc, h0, h1⟩, hr⟩ := h
  exact ⟨⟨cs, t, fr, hk.same b cs t fr hne hr hc, h0, h1⟩, hk.under hc hr⟩
theorem FB.pair {B b : Nat} {x y : Int} {w : World} (h : FB B b x y w) : TB w b x y := by
  obtain ⟨⟨cs, t, fr, hc, h0, h1⟩, _⟩ := h
  exact ⟨(cell_of_row _ _ _ _ _ _ hc).trans h0, (cell_of_row _ _ _ _ _ _ hc).trans h1⟩
theorem FB.of {B b : Nat} {x y : Int} {w : World} (h : TB w b x y) (hr : rowB w B = none) : FB B b x y w := by
  refine ⟨?_, fun g e => by rw [hr] at e; cases e⟩
  have h0 := h.1
  have h1 := h.2
  unfold World.cell? at h0 h1
  cases ho : w.heap[b]? with
  | none => simp [ho] at h0
  | some o =>
    cases o <;> simp [ho] at h0 h1
    exact ⟨_, _, _, rfl, h0, h1⟩
theorem tls_len (x y : Int) (c r : Nat) : (tls x y c r).length = r * c := by simp [tls]
theorem tls_take (x y : Int) (c r k m : Nat) (hk : k < r) (hm : m < c) : (tls x y c r).take (k * c + m + 1) = (tls x y c r).take (k * c + m) ++ [(x + (m : Int), y + (k : Int))] := by
  have hlt : k * c + m < r * c := by
    have := Nat.mul_le_mul_right c (show k + 1 ≤ r from hk)
    rw [Nat.add_mul] at this; omega
  rw [List.take_add_one, List.getElem?_eq_getElem (by rw [tls_len]; exact hlt)]
  simp only [tls, List.getElem_map, List.getElem_range, Option.toList_some]
  have h1 : (k * c + m) % c = m := by rw [Nat.add_comm, Nat.add_mul_mod_self_right, Nat.mod_eq_of_lt hm]
  have h2 : (k * c + m) / c = k := by rw [Nat.mul_comm, Nat.mul_add_div (by omega), Nat.div_eq_of_lt hm, Nat.add_zero]
  rw [h1, h2]

/-- what is known of a new pair behind a call -/
def NewP (w : World) (b : Nat) : Prop := b < w.heap.size ∧ w.heap[b]? = some (tob 0 0)
theorem newP_top (w : World) : NewP (w.alloc (tob 0 0)) w.heap.size := ⟨by simp, World.alloc_heap_new w _⟩
theorem NewP.old {w : World} {b : Nat} (h : NewP w b) (o : Obj) : NewP (w.alloc o) b := ⟨by have := h.1; simp; omega, by
  have := (World.grownBy_alloc w o none).block b h.1 (by simp); rw [this]; exact h.2⟩
theorem NewP.keep {w w' : World} {b : Nat} (h : NewP w b) (hb : Below w.heap.size w w') : NewP w' b := ⟨Nat.lt_of_lt_of_le h.1 hb.size, (hb.block b h.1).trans h.2⟩
theorem NewP.drew {w : World} {b : Nat} (h : NewP w b) : NewP w.drew b := h
theorem NewP.facts {w : World} {b : Nat} (h : NewP w b) : b < w.heap.size ∧ TB w b 0 0 ∧ w.frozen? ⟨b, 0, none⟩ = false ∧ w.frozen? ⟨b, 1, none⟩ = false ∧ b ≠ w.heap.size ∧ w.heap.size ≠ b ∧ b ≠ w.heap.size + 1 ∧ w.heap.size + 1 ≠ b :=
  ⟨h.1, ⟨cell_of_row _ _ 0 _ _ _ h.2, cell_of_row _ _ 1 _ _ _ h.2⟩, frozen_of_row _ _ _ _ _ h.2, frozen_of_row _ _ _ _ _ h.2, by have := h.1; omega, by have := h.1; omega, by have := h.1; omega, by have := h.1; omega⟩

set_option maxRecDepth 100000 in
set_option maxHeartbeats 8000000 in
theorem tiles_stops (n : Nat) (hn : 2 ≤ n) (B br : Nat) (x0 y0 x1 y1 : Int) (w : World) (hx0 : -100000 ≤ x0) (hx1 : x1 ≤ 100000) (hy0 : -100000 ≤ y0) (hy1 : y1 ≤ 100000) (hB : B < w.heap.size) (hrow : rowB w B = none) (hr : w.heap[br]? = some (ro x0 y0 x1 y1)) :
    SeqStopsK Fence.wide n Try.prog 66 #[.pointer (some ⟨br, 0, none⟩)] (fun t : Int × Int => #[tv t.1 t.2]) (Kp B) (fun xs => xs = tiles x0 y0 x1 y1) (fun pre => pre <+: tiles x0 y0 x1 y1) (tiles x0 y0 x1 y1).length w := by
  intro l J Jx W hW hJ hJx hY h0
  refine callsIn_of_wp Try.func66 rfl trivial ?_ rfl
  simp only [Try.ntmps66, List.size_toArray, List.length_cons, List.length_nil, Nat.reduceAdd, Nat.reduceSub, Array.replicate_succ, Array.replicate_zero, List.push_toArray, List.append_toArray, List.nil_append, List.cons_append]
  refine wpIn_wide.2 ?_
  have hr1 : W.heap[br]? = some (ro x0 y0 x1 y1) := (hW.block br (Array.getElem?_eq_some_iff.1 hr).1).trans hr
  have hrw : rowB W B = none := (rowB_of_heap (hW.block B hB)).trans hrow
  have hBW : B < W.heap.size := Nat.lt_of_lt_of_le hB hW.size
  have hs : St W [(br, ro x0 y0 x1 y1)] W := ⟨Below.refl _ _, by simpa using hr1⟩
  have HC : Hid (∀ V, St W [(br, ro x0 y0 x1 y1)] V → RB V br x0 y0 x1 y1) := fun V hV => hV.rect (by simp)
  obtain ⟨a0, a1, a2, a3⟩ := HC.out _ hs
  cases he : emp x0 y0 x1 y1
  case true =>
    have ht : Hid ([] = tiles x0 y0 x1 y1) := by unfold Hid tiles; rw [if_pos he]
    go_wp2_with (go_at_call 35; (with_reducible refine (empty_any _ _ _ _ _).mono ?_); rintro e W1 ⟨rfl, hb⟩)
    refine bodyPost_ret (results_none rfl _ _ _) rfl ?_
    exact ⟨⟨_, rfl⟩, .inl ⟨[], ht.out, abides_below hJ (by assumption) h0⟩⟩
  case false =>
    go_upto_region 1 with (go_at_call 35; (with_reducible refine (St.call hs (empty_any _ _ _ _ _)).mono ?_); rintro e W1 ⟨rfl, h1⟩)
    clear hs a0 a1 a2 a3
    go_cut [3, 4] from 11 to 24 (fun v3 v4 wx => ∃ bf bl, v3 = .pointer (some ⟨bf, 0, none⟩) ∧ v4 = .pointer (some ⟨bl, 0, none⟩) ∧ Hid (TB wx bf (flo x0 8) (flo y0 8) ∧ TB wx bl (flo (x1 - 1) 8) (flo (y1 - 1) 8) ∧ Below W.heap.size W wx ∧ W.heap.size ≤ bf ∧ W.heap.size ≤ bl))
    case first =>
      have hlt : x0 < x1 ∧ y0 < y1 := by simp [emp] at he; exact he
      have hsx : IntKind.i64.wrap (x1 - 1) = x1 - 1 := IntWalk.i64_in _ ⟨by omega, by omega⟩
      have hsy : IntKind.i64.wrap (y1 - 1) = y1 - 1 := IntWalk.i64_in _ ⟨by omega, by omega⟩
      have hd := h1.drew
      have HS : Hid (∀ V o, St W [(br, ro x0 y0 x1 y1)] V → St W [(br, ro x0 y0 x1 y1)] (V.alloc o)) := fun V o h => (h.alloc o).sub (by simp)
      have HR : Hid (∀ V, St W [(br, ro x0 y0 x1 y1)] V → RB V br x0 y0 x1 y1 ∧ br < V.heap.size ∧ W.heap.size ≤ V.heap.size) := fun V h => ⟨HC.out V h, h.lt (b := br) (o := ro x0 y0 x1 y1) (by simp), h.below.size⟩
      obtain ⟨⟨a0, a1, a2, a3⟩, hbr, hbW⟩ := HR.out _ hd
      have hW1 := h1.below.size
      have HD : Hid (∀ V, St W [(br, ro x0 y0 x1 y1)] V → St W [(br, ro x0 y0 x1 y1)] V.drew) := fun V h => h.drew
      have HP : Hid (∀ V, St W [(br, ro x0 y0 x1 y1)] V → St W [(br, ro x0 y0 x1 y1)] V ∧ RB V br x0 y0 x1 y1) := fun V h => ⟨h, HC.out V h⟩
      have HT : Hid (∀ V b j v, W.heap.size ≤ b → St W [(br, ro x0 y0 x1 y1)] V → St W [(br, ro x0 y0 x1 y1)] (V.setCell ⟨b, j, none⟩ v)) := fun V b j v hb h => h.set hb (by simpa using (Array.getElem?_eq_some_iff.1 hr1).1)
      go_region_held3 (fun V => St W [(br, ro x0 y0 x1 y1)] V ∧ RB V br x0 y0 x1 y1) ((refine HP.out _ ?_; repeat' (first | assumption | omega | refine HS.out _ _ ?_ | refine HT.out _ _ _ _ ?_ ?_ | refine HD.out _ ?_))) (first
        | (go_at_call 22; (with_reducible refine (St.call2 (W := W) (L := [(br, ro x0 y0 x1 y1)]) ?_ (at_any _ _ _)).mono ?_); (focus (repeat' (first | assumption | refine HS.out _ _ ?_ | refine HD.out _ ?_))); rintro e w4 ⟨rfl, h4, hb⟩; obtain ⟨⟨a0, a1, a2, a3⟩, hbr, hbW⟩ := HR.out _ h4; (try (with_reducible have p1 := q1.keep hb; have f1 := p1.facts)); (try (with_reducible have p2 := q2.keep hb; have f2 := p2.facts)); (try (with_reducible have p3 := (q1.old _).keep hb; have f3 := p3.facts)); (try (with_reducible (first | have q2 := ((newP_top _).old _).keep hb | have q2 := ((newP_top _).old _).drew.keep hb); (try simp only [World.size_alloc, World.size_drew] at q2); have f4 := q2.facts)); (try (with_reducible (first | have q1 := (newP_top _).keep hb | have q1 := (newP_top _).drew.keep hb); (try simp only [World.size_alloc] at q1); have f5 := q1.facts))))
      all_goals
        rename_i hHeld
        obtain ⟨hst, _⟩ := hHeld
        go_wp2_with fail
        go_meet
        case rel =>
          refine ⟨_, _, rfl, rfl, ⟨⟨?_, ?_⟩, ⟨?_, ?_⟩, hst.below, ?_, ?_⟩⟩
          all_goals first | omega | (simp [go_sem, *]; done) | (simp [go_sem, *]; omega)
    case rest =>
      have hlt : x0 < x1 ∧ y0 < y1 := by simp [emp] at he; exact he
      have ht : Hid (tiles x0 y0 x1 y1 = tls (flo x0 8) (flo y0 8) (flo (x1 - 1) 8 - flo x0 8 + 1).toNat (flo (y1 - 1) 8 - flo y0 8 + 1).toNat) := by unfold Hid tiles; rw [if_neg (by rw [he]; decide)]
      obtain ⟨bf, bl, rfl, rfl, hh⟩ := hcut
      obtain ⟨hTf, hTl, hbel, hbf, hbl⟩ := hh.out
      clear hh HC
      have hrc : rowB wc B = none := (rowB_of_heap (hbel.block B hBW)).trans hrw
      have hF := FB.of hTf hrc
      have hJc := abides_below hJ hbel h0
      have hneB : bf ≠ B := by omega
      have e1 := flo8 (a := x0) (by omega) (by omega)
      have e2 := flo8 (a := y0) (by omega) (by omega)
      have e3 := flo8 (a := x1 - 1) (by omega) (by omega)
      have e4 := flo8 (a := y1 - 1) (by omega) (by omega)
      have g : ∃ c r : Nat, Hid (flo (x1 - 1) 8 - flo x0 8 + 1 = (c : Int) ∧ flo (y1 - 1) 8 - flo y0 8 + 1 = (r : Int)) ∧ -12501 ≤ flo x0 8 ∧ flo x0 8 ≤ 12501 ∧ -12501 ≤ flo y0 8 ∧ flo y0 8 ≤ 12501 ∧ -12501 ≤ flo (x1 - 1) 8 ∧ flo (x1 - 1) 8 ≤ 12501 ∧ -12501 ≤ flo (y1 - 1) 8 ∧ flo (y1 - 1) 8 ≤ 12501 ∧ (c : Int) ≤ 30000 ∧ (r : Int) ≤ 30000 := by
        refine ⟨(flo (x1 - 1) 8 - flo x0 8 + 1).toNat, (flo (y1 - 1) 8 - flo y0 8 + 1).toNat, ⟨?_, ?_⟩, ?_⟩
        · rw [Int.toNat_of_nonneg (by rw [e1, e3]; omega)]
        · rw [Int.toNat_of_nonneg (by rw [e2, e4]; omega)]
        · rw [e1, e2, e3, e4]; omega
      clear e1 e2 e3 e4 hrow hr hr1 hrw hrc hlt he
      obtain ⟨c, r, hcr, q1, q2, q3, q4, q5, q6, q7, q8, q9, q10⟩ := g
      generalize flo x0 8 = fx at *
      generalize flo y0 8 = fy at *
      generalize flo (x1 - 1) 8 = lx at *
      generalize flo (y1 - 1) 8 = ly at *
      have hT : Hid (tiles x0 y0 x1 y1 = tls fx fy c r) := by
        have := ht.out; rw [hcr.out.1, hcr.out.2] at this
        unfold Hid; simpa using this
      clear ht
      generalize hTT : tiles x0 y0 x1 y1 = T at hT hY
      have HTT := Lib.hid hTT; clear hTT
      have s1 : IntKind.i64.wrap (ly - fy) = ly - fy := IntWalk.i64_in _ ⟨by omega, by omega⟩
      have s2 : IntKind.i64.wrap (lx - fx) = lx - fx := IntWalk.i64_in _ ⟨by omega, by omega⟩
      have s3 : IntKind.i64.wrap (ly - fy + 1) = ly - fy + 1 := IntWalk.i64_in _ ⟨by omega, by omega⟩
      have s4 : IntKind.i64.wrap (lx - fx + 1) = lx - fx + 1 := IntWalk.i64_in _ ⟨by omega, by omega⟩
      obtain ⟨f0, f1⟩ := hTf
      obtain ⟨l0, l1⟩ := hTl
      go_upto_region 2 with fail
      go_quiet (fail)
      clear s1 s2 s3 s4 f0 f1 l0 l1
      rw [hcr.out.1, hcr.out.2]
      have hF2 : FB B bf fx fy (wc.drewN nq) := hF
      have hJ2 : J [] (wc.drewN nq) := abides_below hJ (⟨rfl, rfl, rfl, Nat.le_refl _, fun _ _ => rfl⟩ : Below wc.heap.size wc (wc.drewN nq)) hJc
      clear hF hJc hbel
      generalize wc.drewN nq = wd at hF2 hJ2 ⊢
      have hd : 1 ≤ n := by omega
      have hd1 : 1 ≤ n - 1 := by omega
      go_wp2_with fail
      refine (wpIn_wide (n := n)).1 ?_
      gi_loopw [38] (fun i wr => ∃ k : Nat, k ≤ r ∧ i = .int .i64 k ∧ Hid (J (T.take (k * c)) wr ∧ FB B bf fx fy wr)) (fun i _ => r - (intOf i).toNat)
      case atStart => exact ⟨0, Nat.zero_le _, rfl, by rw [Nat.zero_mul]; exact hJ2, hF2⟩
      case round =>
        obtain ⟨k, hk, rfl, hh⟩ := hrel
        by_cases hkr : k < r
        · obtain ⟨wo, rfl⟩ : ∃ wo : World, wo = wr := ⟨_, rfl⟩
          gi_wp2
          gi_loopw [42] (fun j wi => ∃ m : Nat, m ≤ c ∧ j = .int .i64 m ∧ Hid (J (T.take (k * c + m)) wi ∧ FB B bf fx fy wi)) (fun j _ => c - (intOf j).toNat)
          case atStart => exact ⟨0, Nat.zero_le _, rfl, by rw [Nat.add_zero]; exact hh.out⟩
          case round =>
            obtain ⟨m, hm, rfl, hi⟩ := hrel
            by_cases hmc : m < c
            · obtain ⟨hJi, hFi⟩ := hi.out
              obtain ⟨f0, f1⟩ := hFi.pair
              have hTk : Hid (T.take (k * c + m + 1) = T.take (k * c + m) ++ [(fx + (m : Int), fy + (k : Int))]) := by
                unfold Hid; rw [hT.out]; exact tls_take fx fy c r k m hkr hmc
              obtain ⟨fn, tmps, assign, body, hy, hR⟩ := hY _ (fx + (m : Int), fy + (k : Int)) _ hJi (by
                have h1 : T.length = r * c := by rw [hT.out, tls_len]
                have h2 := Nat.mul_le_mul_right c (show k + 1 ≤ r from hkr)
                rw [Nat.add_mul] at h2
                rw [List.length_take, h1]; omega)
              dsimp only at hy
              gi_wp2
              refine hR.mono ?_
              rintro e W3 (⟨rfl, hJ3, hk3⟩ | ⟨rfl, hJx3⟩)
              · gi_wp2
                go_roundw
                case rel => exact ⟨m + 1, by omega, by go_num, by rw [← Nat.add_assoc, hTk.out]; exact hJ3, hFi.kp hneB hk3⟩
                case measure => simp [intOf]; omega
              · gi_wp2
                refine bodyPost_ret (results_none rfl _ _ _) rfl ?_
                exact ⟨⟨_, rfl⟩, .inr ⟨_, by rw [← hTk.out, HTT.out]; exact List.take_prefix _ _, hJx3⟩⟩
            · obtain rfl : m = c := by omega
              gi_wp2
              go_roundw
              case rel => exact ⟨k + 1, by omega, by go_num, by rw [Nat.add_mul, Nat.one_mul]; exact hi.out⟩
              case measure => simp [intOf]; omega
        · obtain rfl : k = r := by omega
          gi_wp2
          go_end0
          exact ⟨⟨_, rfl⟩, .inl ⟨_, by rw [HTT.out]; exact List.take_of_length_le (by rw [hT.out, tls_len]; omega), hh.out.1⟩⟩
end Go.Proofs.Ytjadccelplnpnaa
