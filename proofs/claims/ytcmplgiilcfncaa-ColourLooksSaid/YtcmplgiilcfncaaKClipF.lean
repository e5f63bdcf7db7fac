/-
  Clip.
-/
import Derived.Test.YtcmplgiilcfncaaKClip
namespace Go.Proofs.Ytcmplgiilcfncaa.K
open Go.RowKit
variable {W w w' : World} {L : List (Nat × Obj)}

def grey (c : C3) : Int := clp 0 65535 ((c.r + c.g + c.b + 1) / 3)
def clip0 (c : C3) : C3 := if ing c = true then c else c.map fun v => cut (grey c) v (kp c (grey c) 3).1 (kp c (grey c) 3).2
def clipF (c : C3) : C3 := clip0 (bnd c)
theorem bnd_bd (c : C3) : Bd (bnd c) := fun k => by
  unfold bnd C3.at clp
  split <;> (simp only []; omega)
theorem cut_w (k v l : Int) (p : Int × Int) (bg bk : Nat) (w : World) (h1 : w.cell? ⟨bg, 0, none⟩ = some (.int .i64 l)) (h2 : w.cell? ⟨bk, 0, none⟩ = some (.int .i64 p.1)) (h3 : w.cell? ⟨bk, 1, none⟩ = some (.int .i64 p.2))
    (v1 : -16777216 ≤ v ∧ v ≤ 16777216) (l1 : 0 ≤ l) (l2 : l ≤ 65535) (hp : PB p) :
    Calls Try.prog 25 (#[.int .i64 k, .int .i64 v] ++ #[.pointer (some ⟨bg, 0, none⟩), .pointer (some ⟨bk, 0, none⟩)]) w fun e w' => e = .returned (.int .i64 (cut l v p.1 p.2)) ∧ Below w.heap.size w w' := clip1_any k v l p bg bk w h1 h2 h3 v1.1 v1.2 l1 l2 hp
set_option maxRecDepth 100000 in
set_option maxHeartbeats 4000000 in
theorem clip_any (c0 c1 c2 : Int) (w : World) : Calls Try.prog 10 #[ag c0 c1 c2] w fun e w' => e = .returned (clipF ⟨c0, c1, c2⟩).v ∧ Below w.heap.size w w' := by
  have HB := bnd_bd ⟨c0, c1, c2⟩
  have HE : Hid (clipF ⟨c0, c1, c2⟩ = clip0 (bnd ⟨c0, c1, c2⟩)) := rfl
  have HC : Hid (∀ V, Calls Try.prog 20 #[ag c0 c1 c2, .int .i64 (-16777216), .int .i64 16777216] V fun e w' => e = .returned (bnd ⟨c0, c1, c2⟩).v ∧ Below V.heap.size V w') := fun V => clampC_any _ _ _ _ _ V
  generalize bnd ⟨c0, c1, c2⟩ = x at HB HE HC
  obtain ⟨x0, x1, x2⟩ := x
  obtain ⟨b0, b1⟩ := HB 0
  obtain ⟨b2, b3⟩ := HB 1
  obtain ⟨b4, b5⟩ := HB 2
  simp only [C3.at] at b0 b1 b2 b3 b4 b5
  go_enter Try.func10, Try.ntmps10
  go_upto_region 1 with fail
  have hs := ((St.start w).alloc (ac c0 c1 c2)).alloc (ac 0 0 0)
  rw [World.size_alloc] at hs
  generalize (w.alloc (ac c0 c1 c2)).alloc (ac 0 0 0) = w1 at hs ⊢
  generalize hb : w.heap.size = b at hs ⊢
  obtain ⟨l0, l1, l2⟩ := hs.col (b := b) (x := c0) (y := c1) (z := c2) (t := 25) (by simp)
  go_upto_region 2 with (go_at_call 20; (refine (HC.out _).mono ?_); rintro e w2 ⟨rfl, h2⟩; have h3 := hs.later h2; obtain ⟨m0, m1, m2⟩ := h3.col (b := b) (x := c0) (y := c1) (z := c2) (t := 25) (by simp); obtain ⟨f0, f1, f2⟩ := h3.fro (b := b) (cs := #[.int .i64 c0, .int .i64 c1, .int .i64 c2]) (t := 25) (by simp))
  have h4 : St w [(b, ac x0 x1 x2), (b + 1, ac 0 0 0)] (((w2.setCell ⟨b, 0, none⟩ (.int .i64 x0)).setCell ⟨b, 1, none⟩ (.int .i64 x1)).setCell ⟨b, 2, none⟩ (.int .i64 x2)) := (((h3.swap).put0 (by omega) (by simp)).put1 (by omega) (by simp)).put2 (by omega) (by simp)
  clear hs h2 h3 l0 l1 l2 m0 m1 m2 f0 f1 f2 HC
  generalize ((w2.setCell ⟨b, 0, none⟩ (.int .i64 x0)).setCell ⟨b, 1, none⟩ (.int .i64 x1)).setCell ⟨b, 2, none⟩ (.int .i64 x2) = w3 at h4 ⊢
  obtain ⟨l0, l1, l2⟩ := h4.col (b := b) (x := x0) (y := x1) (z := x2) (t := 25) (by simp)
  cases hi : ing ⟨x0, x1, x2⟩
  · have HI : Hid (∀ V, Calls Try.prog 21 #[ag x0 x1 x2] V fun e w' => e = .returned (.bool false) ∧ Below V.heap.size V w') := fun V => hi ▸ inG_any x0 x1 x2 V
    have HE2 : Hid (clip0 ⟨x0, x1, x2⟩ = C3.map (fun v => cut (grey ⟨x0, x1, x2⟩) v (kp ⟨x0, x1, x2⟩ (grey ⟨x0, x1, x2⟩) 3).1 (kp ⟨x0, x1, x2⟩ (grey ⟨x0, x1, x2⟩) 3).2) ⟨x0, x1, x2⟩) := by unfold Hid clip0; rw [hi]; rfl
    clear hi
    have HF : Hid (flo (x0 + x1 + x2 + 1) 3 = (x0 + x1 + x2 + 1) / 3) := flo_div (by omega) (by omega) (by omega)
    have hl : Hid (0 ≤ grey ⟨x0, x1, x2⟩ ∧ grey ⟨x0, x1, x2⟩ ≤ 65535) := by unfold Hid grey clp; simp only []; omega
    have hgr : min (max ((x0 + x1 + x2 + 1) / 3) 0) 65535 = grey ⟨x0, x1, x2⟩ := rfl
    generalize grey ⟨x0, x1, x2⟩ = l at HE2 hl hgr
    have HK : Hid (∀ V, Calls Try.prog 23 #[ag x0 x1 x2, .int .i64 l] V fun e w' => e = .returned (rp (kp ⟨x0, x1, x2⟩ l 3)) ∧ Below V.heap.size V w') := fun V => kept_any x0 x1 x2 l V HB hl.out.1 hl.out.2
    have HP := Lib.hid (kp_pb HB hl.out.1 hl.out.2 3)
    generalize kp ⟨x0, x1, x2⟩ l 3 = p at HE2 HK HP
    go_upto_region 4 with (go_at_call 21; (refine (HI.out _).mono ?_); rintro e w4 ⟨rfl, h5⟩)
    have h6 := h4.later h5
    clear h4 h5 HI l0 l1 l2
    obtain ⟨l0, l1, l2⟩ := h6.col (b := b) (x := x0) (y := x1) (z := x2) (t := 25) (by simp)
    go_upto_region 5 with (go_at_call 22; (refine (floor_any _ _ _).mono ?_); rintro e w5 ⟨rfl, rfl⟩; rw [HF.out])
    have h7 := h6.alloc (vo (.int .i64 l) 3)
    have hg4 : w.heap.size ≤ w4.heap.size := h6.below.size
    clear h6 l0 l1 l2 hgr HF
    generalize w4.alloc (vo (.int .i64 l) 3) = w6 at h7 ⊢
    generalize w4.heap.size = g at h7 hg4 ⊢
    obtain ⟨l0, l1, l2⟩ := h7.col (b := b) (x := x0) (y := x1) (z := x2) (t := 25) (by simp)
    have l3 := h7.var (b := g) (x := .int .i64 l) (t := 3) (by simp)
    go_upto_region 6 with (go_at_call 23; (refine (HK.out _).mono ?_); rintro e w7 ⟨rfl, h8⟩)
    obtain ⟨p1, p2⟩ := p
    have h9 := (h7.later h8).alloc (.cells #[.int .i64 p1, .int .i64 p2] 60)
    clear h7 h8 l0 l1 l2 l3 HK
    generalize w7.alloc (.cells #[.int .i64 p1, .int .i64 p2] 60) = w8 at h9 ⊢
    generalize w7.heap.size = h at h9 ⊢
    obtain ⟨l0, l1, l2⟩ := h9.col (b := b) (x := x0) (y := x1) (z := x2) (t := 25) (by simp)
    have HM : Hid (∀ k v V, Below w8.heap.size w8 V → -16777216 ≤ v ∧ v ≤ 16777216 → Calls Try.prog 25 (#[.int .i64 k, .int .i64 v] ++ #[.pointer (some ⟨g, 0, none⟩), .pointer (some ⟨h, 0, none⟩)]) V fun e w' => e = .returned (.int .i64 (cut l v p1 p2)) ∧ Below V.heap.size V w') := fun k v V hV hv => by
      have hh := h9.later hV
      exact cut_w k v l (p1, p2) g h V (hh.var (t := 3) (by simp)) (hh.cell (b := h) (cs := #[.int .i64 p1, .int .i64 p2]) (t := 60) (by simp) 0) (hh.cell (b := h) (cs := #[.int .i64 p1, .int .i64 p2]) (t := 60) (by simp) 1) hv hl.out.1 hl.out.2 HP.out
    have HR : Hid (∀ V, Below w8.heap.size w8 V → CB V (b + 1) 0 0 0 ∧ (V.frozen? ⟨b + 1, 0, none⟩ = false ∧ V.frozen? ⟨b + 1, 1, none⟩ = false ∧ V.frozen? ⟨b + 1, 2, none⟩ = false) ∧ Below w.heap.size w V) := fun V hV => by
      have hh := h9.later hV
      exact ⟨hh.col (t := 25) (by simp), hh.fro (t := 25) (cs := #[.int .i64 0, .int .i64 0, .int .i64 0]) (by simp), hh.below⟩
    clear h9 HP hl
    go_wp2_with (go_at_call 24; (refine (map_any 25 _ x0 x1 x2 _ _ _ w8 (enters_of Try.func25 (by kernel_rfl) rfl) (fun V hV => HM.out _ _ V hV ⟨b0, b1⟩) (fun V hV => HM.out _ _ V hV ⟨b2, b3⟩) (fun V hV => HM.out _ _ V hV ⟨b4, b5⟩)).mono ?_); rintro e w9 ⟨rfl, h2⟩; obtain ⟨⟨m0, m1, m2⟩, ⟨f0, f1, f2⟩, h3⟩ := HR.out _ h2)
    subst hb
    exact bodyPost_ret (v := ag (cut l x0 p1 p2) (cut l x1 p1 p2) (cut l x2 p1 p2)) (by simp [results, Try.results10, go_sem, *]) rfl ⟨by rw [HE.out, HE2.out], below_set3 h3 (Nat.le_succ _) _ _ _⟩
  · have HI : Hid (∀ V, Calls Try.prog 21 #[ag x0 x1 x2] V fun e w' => e = .returned (.bool true) ∧ Below V.heap.size V w') := fun V => hi ▸ inG_any x0 x1 x2 V
    have HE2 : Hid (clip0 ⟨x0, x1, x2⟩ = ⟨x0, x1, x2⟩) := by unfold Hid clip0; rw [hi]; rfl
    clear hi
    have HR : Hid (∀ V, Below w3.heap.size w3 V → CB V b x0 x1 x2 ∧ CB V (b + 1) 0 0 0 ∧ (V.frozen? ⟨b + 1, 0, none⟩ = false ∧ V.frozen? ⟨b + 1, 1, none⟩ = false ∧ V.frozen? ⟨b + 1, 2, none⟩ = false) ∧ Below w.heap.size w V) := fun V hV => by
      have hh := h4.later hV
      exact ⟨hh.col (t := 25) (by simp), hh.col (t := 25) (by simp), hh.fro (t := 25) (cs := #[.int .i64 0, .int .i64 0, .int .i64 0]) (by simp), hh.below⟩
    clear h4
    go_wp2_with (go_at_call 21; (refine (HI.out _).mono ?_); rintro e w4 ⟨rfl, h5⟩; obtain ⟨⟨n0, n1, n2⟩, ⟨m0, m1, m2⟩, ⟨f0, f1, f2⟩, h3⟩ := HR.out _ h5)
    subst hb
    exact bodyPost_ret (v := ag x0 x1 x2) (by simp [results, Try.results10, go_sem, *]) rfl ⟨by rw [HE.out, HE2.out], below_set3 h3 (Nat.le_succ _) _ _ _⟩
end Go.Proofs.Ytcmplgiilcfncaa.K
