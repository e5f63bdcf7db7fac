/-
  Pixels in memory, and the pixel of an image at a place.
-/
import Derived.Test.YtbodmeiecdomfaaGreatWReach
namespace Go.Proofs.YtbodmeiecdomfaaGreat.W
open Go.RowKit
set_option maxRecDepth 100000
variable {W w w' : World} {L : List (Nat × Obj)}

def Ch (n : Int) : Prop := 0 ≤ n ∧ n ≤ 255
abbrev pv (r g b a : Int) : Value := .agg #[.int .u8 r, .int .u8 g, .int .u8 b, .int .u8 a]
abbrev po (r g b a : Int) : Obj := .cells #[.int .u8 r, .int .u8 g, .int .u8 b, .int .u8 a] 39
structure Px where
  (r g b a : Int)
abbrev Px.v (p : Px) : Value := pv p.r p.g p.b p.a
abbrev Px.o (p : Px) : Obj := po p.r p.g p.b p.a
def Pc (p : Px) : Prop := Ch p.r ∧ Ch p.g ∧ Ch p.b ∧ Ch p.a
abbrev zp : Px := ⟨0, 0, 0, 0⟩
def cln (p : Px) : Px := if p.a = 0 then zp else p
theorem zp_pc : Pc zp := ⟨⟨by decide, by decide⟩, ⟨by decide, by decide⟩, ⟨by decide, by decide⟩, ⟨by decide, by decide⟩⟩
theorem cln_pc {p : Px} (h : Pc p) : Pc (cln p) := by unfold cln; split <;> first | exact h | exact zp_pc
set_option maxHeartbeats 1000000 in
theorem clean_any (r g b a : Int) (w : World) : Calls Tryz.prog 30 #[pv r g b a] w fun e w' => e = .returned (cln ⟨r, g, b, a⟩).v ∧ Below w.heap.size w w' := by
  go_enter Tryz.func30, Tryz.ntmps30
  go_wp2
  all_goals exact bodyPost_ret (v := (cln ⟨r, g, b, a⟩).v) (by simp_all [results, Tryz.results30, go_sem, cln]) rfl ⟨rfl, below1.alloc (by simp) _⟩
abbrev numo (x : Int) : Obj := .cells #[.int .i64 x] 3
theorem nb_of {w : World} {b : Nat} {x : Value} {t : TypeId} (h : w.heap[b]? = some (.cells #[x] t)) : w.cell? ⟨b, 0, none⟩ = some x := cell_of_row _ _ 0 _ _ _ h
/-- the i-th pixel of a list -/
def pg (l : List Px) (i : Nat) : Px := l.getD i zp
/-- the cells of block b at i hold a pixel -/
def PB (w : World) (b i : Nat) (p : Px) : Prop := w.cell? ⟨b, i, none⟩ = some (.int .u8 p.r) ∧ w.cell? ⟨b, i + 1, none⟩ = some (.int .u8 p.g) ∧ w.cell? ⟨b, i + 2, none⟩ = some (.int .u8 p.b) ∧ w.cell? ⟨b, i + 3, none⟩ = some (.int .u8 p.a)
structure PRow (w : World) (b off : Nat) (l : List Px) : Prop where
  lt : b < w.heap.size
  at' : ∀ i, i < l.length → PB w b (off + i * 4) (pg l i)
theorem PRow.later {b off : Nat} {l : List Px} (h : PRow w b off l) (hb : Below w.heap.size w w') : PRow w' b off l :=
  ⟨Nat.lt_of_lt_of_le h.lt hb.size, fun i hi => by
    obtain ⟨h0, h1, h2, h3⟩ := h.at' i hi
    exact ⟨(hb.cell (p := ⟨b, off + i * 4, none⟩) h.lt).trans h0, (hb.cell (p := ⟨b, off + i * 4 + 1, none⟩) h.lt).trans h1, (hb.cell (p := ⟨b, off + i * 4 + 2, none⟩) h.lt).trans h2, (hb.cell (p := ⟨b, off + i * 4 + 3, none⟩) h.lt).trans h3⟩⟩
/-- v is a slice of the pixels l -/
def PM (w : World) (v : Value) (l : List Px) : Prop :=
  ∃ p cap, v = .slice p l.length cap ∧ l.length ≤ cap ∧ cap ≤ 9223372036854775807 ∧ (0 < l.length → ∃ b off, p = some ⟨b, off, none⟩ ∧ PRow w b off l)
theorem PM.later {v : Value} {l : List Px} (h : PM w v l) (hb : Below w.heap.size w w') : PM w' v l := by
  obtain ⟨po, cap, rfl, h1, h2, h3⟩ := h
  refine ⟨po, cap, rfl, h1, h2, fun hp => ?_⟩
  obtain ⟨b, off, h4, h5⟩ := h3 hp
  exact ⟨b, off, h4, h5.later hb⟩
theorem wr_in {x : Int} (h : -9223372036854775808 ≤ x ∧ x ≤ 9223372036854775807) : IntKind.i64.wrap x = x := IntWalk.i64_in _ h
theorem wrap_in {x : Int} (h : -9223372036854775808 ≤ x ∧ x ≤ 9223372036854775807) : wrap64 x = x := (IntWalk.i64_left _).symm.trans (IntWalk.i64_in _ h)
/-- an image as a value -/
abbrev imv (x0 y0 x1 y1 : Int) (P : Value) : Value := .agg #[.int .i64 x0, .int .i64 y0, .int .i64 x1, .int .i64 y1, P]
abbrev ptv (x y : Int) : Value := .agg #[.int .i64 x, .int .i64 y]
set_option maxHeartbeats 2000000 in
theorem pixel_any (x0 y0 x1 y1 x y : Int) (P : Value) (l : List Px) (j : Nat) (w : World) (hP : PM w P l) (hj : j < l.length) (hx0 : -2000000 ≤ x0 ∧ x0 ≤ 2000000) (hy0 : -2000000 ≤ y0 ∧ y0 ≤ 2000000) (hx1 : -2000000 ≤ x1 ∧ x1 ≤ 2000000)
    (hx : -2000000 ≤ x ∧ x ≤ 2000000) (hy : -2000000 ≤ y ∧ y ≤ 2000000) (hi : (y - y0) * (x1 - x0) + x - x0 = j) :
    Calls Tryz.prog 73 #[imv x0 y0 x1 y1 P, ptv x y] w fun e w' => e = .returned (pg l j).v ∧ Below w.heap.size w w' := by
  obtain ⟨p, cap, rfl, h1, h2, h3⟩ := hP
  obtain ⟨b, off, rfl, h5⟩ := h3 (by omega)
  generalize hn : l.length = n at *
  obtain ⟨d, hd⟩ : ∃ d, d = x1 - x0 := ⟨_, rfl⟩
  obtain ⟨e, he⟩ : ∃ e, e = y - y0 := ⟨_, rfl⟩
  have hp : -16000000000000 ≤ e * d ∧ e * d ≤ 16000000000000 := by
    have hd1 : d.natAbs ≤ 4000000 := by omega
    have he1 : e.natAbs ≤ 4000000 := by omega
    have := Nat.mul_le_mul he1 hd1
    rw [← Int.natAbs_mul] at this
    omega
  rw [← hd, ← he] at hi
  generalize hm : e * d = m at *
  have hm1 : wrap64 ((y - y0) * (x1 - x0)) = m := by rw [← hd, ← he, hm]; exact wrap_in (by omega)
  have w1 : wrap64 (y - y0) = e := by rw [← he]; exact wrap_in (by omega)
  have w2 : wrap64 (x1 - x0) = d := by rw [← hd]; exact wrap_in (by omega)
  have w4 : wrap64 (m + x) = m + x := wrap_in (by omega)
  have w5 : wrap64 (m + x - x0) = j := by rw [hi]; exact wrap_in (by omega)
  clear hm
  have hz : ∀ V, Below w.heap.size w V → PB V b (off + j * 4) (pg l j) := fun V hV => (h5.later hV).at' j (by omega)
  have hb := h5.lt
  generalize pg l j = q at *
  obtain ⟨c0, c1, c2, c3⟩ := hz (((w.alloc (.cells #[.int .i64 x0, .int .i64 y0, .int .i64 x1, .int .i64 y1, .slice (some ⟨b, off, none⟩) n cap] 61)).alloc (.cells #[.int .i64 x, .int .i64 y] 67)).alloc (po 0 0 0 0)) R.below3
  clear h5 hz h3 hp he hd
  go_enter Tryz.func73, Tryz.ntmps73
  go_wp2
  exact bodyPost_ret (v := q.v) (by simp [results, Tryz.results73, go_sem, *]) rfl ⟨rfl, by first | exact R.below3 | exact R.below_set4 R.below3 (by omega) _ _ _ _⟩
/-- the pixel of an image at a place -/
def pat (x0 y0 x1 : Int) (l : List Px) (x y : Int) : Px := pg l ((y - y0) * (x1 - x0) + x - x0).toNat
/-- a place within an image -/
structure Plc (x0 y0 x1 y1 : Int) (l : List Px) (x y : Int) : Prop where
  x0b : -2000000 ≤ x0 ∧ x0 ≤ 2000000
  y0b : -2000000 ≤ y0 ∧ y0 ≤ 2000000
  x1b : -2000000 ≤ x1 ∧ x1 ≤ 2000000
  xb : -2000000 ≤ x ∧ x ≤ 2000000
  yb : -2000000 ≤ y ∧ y ≤ 2000000
  ix : 0 ≤ (y - y0) * (x1 - x0) + x - x0 ∧ (y - y0) * (x1 - x0) + x - x0 < l.length
theorem pixel_at {x0 y0 x1 y1 x y : Int} {P : Value} {l : List Px} (w : World) (hP : PM w P l) (h : Plc x0 y0 x1 y1 l x y) :
    Calls Tryz.prog 73 #[imv x0 y0 x1 y1 P, ptv x y] w fun e w' => e = .returned (pat x0 y0 x1 l x y).v ∧ Below w.heap.size w w' :=
  pixel_any x0 y0 x1 y1 x y P l _ w hP (by have := h.ix; omega) h.x0b h.y0b h.x1b h.xb h.yb (by have := h.ix; omega)
end Go.Proofs.YtbodmeiecdomfaaGreat.W
