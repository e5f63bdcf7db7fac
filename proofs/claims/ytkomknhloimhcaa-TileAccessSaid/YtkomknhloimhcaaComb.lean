/-
  Clean, Fade and combine: what they return for all pixels.
-/
import Derived.Test.YtkomknhloimhcaaRefBlend
namespace Go.Proofs.Ytkomknhloimhcaa
open Go.RowKit

structure Px where
  (r g b a : Int)
abbrev Px.v (p : Px) : Value := pv p.r p.g p.b p.a
abbrev Px.o (p : Px) : Obj := po p.r p.g p.b p.a
def Pc (p : Px) : Prop := Ch p.r ∧ Ch p.g ∧ Ch p.b ∧ Ch p.a
abbrev zp : Px := ⟨0, 0, 0, 0⟩
def cln (p : Px) : Px := if p.a = 0 then zp else p
def fad (p : Px) (c : Int) : Px := cln ⟨p.r, p.g, p.b, mul p.a c⟩
theorem mul_ch (a b : Int) : Ch (mul a b) := pr_ch (cl_ch a) (cl_ch b)
theorem cln_pc {p : Px} (h : Pc p) : Pc (cln p) := by unfold cln; split <;> first | exact h | exact ⟨⟨by decide, by decide⟩, ⟨by decide, by decide⟩, ⟨by decide, by decide⟩, ⟨by decide, by decide⟩⟩
theorem ret_v {a b : Value} (h : a = b) : Ending.returned a = .returned b := by rw [h]

theorem below_set4 {n b : Nat} {w w' : World} (h : Below n w w') (hb : n ≤ b) (x0 x1 x2 x3 : Value) :
    Below n w ((((w'.setCell ⟨b, 0, none⟩ x0).setCell ⟨b, 1, none⟩ x1).setCell ⟨b, 2, none⟩ x2).setCell ⟨b, 3, none⟩ x3) :=
  (((h.setCell (p := ⟨b, 0, none⟩) hb _).setCell (p := ⟨b, 1, none⟩) hb _).setCell (p := ⟨b, 2, none⟩) hb _).setCell (p := ⟨b, 3, none⟩) hb _

set_option maxHeartbeats 1000000 in
theorem clean_any (r g b a : Int) (w : World) : Calls Try.prog 40 #[pv r g b a] w fun e w' => e = .returned (cln ⟨r, g, b, a⟩).v ∧ Below w.heap.size w w' := by
  go_enter Try.func40, Try.ntmps40
  go_wp2
  all_goals exact bodyPost_ret (v := (cln ⟨r, g, b, a⟩).v) (by simp_all [results, Try.results40, go_sem, cln]) rfl ⟨rfl, below1.alloc (by simp) _⟩
set_option maxHeartbeats 1000000 in
theorem refClean_any (r g b a : Int) (w : World) : Calls Try.prog 41 #[pv r g b a] w fun e w' => e = .returned (cln ⟨r, g, b, a⟩).v ∧ Below w.heap.size w w' := by
  go_enter Try.func41, Try.ntmps41
  go_wp2
  all_goals exact bodyPost_ret (v := (cln ⟨r, g, b, a⟩).v) (by simp_all [results, Try.results41, go_sem, cln]) rfl ⟨rfl, below1.alloc (by simp) _⟩
theorem w64 {x : Int} (h : Ch x) : IntKind.i64.wrap x = x := IntWalk.i64_in _ ⟨by omega, by omega⟩
theorem w8 {x : Int} (h : Ch x) : IntKind.u8.wrap x = x := by show x % 256 = x; omega
set_option maxHeartbeats 8000000 in
theorem combine_any {W : World} {L : List (Nat × Obj)} (k : FuncId) (caps : Array Value) (ch : Int → Int → Int) (p0 p1 p2 p3 q0 q1 q2 q3 al : Int) (w : World) (hS : St W L w)
    (he : ∀ args w, (callFunc k args).run Try.prog w = .ok (.enter k args) w) (hp0 : Ch p0) (hp1 : Ch p1) (hp2 : Ch p2) (hq0 : Ch q0) (hq1 : Ch q1) (hq2 : Ch q2) (hal : Ch al) (hch : ∀ b s, Ch b → Ch s → Ch (ch b s))
    (hc : ∀ b s V, Ch b → Ch s → St W L V → Calls Try.prog k (#[.int .i64 b, .int .i64 s] ++ caps) V fun e w' => e = .returned (.int .i64 (ch b s)) ∧ Below V.heap.size V w') :
    Calls Try.prog 62 #[pv p0 p1 p2 p3, pv q0 q1 q2 q3, .int .i64 al, .func (.func k) #[] caps] w fun e w' => e = .returned (pv (ch p0 q0) (ch p1 q1) (ch p2 q2) al) ∧ Below w.heap.size w w' := by
  have h0 := hch _ _ hp0 hq0
  have h1 := hch _ _ hp1 hq1
  have h2 := hch _ _ hp2 hq2
  have x0 := w64 hp0; have x1 := w64 hp1; have x2 := w64 hp2; have y0 := w64 hq0; have y1 := w64 hq1; have y2 := w64 hq2
  have z0 := w8 h0; have z1 := w8 h1; have z2 := w8 h2; have z3 := w8 hal
  go_enter Try.func62, Try.ntmps62
  go_upto_region 1 with fail
  have hs := (((St.start w).alloc (po p0 p1 p2 p3)).alloc (po q0 q1 q2 q3)).alloc (po 0 0 0 0)
  rw [World.size_alloc, World.size_alloc] at hs
  generalize ((w.alloc (po p0 p1 p2 p3)).alloc (po q0 q1 q2 q3)).alloc (po 0 0 0 0) = w1 at hs ⊢
  have HL : Hid (∀ V, St w [(w.heap.size + 1 + 1, po 0 0 0 0), (w.heap.size + 1, po q0 q1 q2 q3), (w.heap.size, po p0 p1 p2 p3)] V → St w [(w.heap.size + 1, po q0 q1 q2 q3), (w.heap.size, po p0 p1 p2 p3)] V) := fun V h => h.sub (by simp)
  have HP : Hid (∀ V, St w [(w.heap.size + 1, po q0 q1 q2 q3), (w.heap.size, po p0 p1 p2 p3)] V → St w [(w.heap.size + 1, po q0 q1 q2 q3), (w.heap.size, po p0 p1 p2 p3)] V ∧ RB V w.heap.size p0 p1 p2 p3 ∧ RB V (w.heap.size + 1) q0 q1 q2 q3) := fun V h => ⟨h, h.pix (by simp), h.pix (by simp)⟩
  have HF : Hid (∀ V, St w [(w.heap.size + 1 + 1, po 0 0 0 0), (w.heap.size + 1, po q0 q1 q2 q3), (w.heap.size, po p0 p1 p2 p3)] V → RB V (w.heap.size + 1 + 1) 0 0 0 0 ∧ ∀ j, V.frozen? ⟨w.heap.size + 1 + 1, j, none⟩ = false) := fun V h => ⟨h.pix (by simp), h.frozen (cs := #[.int .u8 0, .int .u8 0, .int .u8 0, .int .u8 0]) (t := 23) (by simp)⟩
  have HT : Hid (∀ V j v, St w [(w.heap.size + 1, po q0 q1 q2 q3), (w.heap.size, po p0 p1 p2 p3)] V → St w [(w.heap.size + 1, po q0 q1 q2 q3), (w.heap.size, po p0 p1 p2 p3)] (V.setCell ⟨w.heap.size + 1 + 1, j, none⟩ v)) := fun V j v h => h.set (by omega) (by simp; omega)
  have HK : Hid (∀ V, St w [(w.heap.size + 1 + 1, po 0 0 0 0), (w.heap.size + 1, po q0 q1 q2 q3), (w.heap.size, po p0 p1 p2 p3)] V → St W L V) := fun V h => hS.later h.below
  have hd := hs.drew
  clear hs
  obtain ⟨r0, f0⟩ := HF.out _ hd
  have hd2 := HL.out _ hd
  go_region_held3 (fun V => St w [(w.heap.size + 1, po q0 q1 q2 q3), (w.heap.size, po p0 p1 p2 p3)] V ∧ RB V w.heap.size p0 p1 p2 p3 ∧ RB V (w.heap.size + 1) q0 q1 q2 q3) ((refine HP.out _ ?_; repeat' (first | assumption | refine HT.out _ _ _ ?_))) (first
    | ((with_reducible refine (St.call (W := w) (L := [(w.heap.size + 1 + 1, po 0 0 0 0), (w.heap.size + 1, po q0 q1 q2 q3), (w.heap.size, po p0 p1 p2 p3)]) ?_ (hc _ _ _ ?_ ?_ ?_)).mono ?_); (focus assumption); (focus assumption); (focus assumption); (focus (refine HK.out _ ?_; assumption)); rintro e w4 ⟨rfl, h4⟩; obtain ⟨r4, f4⟩ := HF.out _ h4; have h5 := HL.out _ h4))
  clear hc HK HP HT HL HF
  go_wp2_with fail
  obtain ⟨r5, r6, r7, r8⟩ := r4
  exact bodyPost_ret (v := pv (ch p0 q0) (ch p1 q1) (ch p2 q2) al) (by simp [results, Try.results62, go_sem, *]) rfl ⟨rfl, below_set4 h4.below (by omega) _ _ _ _⟩
end Go.Proofs.Ytkomknhloimhcaa
