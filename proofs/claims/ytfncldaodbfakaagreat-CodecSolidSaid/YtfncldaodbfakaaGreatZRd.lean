/-
  A reader as one of one's own blocks; strings.CutPrefix by the signature; the checksum's bytes; the raster that is empty.
-/
import Derived.Test.YtfncldaodbfakaaGreatORead
import Derived.Test.YtfncldaodbfakaaGreatOTab
import Derived.Test.YtfncldaodbfakaaGreatPure
import Derived.Test.YtfncldaodbfakaaGreatZBld
namespace Go.Proofs.YtfncldaodbfakaaGreat.Z
open Go.RowKit Go.Shelf
set_option maxRecDepth 100000
variable {V W w w' : World} {L : List (Nat × Obj)} {g : Nat} {s : ByteArray} {p : Nat} {f : Bool}

/-- a reader of s in memory -/
abbrev rdo (s : ByteArray) (p : Nat) (f : Bool) : Obj := .cells #[.string s, .int .i64 p, .bool f] 172
theorem St.hdo {o o' : Obj} (h : St W ((g, o) :: L) w) (hg : w.grownBy w' (some g)) (hr : w'.heap[g]? = some o') (hW : W.heap.size ≤ g) (hL : ∀ x ∈ L, x.1 ≠ g) : St W ((g, o') :: L) w' := by
  refine ⟨h.below.trans ⟨hg.os, hg.tape, hg.output, hg.size, fun k hk => hg.block k (by have := h.below.size; omega) (fun e => by cases e; omega)⟩, fun x hx => ?_⟩
  rcases List.mem_cons.1 hx with rfl | hx
  · exact hr
  · have h1 := h.rows x (List.mem_cons_of_mem _ hx)
    rw [hg.block x.1 (Array.getElem?_eq_some_iff.1 h1).1 (fun e => hL x hx (by cases e; rfl))]
    exact h1
theorem St.rd (h : St W ((g, rdo s p f) :: L) w) : O.Rd w g s p f := h.row (List.mem_cons_self ..)
theorem read_new (s : ByteArray) (h : St W L w) : Calls Tryz.prog 59 #[.string s] w fun e w' => e = .returned (.pointer (some ⟨w.heap.size, 0, none⟩)) ∧ St W ((w.heap.size, rdo s 0 false) :: L) w' := by
  refine (O.read_any s w).mono fun e w' ⟨h1, h2, h3, h4⟩ => ⟨h1, (h.later h3).below, fun x hx => ?_⟩
  rcases List.mem_cons.1 hx with rfl | hx
  · exact h2
  · exact (h.later h3).rows x hx
theorem rd_take (n : Int) (h : St W ((g, rdo s p f) :: L) w) (hW : W.heap.size ≤ g) (hL : ∀ x ∈ L, x.1 ≠ g) (hp : p ≤ s.size) (hs : s.size ≤ 9223372036854775807) :
    Calls Tryz.prog 61 #[.pointer (some ⟨g, 0, none⟩), .int .i64 n] w fun e w' => e = .returned (.string (O.str (O.tk s.data.toList p f n).1)) ∧ St W ((g, rdo s (O.tk s.data.toList p f n).2.1 (O.tk s.data.toList p f n).2.2) :: L) w' :=
  (O.take_any g s p f n w (St.rd h) hp hs).mono fun _ _ ⟨h1, h2, h3⟩ => ⟨h1, St.hdo h h3 h2 hW hL⟩
theorem rd_text (h : St W ((g, rdo s p f) :: L) w) (hW : W.heap.size ≤ g) (hL : ∀ x ∈ L, x.1 ≠ g) (hp : p ≤ s.size) (hs : s.size ≤ 9223372036854775807) :
    Calls Tryz.prog 60 #[.pointer (some ⟨g, 0, none⟩)] w fun e w' => e = .returned (.string (O.str (O.tx s.data.toList p f).1)) ∧ St W ((g, rdo s (O.tx s.data.toList p f).2.1 (O.tx s.data.toList p f).2.2) :: L) w' :=
  (O.text_read g s p f w (St.rd h) hp hs).mono fun _ _ ⟨h1, h2, h3⟩ => ⟨h1, St.hdo h h3 h2 hW hL⟩
theorem rd_var (h : St W ((g, rdo s p f) :: L) w) (hW : W.heap.size ≤ g) (hL : ∀ x ∈ L, x.1 ≠ g) (hp : p ≤ s.size) (hs : s.size ≤ 9223372036854775807) :
    Calls Tryz.prog 116 #[.pointer (some ⟨g, 0, none⟩)] w fun e w' => e = .returned (.int .i64 (O.vr s.data.toList p f).1) ∧ St W ((g, rdo s (O.vr s.data.toList p f).2.1 (O.vr s.data.toList p f).2.2) :: L) w' :=
  (O.var_read g s p f w (St.rd h) hp hs).mono fun _ _ ⟨h1, h2, h3⟩ => ⟨h1, St.hdo h h3 h2 hW hL⟩
theorem rd_num (z : Int) (h : St W ((g, rdo s p f) :: L) w) (hW : W.heap.size ≤ g) (hL : ∀ x ∈ L, x.1 ≠ g) (hp : p ≤ s.size) (hs : s.size ≤ 9223372036854775807) :
    Calls Tryz.prog 158 #[.pointer (some ⟨g, 0, none⟩), .int .i64 z] w fun e w' => e = .returned (.int .i64 (O.nm s.data.toList p f z).1) ∧ St W ((g, rdo s (O.nm s.data.toList p f z).2.1 (O.nm s.data.toList p f z).2.2) :: L) w' :=
  (O.num_read g s p f z w (St.rd h) hp hs).mono fun _ _ ⟨h1, h2, h3⟩ => ⟨h1, St.hdo h h3 h2 hW hL⟩
theorem rd_failed (h : St W ((g, rdo s p f) :: L) w) : Calls Tryz.prog 62 #[.pointer (some ⟨g, 0, none⟩)] w fun e w' => e = .returned (.bool f) ∧ St W ((g, rdo s p f) :: L) w' :=
  (O.failed_any g s p f w (St.rd h)).mono fun _ _ ⟨h1, h2⟩ => ⟨h1, h2 ▸ h⟩
theorem rd_left (h : St W ((g, rdo s p f) :: L) w) (hp : p ≤ s.size) (hs : s.size ≤ 9223372036854775807) : Calls Tryz.prog 117 #[.pointer (some ⟨g, 0, none⟩)] w fun e w' => e = .returned (.int .i64 ((s.size : Int) - p)) ∧ St W ((g, rdo s p f) :: L) w' :=
  (O.left_any g s p f w (St.rd h) hp hs).mono fun _ _ ⟨h1, n, h2⟩ => ⟨h1, h2 ▸ h.drewN n⟩

/-- the signature -/
abbrev sig : ByteArray := ⟨#[71, 1]⟩
/-- what CutPrefix makes of a string -/
def cutP (s : ByteArray) : ByteArray × Bool := if Lib.hasPrefix s.data.toList [71, 1] = true then (O.str (s.data.toList.drop 2), true) else (s, false)
theorem cut_lite (s : ByteArray) (w : World) (hs : s.size ≤ 9223372036854775807) : Calls Tryz.prog 114 #[.string s, .string sig] w fun e w' => e = .returned (.tuple #[.string (cutP s).1, .bool (cutP s).2]) ∧ w = w' := by
  have HP : Hid (∀ V, Calls Tryz.prog 155 #[.string s, .string sig] V fun e w' => e = .returned (.bool (Lib.hasPrefix s.data.toList [71, 1])) ∧ w' = V) := fun V => Tryz.stringslite_HasPrefix s sig V
  have HC : Hid (cutP s = if Lib.hasPrefix s.data.toList [71, 1] = true then (O.str (s.data.toList.drop 2), true) else (s, false)) := rfl
  have HL : Hid (Lib.hasPrefix s.data.toList [71, 1] = true → 2 ≤ s.size ∧ O.str (s.data.toList.drop 2) = s.extract 2 s.size) := fun h => by
    obtain ⟨r, hr⟩ := List.isPrefixOf_iff_prefix.1 h
    have hl : s.data.toList.length = s.size := Array.length_toList
    have h2 : 2 ≤ s.size := by rw [← hl, ← hr]; simp
    refine ⟨h2, ?_⟩
    have := O.extract_str s 2 (s.size - 2)
    rw [show 2 + (s.size - 2) = s.size by omega] at this
    rw [this, List.take_of_length_le (by rw [List.length_drop]; omega)]
  generalize Lib.hasPrefix s.data.toList [71, 1] = b at HP HC HL
  go_enter Tryz.func114, Tryz.ntmps114
  cases b
  · go_wp2_with (go_at_call 155; refine (HP.out _).mono ?_; rintro e wq ⟨rfl, rfl⟩)
    go_ret2
    exact ⟨by rw [HC.out]; rfl, rfl⟩
  · obtain ⟨h2, h3⟩ := HL.out rfl
    have hsz : sig.size = 2 := rfl
    go_wp2_with (go_at_call 155; refine (HP.out _).mono ?_; rintro e wq ⟨rfl, rfl⟩)
    go_ret2
    exact ⟨by rw [HC.out, if_pos trivial, h3]; rfl, rfl⟩
theorem cut_any (s : ByteArray) (w : World) (hs : s.size ≤ 9223372036854775807) : Calls Tryz.prog 58 #[.string s, .string sig] w fun e w' => e = .returned (.tuple #[.string (cutP s).1, .bool (cutP s).2]) ∧ w = w' := by
  have HP := Lib.hid (cut_lite s w hs)
  generalize cutP s = c at HP ⊢
  go_enter Tryz.func58, Tryz.ntmps58
  go_wp2_with (go_at_call 114; refine HP.out.mono ?_; rintro e wq ⟨rfl, rfl⟩)
  go_ret2
  exact ⟨rfl, rfl⟩

/-- the four bytes of a checksum -/
def sm (l : List UInt8) : List UInt8 := O.Leb.putN (O.Crc.crc l) 4
theorem sm_len (l : List UInt8) : (sm l).length = 4 := O.Leb.putN_len _ _
theorem sumOf_any (s : ByteArray) (w : World) (hs : s.size ≤ 9223372036854775807) : Calls Tryz.prog 56 #[.string s] w fun e w' => e = .returned (.string (O.str (sm s.data.toList))) ∧ Below w.heap.size w w' := by
  have h0 := St.start w
  have hlt := O.Crc.crc_lt s.data.toList
  have H1 := Lib.hid (fun V => O.sum_any s V (by unfold maxLen; omega))
  have HP : Hid (∀ V, Calls Tryz.prog 108 #[.int .i64 (O.Crc.crc s.data.toList : Nat), .int .i64 4] V fun e w' => e = .returned (.string (O.str (sm s.data.toList))) ∧ Below V.heap.size V w') := fun V => by
    have h := O.put_any (O.Crc.crc s.data.toList : Nat) 4 V
    rw [O.u64of_nat (by omega), show (O.clampI 4).toNat = 4 from rfl] at h
    exact h
  generalize sm s.data.toList = q at *
  generalize O.Crc.crc s.data.toList = c at *
  go_enter Tryz.func56, Tryz.ntmps56
  go_wp2_with (first
    | (go_at_call 110; refine (h0.call (H1.out _)).mono ?_; rintro e w1 ⟨rfl, h1⟩)
    | (go_at_call 108; refine (h1.call (HP.out _)).mono ?_; rintro e w2 ⟨rfl, h2⟩))
  go_ret
  exact ⟨rfl, h2.below⟩
theorem zero_rob (w : World) : (zeroValue 26).run Tryz.prog w = .ok (.agg #[.slice none 0 0]) w := by kernel_rfl
theorem valid0 (w : World) : Calls Tryz.prog 49 #[.agg #[.slice none 0 0]] w fun e w' => e = .returned (.bool true) ∧ Below w.heap.size w w' := by
  have h0 := (St.start w).alloc (.cells #[.slice none 0 0] 26)
  have hc := h0.cell (List.mem_cons_self ..) 0
  have HC := Lib.hid hc
  have H0 := Lib.hid h0
  clear h0
  go_enter Tryz.func49, Tryz.ntmps49
  go_wp2
  generalize (w.alloc (.cells #[.slice none 0 0] 26)) = w1 at *
  go_loopw [11] (fun i wr => i = .int .i64 0 ∧ wr = w1) (fun _ _ => 0)
  case atStart => exact ⟨rfl, rfl⟩
  case round =>
    obtain ⟨rfl, rfl⟩ := hrel
    go_wp2
    go_ret
    exact ⟨rfl, H0.out.below⟩
end Go.Proofs.YtfncldaodbfakaaGreat.Z
