/-
  OctetDecodes: a reader and the reference's, side by side; a nil reader; a zero reader. No conditions.
-/
import Derived.Test.YtgalkcfcpkkjgaaState
import Derived.Test.YtgalkcfcpkkjgaaRef
import Derived.Deep.DeepCutAuto
import Derived.Deep.SlicePairs
namespace Go.Proofs.Ytgalkcfcpkkjgaa.Dec
open Go.ChangeShapes Go.WideShapes Go.ChangeAt Go.RowKit
open Go.ChangeMaps (open_string shut_string)

/-- the reader in block g at (p, f), the reference's in block h at (p2, f2), a zero reader in block z -/
structure Dst (W : World) (g h z : Nat) (s : ByteArray) (p : Nat) (f : Bool) (p2 : Nat) (f2 : Bool) (w : World) : Prop where
  r : RSt W g s p f w
  q : RdR w h s p2 f2
  o : RSt W z ByteArray.empty 0 false w
  gh : g ≠ h
  gz : g ≠ z
  hz : h ≠ z
  ath : W.heap.size ≤ h
  le2 : p2 ≤ s.size
variable {W w w' : World} {g h z : Nat} {s : ByteArray} {p p2 : Nat} {f f2 : Bool}
theorem Dst.stepR (H : Dst W g h z s p f p2 f2 w) {p' : Nat} {f' : Bool} (hr : RSt W g s p' f' w') (hg : w.grownBy w' (some g)) : Dst W g h z s p' f' p2 f2 w' :=
  ⟨hr, H.q.kept hg H.gh.symm, H.o.other hg H.gz.symm H.r.at_, H.gh, H.gz, H.hz, H.ath, H.le2⟩
theorem Dst.stepQ (H : Dst W g h z s p f p2 f2 w) {p' : Nat} {f' : Bool} (hq : RdR w' h s p' f') (hl : p' ≤ s.size) (hg : w.grownBy w' (some h)) : Dst W g h z s p f p' f' w' :=
  ⟨H.r.other hg H.gh H.ath, hq, H.o.other hg H.hz.symm H.ath, H.gh, H.gz, H.hz, H.ath, hl⟩
theorem Dst.drewN (H : Dst W g h z s p f p2 f2 w) (n : Nat) : Dst W g h z s p f p2 f2 (w.drewN n) := ⟨H.r.drewN n, H.q, H.o.drewN n, H.gh, H.gz, H.hz, H.ath, H.le2⟩
theorem Dst.later (H : Dst W g h z s p f p2 f2 w) (hb : Below w.heap.size w w') : Dst W g h z s p f p2 f2 w' :=
  ⟨H.r.later hb, H.q.keptB hb (Array.getElem?_eq_some_iff.1 H.q).1, H.o.later hb, H.gh, H.gz, H.hz, H.ath, H.le2⟩
theorem Dst.drew (H : Dst W g h z s p f p2 f2 w) : Dst W g h z s p f p2 f2 w.drew := ⟨H.r.drew, H.q, H.o.drew, H.gh, H.gz, H.hz, H.ath, H.le2⟩
theorem Dst.num (H : Dst W g h z s p f p2 f2 w) {x n : Int} {p' : Nat} {f' : Bool} (ht : nm s.data.toList p f x = (n, p', f')) :
    Calls Try.prog 23 #[.pointer (some ⟨g, 0, none⟩), .int .i64 x] w fun e w' => e = .returned (.int .i64 n) ∧ Dst W g h z s p' f' p2 f2 w' :=
  (H.r.num ht).mono fun _ _ ⟨h1, h2, h3⟩ => ⟨h1, H.stepR h2 h3⟩
theorem Dst.var (H : Dst W g h z s p f p2 f2 w) {n : Int} {p' : Nat} {f' : Bool} (ht : vr s.data.toList p f = (n, p', f')) :
    Calls Try.prog 25 #[.pointer (some ⟨g, 0, none⟩)] w fun e w' => e = .returned (.int .i64 n) ∧ Dst W g h z s p' f' p2 f2 w' :=
  (H.r.var ht).mono fun _ _ ⟨h1, h2, h3⟩ => ⟨h1, H.stepR h2 h3⟩
theorem Dst.text (H : Dst W g h z s p f p2 f2 w) {l : List UInt8} {p' : Nat} {f' : Bool} (ht : tx s.data.toList p f = (l, p', f')) :
    Calls Try.prog 27 #[.pointer (some ⟨g, 0, none⟩)] w fun e w' => e = .returned (.string (str l)) ∧ Dst W g h z s p' f' p2 f2 w' :=
  (H.r.text ht).mono fun _ _ ⟨h1, h2, h3⟩ => ⟨h1, H.stepR h2 h3⟩
theorem Dst.take (H : Dst W g h z s p f p2 f2 w) {n : Int} {l : List UInt8} {p' : Nat} {f' : Bool} (ht : tk s.data.toList p f n = (l, p', f')) :
    Calls Try.prog 29 #[.pointer (some ⟨g, 0, none⟩), .int .i64 n] w fun e w' => e = .returned (.string (str l)) ∧ Dst W g h z s p' f' p2 f2 w' :=
  (H.r.take ht).mono fun _ _ ⟨h1, h2, h3⟩ => ⟨h1, H.stepR h2 h3⟩
theorem Dst.refTake (H : Dst W g h z s p f p2 f2 w) {n : Int} {l : List UInt8} {p' : Nat} {f' : Bool} (ht : tk s.data.toList p2 f2 n = (l, p', f')) :
    Calls Try.prog 30 #[.pointer (some ⟨h, 0, none⟩), .int .i64 n] w fun e w' => e = .returned (.string (str l)) ∧ Dst W g h z s p f p' f' w' := by
  have hc := Ytgalkcfcpkkjgaa.refTake h s p2 f2 n w H.q H.le2 H.r.sz
  have hle := tk_bd (S := s.data.toList) (p := p2) f2 n (by rw [lenS]; exact H.le2)
  rw [ht] at hc hle
  rw [lenS] at hle
  exact hc.mono fun _ _ ⟨h1, h2, h3⟩ => ⟨h1, H.stepQ h2 hle h3⟩
theorem Dst.refNum (H : Dst W g h z s p f p2 f2 w) {x n : Int} {p' : Nat} {f' : Bool} (ht : nm s.data.toList p2 f2 x = (n, p', f')) :
    Calls Try.prog 24 #[.pointer (some ⟨h, 0, none⟩), .int .i64 x] w fun e w' => e = .returned (.int .i64 n) ∧ Dst W g h z s p f p' f' w' := by
  have hc := Ytgalkcfcpkkjgaa.refNum h s p2 f2 x w H.q H.le2 H.r.sz
  have hle : (nm s.data.toList p2 f2 x).2.1 ≤ s.data.toList.length := tk_bd (S := s.data.toList) (p := p2) f2 (clampI x) (by rw [lenS]; exact H.le2)
  rw [ht] at hc hle
  rw [lenS] at hle
  exact hc.mono fun _ _ ⟨h1, h2, h3⟩ => ⟨h1, H.stepQ h2 hle h3⟩
theorem Dst.refVar (H : Dst W g h z s p f p2 f2 w) {n : Int} {p' : Nat} {f' : Bool} (ht : vr s.data.toList p2 f2 = (n, p', f')) :
    Calls Try.prog 26 #[.pointer (some ⟨h, 0, none⟩)] w fun e w' => e = .returned (.int .i64 n) ∧ Dst W g h z s p f p' f' w' := by
  have hc := Ytgalkcfcpkkjgaa.refVar h s p2 f2 w H.q H.le2 H.r.sz
  have hle := vr_bd (S := s.data.toList) (p := p2) f2 (by rw [lenS]; exact H.le2)
  rw [ht] at hc hle
  rw [lenS] at hle
  exact hc.mono fun _ _ ⟨h1, h2, h3⟩ => ⟨h1, H.stepQ h2 hle h3⟩
theorem Dst.refText (H : Dst W g h z s p f p2 f2 w) {l : List UInt8} {p' : Nat} {f' : Bool} (ht : tx s.data.toList p2 f2 = (l, p', f')) :
    Calls Try.prog 28 #[.pointer (some ⟨h, 0, none⟩)] w fun e w' => e = .returned (.string (str l)) ∧ Dst W g h z s p f p' f' w' := by
  have hc := Ytgalkcfcpkkjgaa.refText h s p2 f2 w H.q H.le2 H.r.sz
  have hle := tx_bd (S := s.data.toList) (p := p2) f2 (by rw [lenS]; exact H.le2)
  rw [ht] at hc hle
  rw [lenS] at hle
  exact hc.mono fun _ _ ⟨h1, h2, h3⟩ => ⟨h1, H.stepQ h2 hle h3⟩

set_option maxHeartbeats 20000000 in
set_option maxRecDepth 100000 in
theorem walk (s : ByteArray) (ks : Nat → Nat) (ns : Nat → Int) (po : Option Addr) (n c1 k : Nat) (W : World) (hs : s.size ≤ 9223372036854775807) (hk : k = min n 60) (hn : n ≤ 9223372036854775807)
    (HI : Hid (∀ i, i < n → ∃ b off, po = some ⟨b, off, none⟩ ∧ b < W.heap.size ∧ W.cell? ⟨b, off + i * 2, none⟩ = some (.int .u8 (ks i)) ∧ W.cell? ⟨b, off + i * 2 + 1, none⟩ = some (.int .i64 (ns i)) ∧ ks i < 256 ∧ -9223372036854775808 ≤ ns i ∧ ns i ≤ 9223372036854775807)) :
    Calls Try.prog 4 #[.string s, .slice po n c1] W fun e w' => e = .returned (.bool true) ∧ Below W.heap.size W w' := by
  have HK := Lib.hid hk; clear hk
  go_enter Try.func4, Try.ntmps4
  go_wp2_with (first
    | (go_at_call 13; (with_reducible refine (sane_any _).mono ?_); rintro e w1 ⟨rfl, hb⟩)
    | (go_at_call 22; (with_reducible refine (RSt.read (W := W) ?_ s hs).mono ?_); (focus assumption); rintro e w2 ⟨rfl, hr, hbr⟩))
  have HD0 : Hid (Dst W w1.heap.size w2.heap.size (w2.heap.size + 1) s 0 false 0 false ((w2.alloc (Obj.cells #[Value.string s, Value.int IntKind.i64 0, Value.bool false] 34)).alloc
    (Obj.cells #[Value.string { data := #[] }, Value.int IntKind.i64 0, Value.bool false] 36))) := by
    have h1 := hr.lt
    have h2 := hr.below.size
    refine ⟨(hr.alloc _).alloc _, ?_, ⟨((hr.alloc (Obj.cells #[Value.string s, Value.int IntKind.i64 0, Value.bool false] 34)).alloc (Obj.cells #[Value.string { data := #[] }, Value.int IntKind.i64 0, Value.bool false] 36)).below, ?_, by omega, Nat.zero_le _, Nat.zero_le _⟩, by omega, by omega, by omega, h2, Nat.zero_le _⟩
    · unfold RdR
      rw [Below.heap_alloc _ _ _ (by simp)]; exact heap_alloc_new _ _
    · unfold Rd
      have := heap_alloc_new (w2.alloc (Obj.cells #[Value.string s, Value.int IntKind.i64 0, Value.bool false] 34)) (Obj.cells #[Value.string { data := #[] }, Value.int IntKind.i64 0, Value.bool false] 36)
      simp at this ⊢; exact this
  clear hb hr hbr
  generalize ((w2.alloc (Obj.cells #[Value.string s, Value.int IntKind.i64 0, Value.bool false] 34)).alloc
    (Obj.cells #[Value.string { data := #[] }, Value.int IntKind.i64 0, Value.bool false] 36)) = w3 at HD0 ⊢
  generalize w2.heap.size + 1 = z at HD0 ⊢
  generalize w2.heap.size = h at HD0 ⊢
  generalize w1.heap.size = g at HD0 ⊢
  go_loopw [10] (fun i wr => ∃ (j p : Nat) (f : Bool), Hid (j ≤ k) ∧ i = .int .i64 j ∧ Hid (Dst W g h z s p f p f wr)) (fun i _ => 60 - (intOf i).toNat)
  case atStart => exact ⟨0, 0, false, Nat.zero_le _, rfl, HD0⟩
  case round =>
    clear HD0
    obtain ⟨j, p, f, HJ, rfl, HD⟩ := hrel
    have hj2 := HJ.out
    have j0 : (0 : Int) ≤ j := by omega
    have j60 : (j : Int) ≤ 60 := by have := HK.out; omega
    go_upto_region 7 with fail
    go_cut [29] (fun v wx => v = .bool (decide (j < k)) ∧ wx = wr)
    case first =>
      by_cases h1 : (j : Int) < n
      · by_cases h2 : (j : Int) < 60
        · go_wp2_with fail
          go_meet
          exact ⟨by rw [decide_eq_true (by have := HK.out; omega)], rfl⟩
        · go_wp2_with fail
          go_meet
          exact ⟨by rw [decide_eq_false (by have := HK.out; omega)], rfl⟩
      · go_wp2_with fail
        go_meet
        exact ⟨by rw [decide_eq_false (by have := HK.out; omega)], rfl⟩
    case rest =>
    obtain ⟨rfl, rfl⟩ := hcut
    by_cases hjk : j < k
    · obtain ⟨b, off, rfl, hbs, hc0, hc1, hk8, hz1, hz2⟩ := HI.out j (by have := HK.out; omega)
      rw [decide_eq_true hjk]
      have jn : (j : Int) < n := by have := HK.out; omega
      have hw0 : wc.cell? ⟨b, off + j * 2, none⟩ = some (.int .u8 (ks j)) := by rw [HD.out.r.below.cell (p := ⟨b, off + j * 2, none⟩) hbs]; exact hc0
      have hw1 : wc.cell? ⟨b, off + j * 2 + 1, none⟩ = some (.int .i64 (ns j)) := by rw [HD.out.r.below.cell (p := ⟨b, off + j * 2 + 1, none⟩) hbs]; exact hc1
      generalize ks j = K at hc0 hk8 hw0
      generalize ns j = N at hc1 hz1 hz2 hw1
      go_upto_if 42 with fail
      go_cut [11] (fun v wx => ∃ M : Int, v = .int .i64 M ∧ wx = wc)
      case first =>
        by_cases h8 : (128 : Int) ≤ K
        · go_wp2_with fail
          go_meet
          exact ⟨_, rfl, rfl⟩
        · go_wp2_with fail
          go_meet
          exact ⟨_, rfl, rfl⟩
      case rest =>
      obtain ⟨M, rfl, rfl⟩ := hcut
      have hw0 : wc.cell? ⟨b, off + j * 2, none⟩ = some (.int .u8 K) := by rw [HD.out.r.below.cell (p := ⟨b, off + j * 2, none⟩) hbs]; exact hc0
      clear hw1 hc1
      have hmod : (K : Int).tmod 4 = ((K % 4 : Nat) : Int) := by rw [Int.tmod_eq_emod_of_nonneg (by omega)]; omega
      obtain ⟨q, hq⟩ : ∃ q, K % 4 = q := ⟨_, rfl⟩
      have hq4 : q < 4 := by omega
      rw [hq] at hmod
      clear hq
      have hq' : q = 0 ∨ q = 1 ∨ q = 2 ∨ q = 3 := by omega
      rcases hq' with rfl | rfl | rfl | rfl
      · obtain ⟨V, p', f', T⟩ : ∃ V p' f', nm s.data.toList p f M = (V, p', f') := ⟨_, _, _, rfl⟩
        have T := Lib.hid T
        have hnil : (str []).toList = [] := by rw [ByteArray.toList_eq, str_toList]
        go_upto_region 21 with (first
          | (go_at_call 23; (with_reducible refine (num_read_nil _ _).mono ?_); rintro e w6 ⟨rfl, hbn⟩; have hd3 := hd2.later hbn)
          | (go_at_call 23; (with_reducible refine (HD.out.num T.out).mono ?_); rintro e w4 ⟨rfl, hd1⟩)
          | (go_at_call 24; (with_reducible refine (hd1.refNum T.out).mono ?_); rintro e w5 ⟨rfl, hd2⟩))
        have HD3 := Lib.hid hd3
        obtain ⟨_, d1, d2, _, _⟩ := hd3.q.cells
        have hle := hd3.r.le
        clear hd1 hd2 hd3 T HD hmod
        have hwr : IntKind.i64.wrap ((s.size : Int) - p') = (s.size : Int) - p' := IntWalk.i64_in _ ⟨by omega, by omega⟩
        go_quiet ((first
          | (go_at_call 31; exact quiet_same (RSt.pos (W := W) (g := g) (s := s) (p := p') (f := f') (HD3.out.drewN _).r))
          | (go_at_call 33; exact quiet_same (RSt.failed (W := W) (g := g) (s := s) (p := p') (f := f') (HD3.out.drewN _).r))
          | (go_at_call 32; exact quiet_draw (RSt.left (W := W) (g := g) (s := s) (p := p') (f := f') (HD3.out.drewN _).r))))
        go_wp2_with fail
        go_roundw
        case rel => exact ⟨j + 1, p', f', by unfold Hid; omega, by go_num, by first | exact HD3.out | exact HD3.out.drewN _⟩
        case measure => have := HK.out; simp [intOf]; omega
      · obtain ⟨V, p', f', T⟩ : ∃ V p' f', vr s.data.toList p f = (V, p', f') := ⟨_, _, _, rfl⟩
        have T := Lib.hid T
        have hnil : (str []).toList = [] := by rw [ByteArray.toList_eq, str_toList]
        go_upto_region 21 with (first
          | (go_at_call 25; (with_reducible refine (var_read_nil _).mono ?_); rintro e w6 ⟨rfl, rfl⟩; have hd3 := hd2)
          | (go_at_call 25; (with_reducible refine (HD.out.var T.out).mono ?_); rintro e w4 ⟨rfl, hd1⟩)
          | (go_at_call 26; (with_reducible refine (hd1.refVar T.out).mono ?_); rintro e w5 ⟨rfl, hd2⟩))
        have HD3 := Lib.hid hd3
        obtain ⟨_, d1, d2, _, _⟩ := hd3.q.cells
        have hle := hd3.r.le
        clear hd1 hd2 hd3 T HD hmod
        have hwr : IntKind.i64.wrap ((s.size : Int) - p') = (s.size : Int) - p' := IntWalk.i64_in _ ⟨by omega, by omega⟩
        go_quiet ((first
          | (go_at_call 31; exact quiet_same (RSt.pos (W := W) (g := g) (s := s) (p := p') (f := f') (HD3.out.drewN _).r))
          | (go_at_call 33; exact quiet_same (RSt.failed (W := W) (g := g) (s := s) (p := p') (f := f') (HD3.out.drewN _).r))
          | (go_at_call 32; exact quiet_draw (RSt.left (W := W) (g := g) (s := s) (p := p') (f := f') (HD3.out.drewN _).r))))
        go_wp2_with fail
        go_roundw
        case rel => exact ⟨j + 1, p', f', by unfold Hid; omega, by go_num, by first | exact HD3.out | exact HD3.out.drewN _⟩
        case measure => have := HK.out; simp [intOf]; omega
      · obtain ⟨V, p', f', T⟩ : ∃ V p' f', tx s.data.toList p f = (V, p', f') := ⟨_, _, _, rfl⟩
        have T := Lib.hid T
        have hnil : (str []).toList = [] := by rw [ByteArray.toList_eq, str_toList]
        go_upto_region 21 with (first
          | (go_at_call 27; (with_reducible refine (text_read_nil _).mono ?_); rintro e w6 ⟨rfl, rfl⟩; have hd3 := hd2)
          | (go_at_call 27; (with_reducible refine (HD.out.text T.out).mono ?_); rintro e w4 ⟨rfl, hd1⟩)
          | (go_at_call 28; (with_reducible refine (hd1.refText T.out).mono ?_); rintro e w5 ⟨rfl, hd2⟩))
        have HD3 := Lib.hid hd3
        obtain ⟨_, d1, d2, _, _⟩ := hd3.q.cells
        have hle := hd3.r.le
        clear hd1 hd2 hd3 T HD hmod
        have hwr : IntKind.i64.wrap ((s.size : Int) - p') = (s.size : Int) - p' := IntWalk.i64_in _ ⟨by omega, by omega⟩
        go_quiet ((first
          | (go_at_call 31; exact quiet_same (RSt.pos (W := W) (g := g) (s := s) (p := p') (f := f') (HD3.out.drewN _).r))
          | (go_at_call 33; exact quiet_same (RSt.failed (W := W) (g := g) (s := s) (p := p') (f := f') (HD3.out.drewN _).r))
          | (go_at_call 32; exact quiet_draw (RSt.left (W := W) (g := g) (s := s) (p := p') (f := f') (HD3.out.drewN _).r))))
        go_wp2_with fail
        go_roundw
        case rel => exact ⟨j + 1, p', f', by unfold Hid; omega, by go_num, by first | exact HD3.out | exact HD3.out.drewN _⟩
        case measure => have := HK.out; simp [intOf]; omega
      · obtain ⟨V, p', f', T⟩ : ∃ V p' f', tk s.data.toList p f M = (V, p', f') := ⟨_, _, _, rfl⟩
        have T := Lib.hid T
        have hnil : (str []).toList = [] := by rw [ByteArray.toList_eq, str_toList]
        go_upto_region 21 with (first
          | (go_at_call 29; (with_reducible refine (take_nil _ _).mono ?_); rintro e w6 ⟨rfl, rfl⟩; have hd3 := hd2)
          | (go_at_call 29; (with_reducible refine (HD.out.take T.out).mono ?_); rintro e w4 ⟨rfl, hd1⟩)
          | (go_at_call 30; (with_reducible refine (hd1.refTake T.out).mono ?_); rintro e w5 ⟨rfl, hd2⟩))
        have HD3 := Lib.hid hd3
        obtain ⟨_, d1, d2, _, _⟩ := hd3.q.cells
        have hle := hd3.r.le
        clear hd1 hd2 hd3 T HD hmod
        have hwr : IntKind.i64.wrap ((s.size : Int) - p') = (s.size : Int) - p' := IntWalk.i64_in _ ⟨by omega, by omega⟩
        go_quiet ((first
          | (go_at_call 31; exact quiet_same (RSt.pos (W := W) (g := g) (s := s) (p := p') (f := f') (HD3.out.drewN _).r))
          | (go_at_call 33; exact quiet_same (RSt.failed (W := W) (g := g) (s := s) (p := p') (f := f') (HD3.out.drewN _).r))
          | (go_at_call 32; exact quiet_draw (RSt.left (W := W) (g := g) (s := s) (p := p') (f := f') (HD3.out.drewN _).r))))
        go_wp2_with fail
        go_roundw
        case rel => exact ⟨j + 1, p', f', by unfold Hid; omega, by go_num, by first | exact HD3.out | exact HD3.out.drewN _⟩
        case measure => have := HK.out; simp [intOf]; omega
    · obtain rfl : j = k := by omega
      rw [decide_eq_false hjk]
      have ho := HD.out.o
      clear HD hjk hj2 HJ
      have hnil : (str []).toList = [] := by rw [ByteArray.toList_eq, str_toList]
      have T8 : Hid (tk ByteArray.empty.data.toList 0 false 0 = ([], 0, false)) := rfl
      have T9 : Hid (tk ByteArray.empty.data.toList 0 false 1 = ([], 0, true)) := rfl
      have hes : ByteArray.empty.size = 0 := rfl
      go_wp2_with (first
        | (go_at_call 32; (with_reducible refine (left_nil _).mono ?_); rintro e w4 ⟨rfl, rfl⟩)
        | (go_at_call 32; (with_reducible refine (RSt.left (W := W) ho).mono ?_); rintro e w4 ⟨rfl, nd, rfl⟩; have ho2 := ho.drewN nd)
        | (go_at_call 31; (with_reducible refine (at_nil _).mono ?_); rintro e w4 ⟨rfl, rfl⟩)
        | (go_at_call 31; (with_reducible refine (RSt.pos (W := W) ho2).mono ?_); rintro e w4 ⟨rfl, rfl⟩)
        | (go_at_call 33; (with_reducible refine (failed_nil _).mono ?_); rintro e w4 ⟨rfl, rfl⟩)
        | (go_at_call 33; (with_reducible refine (RSt.failed (W := W) ho4).mono ?_); rintro e w4 ⟨rfl, rfl⟩)
        | (go_at_call 33; (with_reducible refine (RSt.failed (W := W) ho2).mono ?_); rintro e w4 ⟨rfl, rfl⟩)
        | (go_at_call 29; (with_reducible refine (RSt.take (W := W) ho3 T9.out).mono ?_); rintro e w4 ⟨rfl, ho4, hg4⟩)
        | (go_at_call 29; (with_reducible refine (RSt.take (W := W) ho2 T8.out).mono ?_); rintro e w4 ⟨rfl, ho3, hg3⟩))
      go_ret
      exact ⟨rfl, ho4.below⟩

theorem opened_ops {H : Type} {enc : TypeId × Value → H} {W : World} {b0 : Nat} {r : Reach} {v : Value} {d : DataW H} {p : List MemPlace} (hv : Value.okWide Try.prog W r b0 29 v) (h : DataW.Trod enc Try.prog W 0 (fun _ => true) true 29 v d p) :
    ∃ (po : Option Addr) (n c : Nat) (ks : Nat → Nat) (ns : Nat → Int), v = .slice po n c ∧ n ≤ 9223372036854775807 ∧
      Hid (∀ i, i < n → ∃ b off, po = some ⟨b, off, none⟩ ∧ b < W.heap.size ∧ W.cell? ⟨b, off + i * 2, none⟩ = some (.int .u8 (ks i)) ∧ W.cell? ⟨b, off + i * 2 + 1, none⟩ = some (.int .i64 (ns i)) ∧ ks i < 256 ∧ -9223372036854775808 ≤ ns i ∧ ns i ≤ 9223372036854775807) := by
  obtain ⟨a0, len, cap, rfl⟩ := okWide_slice Try.underlying29 hv
  obtain ⟨fuel, hf⟩ := h
  rcases Go.Deep.open_slice_pairs Try.underlying29 Try.underlying38 (by kernel_rfl) rfl rfl (by kernel_rfl) (by kernel_rfl) hf with ⟨hcs, _⟩ | ⟨a, len', cap', m, fu, V0, V1, D0, D1, P0, P1, hcs, _, hl, hm, hmm, _, hcell⟩
  · simp [Value.cells] at hcs
    obtain ⟨rfl, rfl, rfl⟩ := hcs
    exact ⟨none, 0, 0, fun _ => 0, fun _ => 0, rfl, by omega, fun i hi => by omega⟩
  · simp [Value.cells] at hcs
    obtain ⟨rfl, rfl, rfl⟩ := hcs
    simp only [if_true] at hmm
    have each : ∀ i, ∃ y : Nat × Int, i < len → V0 i = .int .u8 (y.1 : Int) ∧ V1 i = .int .i64 y.2 ∧ y.1 < 256 ∧ -9223372036854775808 ≤ y.2 ∧ y.2 ≤ 9223372036854775807 := by
      intro i
      by_cases hi : i < len
      · obtain ⟨_, _, h0, h1⟩ := hcell i (by omega)
        obtain ⟨x, e1, _, w1⟩ := DataW.trod_int Try.underlying5 h0
        obtain ⟨y, e2, _, w2⟩ := DataW.trod_int Try.underlying3 h1
        have hx : 0 ≤ x ∧ x ≤ 255 := by simpa [Lit.wf, IntKind.min, IntKind.max, IntKind.signed, IntKind.bits] using w1
        have hy : -9223372036854775808 ≤ y ∧ y ≤ 9223372036854775807 := by simpa [Lit.wf, IntKind.min, IntKind.max, IntKind.signed, IntKind.bits] using w2
        have e1' : V0 i = .int .u8 x := by simpa using e1
        have e2' : V1 i = .int .i64 y := by simpa using e2
        exact ⟨(x.toNat, y), fun _ => ⟨by rw [e1']; congr 1; show x = (x.toNat : Int); omega, e2', by show x.toNat < 256; omega, hy.1, hy.2⟩⟩
      · exact ⟨(0, 0), fun h => absurd h hi⟩
    obtain ⟨F, hF⟩ := Classical.axiomOfChoice each
    refine ⟨some a, len, cap, fun i => (F i).1, fun i => (F i).2, rfl, by unfold maxLen at hm; omega, fun i hi => ?_⟩
    obtain ⟨b, off, spot⟩ := a
    obtain ⟨g0, _, _, _⟩ := hcell 0 (by omega)
    have hspot : spot = none := by simpa [Addr.add] using World.cell?_spot g0
    subst hspot
    have hadd : ∀ i, (⟨b, off, none⟩ : Addr).add i = ⟨b, off + i, none⟩ := fun i => by unfold Addr.add; split <;> simp_all
    obtain ⟨k0, k1, _, _⟩ := hcell i (by omega)
    obtain ⟨f0, f1, f2, f3, f4⟩ := hF i hi
    rw [hadd, f0] at k0
    rw [hadd, f1, ← Nat.add_assoc] at k1
    exact ⟨b, off, rfl, block_lt_of_cell k0, k0, k1, f2, f3, f4⟩

set_option maxRecDepth 100000 in
theorem lifted (os : Os) (started : os.Started) (H : Type) (enc : TypeId × Value → H) :
    ReturnsInHanded {} Try.checked os 4 .any (Rows.octetDecodesSpec.pre6 enc Try.prog Try.f4 Rows.octetDecodesRow.domain false) (Rows.octetDecodesSpec.post enc Try.prog Try.f4 false true false false) := by
  refine returnsInHanded_of_change_sized (C := Try.checked) own started (by kernel_rfl) Try.func4
    (ChangeSpec.witness6 (enc := enc) (C := Try.checked) false ⟨#[], #[.string ByteArray.empty, .slice none 0 0], []⟩ 8 (by kernel_rfl) (by kernel_rfl) (by kernel_rfl) (by kernel_rfl)) ?_
  intro W base args ds gs before hval0 hW _ hsz0 _
  have hval : ∀ (j : Nat) t v, Try.f4.params[j]? = some t → args[j]? = some v → Value.okWide Try.prog W .any base t v := hval0
  have hsz : (DataW.weightsEach Try.prog (Try.f4.params.toList ++ Rows.octetDecodesSpec.plain.varTypes Try.prog) (ds ++ gs)).all (· ≤ reachBytes) = true := hsz0
  have hW' := hW
  obtain ⟨p, q, hA0, hV, rfl, hfz, hnd⟩ := hW
  have hA : DataW.TrodAll enc Try.prog W 0 (fun _ => true) true Try.f4.params.toList args.toList ds p := hA0
  rw [Try.params4] at hA hval hsz
  obtain ⟨v0, v1, d0, d1, p0, p1, rfl, rfl, rfl, h0, h1⟩ := trodAll_two hA
  obtain ⟨rfl, rfl⟩ := trodVars_none hV
  obtain ⟨s, rfl, rfl, rfl, ws⟩ := open_string Try.underlying9 (hval 0 9 v0 rfl rfl) h0
  obtain ⟨po, n, c1, ks, ns, rfl, hn, HI⟩ := opened_ops (hval 1 29 v1 rfl rfl) h1
  have hss : s.data.toList.length ≤ reachBytes := sized_string hsz (j := 0) (t := 9) rfl rfl
  rw [Array.length_toList] at hss
  have hs9 : s.size ≤ 9223372036854775807 := by unfold reachBytes at hss; show s.data.size ≤ _; omega
  refine (walk s ks ns po n c1 _ W hs9 rfl hn HI).mono fun e W' ⟨he, hb⟩ => ?_
  subst he
  exact ⟨_, rfl, law_post hW' rfl (by kernel_rfl) rfl (by intro t ht; rw [Try.params4] at ht; simp at ht; rcases ht with rfl | rfl <;> exact ⟨by kernel_rfl, of_decide_eq_true (by kernel_rfl)⟩) hb⟩

theorem holds : Rows.OctetDecodesSaid :=
  OpenClaim.holds_of_wide 4 Try.f4 rfl rfl rfl rfl rfl rfl rfl ⟨rfl, rfl, rfl, rfl, rfl⟩ rfl rfl rfl rfl rfl (by kernel_rfl) Try.func4 (by kernel_rfl)
    (of_decide_eq_true (by kernel_rfl)) (by unfold Func.isWrapper; first | (rw [if_pos (by decide +kernel)]; kernel_rfl) | (rw [if_neg (by decide +kernel)]; exact ⟨rfl, rfl⟩))
    (fun os started H enc _ => lifted os started H enc)
end Go.Proofs.Ytgalkcfcpkkjgaa.Dec
