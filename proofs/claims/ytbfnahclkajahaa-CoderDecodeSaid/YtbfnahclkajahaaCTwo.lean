/-
  Two writers and readers in one memory; some and sanity (contracts).
-/
import Derived.Test.YtbfnahclkajahaaCRDec
namespace Go.Proofs.Ytbfnahclkajahaa.C
open Go.RowKit Go.Shelf
set_option maxRecDepth 100000
variable {W w w' : World} {L : List (Nat × Obj)} {F G : Cd → Value → Obj} {b1 b2 : Nat} {c1 c2 : Cd} {s1 s2 : List UInt8}

def TF (F G : Cd → Value → Obj) (W : World) (L : List (Nat × Obj)) (b1 : Nat) (c1 : Cd) (s1 : List UInt8) (b2 : Nat) (c2 : Cd) (s2 : List UInt8) (w : World) : Prop :=
  ∃ v1 l1 v2 l2, SL v1 s1 l1 ∧ SL v2 s2 l2 ∧ HS W ((b1, F c1 v1) :: (l1 ++ (b2, G c2 v2) :: (l2 ++ L))) w
theorem HS.exch {x y : Nat × Obj} {l1 l2 : List (Nat × Obj)} (h : HS W (x :: (l1 ++ y :: (l2 ++ L))) w) : HS W (y :: (l2 ++ x :: (l1 ++ L))) w :=
  h.perm (by
    have h2 : ((y :: l2) ++ ((x :: l1) ++ L)).Perm ((x :: l1) ++ ((y :: l2) ++ L)) := List.perm_append_comm_assoc ..
    exact h2)
theorem TF.swap (h : TF F G W L b1 c1 s1 b2 c2 s2 w) : TF G F W L b2 c2 s2 b1 c1 s1 w := by
  obtain ⟨v1, l1, v2, l2, h1, h2, h⟩ := h
  exact ⟨v2, l2, v1, l1, h2, h1, h.exch⟩
theorem TF.later (h : TF F G W L b1 c1 s1 b2 c2 s2 w) (hb : Below w.heap.size w w') : TF F G W L b1 c1 s1 b2 c2 s2 w' := by
  obtain ⟨v1, l1, v2, l2, h1, h2, h⟩ := h
  exact ⟨v1, l1, v2, l2, h1, h2, h.later hb⟩
theorem TF.drew (h : TF F G W L b1 c1 s1 b2 c2 s2 w) : TF F G W L b1 c1 s1 b2 c2 s2 w.drew := h.later (Below.refl _ w).drew
theorem TF.below (h : TF F G W L b1 c1 s1 b2 c2 s2 w) : Below W.heap.size W w := by
  obtain ⟨v1, l1, v2, l2, h1, h2, h⟩ := h
  exact h.below
theorem TF.call {P : Program} {f : FuncId} {args : Array Value} {v : Value} (h : TF F G W L b1 c1 s1 b2 c2 s2 w) (hc : Calls P f args w fun e w' => e = .returned v ∧ Below w.heap.size w w') :
    Calls P f args w fun e w' => e = .returned v ∧ TF F G W L b1 c1 s1 b2 c2 s2 w' := hc.mono fun _ _ ⟨h1, h2⟩ => ⟨h1, h.later h2⟩
theorem TF.bit {n m : Int} (ok : Ok c1) (h : TF wob G W L b1 c1 s1 b2 c2 s2 w) (hlen : s1.length ≤ 800000) :
    Calls Try.prog 21 #[.pointer (some ⟨b1, 0, none⟩), .int .i64 n, .int .i64 m] w fun e w' => e = .returned (.tuple #[]) ∧ TF wob G W L b1 (stp c1 (ctx n) (bitn m)) (s1 ++ out c1 (ctx n) (bitn m)) b2 c2 s2 w' := by
  obtain ⟨v1, l1, v2, l2, h1, h2, h⟩ := h
  exact (bitW_any b1 n m c1 v1 s1 l1 w ok h1 h hlen).mono fun e w' ⟨h3, v', l', h4, h5⟩ => ⟨h3, v', l', v2, l2, h4, h2, h5⟩
theorem TF.bytes (ok : Ok c1) (h : TF wob G W L b1 c1 s1 b2 c2 s2 w) (hlen : s1.length ≤ 800000) :
    Calls Try.prog 23 #[.pointer (some ⟨b1, 0, none⟩)] w fun e w' => e = .returned (.string (str (s1 ++ be4 c1.lo))) ∧ TF wob G W L b1 c1 s1 b2 c2 s2 w' := by
  obtain ⟨v1, l1, v2, l2, h1, h2, h⟩ := h
  exact (bytesW_any b1 c1 v1 s1 l1 w ok h1 h hlen).mono fun e w' ⟨h3, h4⟩ => ⟨h3, v1, l1, v2, l2, h1, h2, h.later h4⟩
theorem TF.refBit {n m : Int} (ok : Ok c1) (h : TF rwob G W L b1 c1 s1 b2 c2 s2 w) (hlen : s1.length ≤ 800000) :
    Calls Try.prog 22 #[.pointer (some ⟨b1, 0, none⟩), .int .i64 n, .int .i64 m] w fun e w' => e = .returned (.tuple #[]) ∧ TF rwob G W L b1 (stp c1 (ctx n) (bitn m)) (s1 ++ out c1 (ctx n) (bitn m)) b2 c2 s2 w' := by
  obtain ⟨v1, l1, v2, l2, h1, h2, h⟩ := h
  exact (rbitW_any b1 n m c1 s1 w ok ⟨v1, l1, h1, h⟩ hlen).mono fun e w' ⟨h3, v', l', h4, h5⟩ => ⟨h3, v', l', v2, l2, h4, h2, h5⟩
theorem TF.refBytes (ok : Ok c1) (h : TF rwob G W L b1 c1 s1 b2 c2 s2 w) (hlen : s1.length ≤ 800000) :
    Calls Try.prog 24 #[.pointer (some ⟨b1, 0, none⟩)] w fun e w' => e = .returned (.string (str (s1 ++ be4 c1.lo))) ∧ TF rwob G W L b1 c1 s1 b2 c2 s2 w' := by
  obtain ⟨v1, l1, v2, l2, h1, h2, h⟩ := h
  exact (rbytesW_any b1 c1 s1 w ok ⟨v1, l1, h1, h⟩ hlen).mono fun e w' ⟨h3, h4⟩ => ⟨h3, v1, l1, v2, l2, h1, h2, h.later h4⟩
theorem HS.pull {x y r : Nat × Obj} {l1 l2 : List (Nat × Obj)} : HS W (x :: (l1 ++ y :: (l2 ++ r :: L))) w ↔ HS W (r :: x :: (l1 ++ y :: (l2 ++ L))) w := by
  have h2 : ((x :: l1) ++ ((y :: l2) ++ r :: L)).Perm (r :: ((x :: l1) ++ ((y :: l2) ++ L))) := by
    rw [← List.append_assoc, ← List.append_assoc]
    exact List.perm_middle
  exact ⟨fun h => h.perm h2.symm, fun h => h.perm h2⟩
/-- a reader beside two writers -/
theorem TF.read {r n : Nat} {x : Int} {c : Cd} {s : ByteArray} (ok : Ok c) (hn : n ≤ 800000) (h : TF F G W ((r, rob c s n) :: L) b1 c1 s1 b2 c2 s2 w) :
    Calls Try.prog 28 #[.pointer (some ⟨r, 0, none⟩), .int .i64 x] w fun e w' => e = .returned (.int .i64 (rbit c (sx s.data.toList) n (ctx x) : Nat)) ∧
      TF F G W ((r, rob (stp c (ctx x) (rbit c (sx s.data.toList) n (ctx x))) s (n + (out c (ctx x) (rbit c (sx s.data.toList) n (ctx x))).length)) :: L) b1 c1 s1 b2 c2 s2 w' := by
  obtain ⟨v1, l1, v2, l2, h1, h2, h⟩ := h
  exact (bitR_any r n x c s w ok (HS.pull.1 h) hn).mono fun e w' ⟨h3, h4⟩ => ⟨h3, v1, l1, v2, l2, h1, h2, HS.pull.2 h4⟩
theorem TF.used {r n : Nat} {c : Cd} {s : ByteArray} (hn : n ≤ 800000) (h : TF F G W ((r, rob c s n) :: L) b1 c1 s1 b2 c2 s2 w) :
    Calls Try.prog 27 #[.pointer (some ⟨r, 0, none⟩)] w fun e w' => e = .returned (.int .i64 ((4 + n : Nat) : Int)) ∧ TF F G W ((r, rob c s n) :: L) b1 c1 s1 b2 c2 s2 w' := by
  have h0 := h
  obtain ⟨v1, l1, v2, l2, h1, h2, h⟩ := h
  exact (used_any r n _ _ _ _ s w (HS.pull.1 h) (by omega)).mono fun e w' ⟨h3, h4⟩ => ⟨h3, h4 ▸ h0⟩
theorem TF.turn {x y : Nat × Obj} (h : TF F G W (x :: y :: L) b1 c1 s1 b2 c2 s2 w) : TF F G W (y :: x :: L) b1 c1 s1 b2 c2 s2 w := by
  obtain ⟨v1, l1, v2, l2, h1, h2, h⟩ := h
  exact ⟨v1, l1, v2, l2, h1, h2, h.perm ((((List.Perm.swap x y L).append_left l2).cons _).append_left l1 |>.cons _)⟩
theorem take_str (s : ByteArray) (k : Nat) : s.extract 0 k = str (s.data.toList.take k) := by
  apply ByteArray.ext
  apply Array.ext'
  simp [str, ByteArray.data_extract, Array.toList_extract, List.extract]
/-- the first bytes of a string -/
def hd (s : ByteArray) (n : Nat) : ByteArray := str (s.data.toList.take n)
theorem hd_size (s : ByteArray) (n : Nat) : (hd s n).size ≤ n := by unfold hd; rw [str_size]; exact List.length_take_le ..
theorem some_any (s : ByteArray) (n : Nat) (w : World) (hs : s.size ≤ 140737488355328) (hn : n ≤ 1000) : Calls Try.prog 14 #[.string s, .int .i64 n] w fun e w' => e = .returned (.string (hd s n)) ∧ w = w' := by
  go_enter Try.func14, Try.ntmps14
  go_wp2
  all_goals go_ret
  all_goals refine ⟨?_, rfl⟩
  · show Ending.returned (.string (s.extract 0 n)) = _
    rw [take_str]; rfl
  · show Ending.returned (.string s) = _
    have hl : s.data.toList.length = s.size := Array.length_toList
    unfold hd
    rw [List.take_of_length_le (by omega), str_data]
set_option maxHeartbeats 4000000 in
theorem sanity_any (w : World) : Calls Try.prog 13 #[] w fun e w' => e = .returned (.bool true) ∧ Below w.heap.size w w' := by
  have h0 := HS.start w
  have HA : Hid (bitn 1 = 1 ∧ (stp c0 (ctx 0) 1).lo = 0 ∧ out c0 (ctx 0) 1 = []) := Lib.hid ⟨by rfl, by kernel_rfl, by kernel_rfl⟩
  have HB : Hid (bitn 0 = 0 ∧ (stp c0 (ctx 0) 0).lo = 2147481601 ∧ out c0 (ctx 0) 0 = []) := Lib.hid ⟨by rfl, by kernel_rfl, by kernel_rfl⟩
  have HR : Hid (rbit c0 (sx (ByteArray.mk #[127, 255, 248, 1]).data.toList) 0 (ctx 0) = 0) := Lib.hid (by kernel_rfl)
  have HD1 : Hid (∀ V, Calls Try.prog 17 #[.string (ByteArray.mk #[0, 0, 0, 0]), .int .i64 0] V fun e w' => e = .returned (.tuple #[.string ByteArray.empty, .int .i64 0]) ∧ Below V.heap.size V w') := fun V => by
    have h := decode_any (ByteArray.mk #[0, 0, 0, 0]) 0 V (by omega) (by decide)
    rwa [show dec (ByteArray.mk #[0, 0, 0, 0]) 0 = (ByteArray.empty, 0) by kernel_rfl] at h
  have HD2 : Hid (∀ V, Calls Try.prog 17 #[.string (ByteArray.mk #[]), .int .i64 0] V fun e w' => e = .returned (.tuple #[.string ByteArray.empty, .int .i64 11]) ∧ Below V.heap.size V w') := fun V => by
    have h := decode_any (ByteArray.mk #[]) 0 V (by omega) (by decide)
    rwa [show dec (ByteArray.mk #[]) 0 = (ByteArray.empty, 11) by kernel_rfl] at h
  have HE : Hid (∀ V, Calls Try.prog 15 #[.string (ByteArray.mk #[])] V fun e w' => e = .returned (.string (ByteArray.mk #[0, 0, 0, 0])) ∧ Below V.heap.size V w') := fun V => by
    have h := encode_any (ByteArray.mk #[]) V (by decide)
    rwa [show str (enc (ByteArray.mk #[]).data.toList) = ByteArray.mk #[0, 0, 0, 0] by kernel_rfl] at h
  have HBA : Hid (∀ (r a b : Nat) V, TF wob wob w [(r, rob c0 (ByteArray.mk #[127, 255, 248, 1]) 0)] a c0 [] b c0 [] V → Calls Try.prog 21 #[.pointer (some ⟨a, 0, none⟩), .int .i64 0, .int .i64 1] V fun e w' => e = .returned (.tuple #[]) ∧ TF wob wob w [(r, rob c0 (ByteArray.mk #[127, 255, 248, 1]) 0)] a (stp c0 (ctx 0) 1) [] b c0 [] w') := fun r a b V hV => by
    have h := hV.bit (n := 0) (m := 1) c0_ok (by simp)
    rw [HA.out.1, HA.out.2.2] at h
    exact h
  have HBB : Hid (∀ (r a b : Nat) V, TF wob wob w [(r, rob c0 (ByteArray.mk #[127, 255, 248, 1]) 0)] a (stp c0 (ctx 0) 1) [] b c0 [] V → Calls Try.prog 21 #[.pointer (some ⟨b, 0, none⟩), .int .i64 0, .int .i64 0] V fun e w' => e = .returned (.tuple #[]) ∧ TF wob wob w [(r, rob c0 (ByteArray.mk #[127, 255, 248, 1]) 0)] a (stp c0 (ctx 0) 1) [] b (stp c0 (ctx 0) 0) [] w') := fun r a b V hV => by
    have h := hV.swap.bit (n := 0) (m := 0) c0_ok (by simp)
    rw [HB.out.1, HB.out.2.2] at h
    exact h.mono fun e w' ⟨h1, h2⟩ => ⟨h1, h2.swap⟩
  have okA := stp_ok c0_ok (ctx 0) 1
  have okB := stp_ok c0_ok (ctx 0) 0
  have HYA : Hid (∀ (r a b : Nat) V, TF wob wob w [(r, rob c0 (ByteArray.mk #[127, 255, 248, 1]) 0)] a (stp c0 (ctx 0) 1) [] b (stp c0 (ctx 0) 0) [] V → Calls Try.prog 23 #[.pointer (some ⟨a, 0, none⟩)] V fun e w' => e = .returned (.string (ByteArray.mk #[0, 0, 0, 0])) ∧ TF wob wob w [(r, rob c0 (ByteArray.mk #[127, 255, 248, 1]) 0)] a (stp c0 (ctx 0) 1) [] b (stp c0 (ctx 0) 0) [] w') := fun r a b V hV => by
    have h := hV.bytes okA (by simp)
    rw [HA.out.2.1] at h
    exact h
  have HYB : Hid (∀ (r a b : Nat) V, TF wob wob w [(r, rob c0 (ByteArray.mk #[127, 255, 248, 1]) 0)] a (stp c0 (ctx 0) 1) [] b (stp c0 (ctx 0) 0) [] V → Calls Try.prog 23 #[.pointer (some ⟨b, 0, none⟩)] V fun e w' => e = .returned (.string (ByteArray.mk #[127, 255, 248, 1])) ∧ TF wob wob w [(r, rob c0 (ByteArray.mk #[127, 255, 248, 1]) 0)] a (stp c0 (ctx 0) 1) [] b (stp c0 (ctx 0) 0) [] w') := fun r a b V hV => by
    have h := hV.swap.bytes okB (by simp)
    rw [HB.out.2.1] at h
    exact h.mono fun e w' ⟨h1, h2⟩ => ⟨h1, h2.swap⟩
  have HRB : Hid (∀ (r a b : Nat) V, TF wob wob w [(r, rob c0 (ByteArray.mk #[127, 255, 248, 1]) 0)] a (stp c0 (ctx 0) 1) [] b (stp c0 (ctx 0) 0) [] V → Calls Try.prog 28 #[.pointer (some ⟨r, 0, none⟩), .int .i64 0] V fun e w' => e = .returned (.int .i64 0) ∧ TF wob wob w [(r, rob (stp c0 (ctx 0) 0) (ByteArray.mk #[127, 255, 248, 1]) 0)] a (stp c0 (ctx 0) 1) [] b (stp c0 (ctx 0) 0) [] w') := fun r a b V hV => by
    have h := hV.read (x := 0) c0_ok (by omega)
    rw [HR.out, HB.out.2.2] at h
    exact h
  clear okA okB
  go_enter Try.func13, Try.ntmps13
  go_upto_region 6 with (first
    | (go_at_call 25; (with_reducible refine (newR_any _ _ h2).mono ?_); rintro e w3 ⟨r, rfl, h3⟩)
    | (go_at_call 19; (with_reducible refine (newW_any _ h1).mono ?_); rintro e w2 ⟨b, rfl, h2⟩)
    | (go_at_call 19; (with_reducible refine (newW_any _ h0).mono ?_); rintro e w1 ⟨a, rfl, h1⟩))
  have H3 : Hid (TF wob wob w [(r, rob c0 (ByteArray.mk #[127, 255, 248, 1]) 0)] a c0 [] b c0 [] w3) := Lib.hid ⟨_, [], _, [], SL.nil, SL.nil, h3.perm (by
    show [(a, wob c0 (.slice none 0 0)), (b, wob c0 (.slice none 0 0)), (r, rob c0 (ByteArray.mk #[127, 255, 248, 1]) 0)].Perm [(r, rob c0 (ByteArray.mk #[127, 255, 248, 1]) 0), (b, wob c0 (.slice none 0 0)), (a, wob c0 (.slice none 0 0))]
    exact (List.reverse_perm _).symm)⟩
  clear h0 h1 h2 h3
  go_wp2_with (first
    | (go_at_call 21; (with_reducible refine (HBB.out r a b _ H4.out).mono ?_); rintro e w5 ⟨rfl, h5⟩; have H5 := Lib.hid h5; clear h5)
    | (go_at_call 21; (with_reducible refine (HBA.out r a b _ H3.out).mono ?_); rintro e w4 ⟨rfl, h4⟩; have H4 := Lib.hid h4; clear h4)
    | (go_at_call 17; (with_reducible refine (H6.out.call (HD2.out _)).mono ?_); rintro e w7 ⟨rfl, h7⟩; have H7 := Lib.hid h7; clear h7)
    | (go_at_call 17; (with_reducible refine (H5.out.call (HD1.out _)).mono ?_); rintro e w6 ⟨rfl, h6⟩; have H6 := Lib.hid h6; clear h6)
    | (go_at_call 15; (with_reducible refine (H7.out.call (HE.out _)).mono ?_); rintro e w8 ⟨rfl, h8⟩; have H8 := Lib.hid h8; clear h8)
    | (go_at_call 23; (with_reducible refine (HYB.out r a b _ H9.out).mono ?_); rintro e w10 ⟨rfl, h10⟩; have H10 := Lib.hid h10; clear h10)
    | (go_at_call 23; (with_reducible refine (HYA.out r a b _ H8.out).mono ?_); rintro e w9 ⟨rfl, h9⟩; have H9 := Lib.hid h9; clear h9)
    | (go_at_call 28; (with_reducible refine (HRB.out r a b _ H10.out).mono ?_); rintro e w11 ⟨rfl, h11⟩; have H11 := Lib.hid h11; clear h11)
    | (go_at_call 27; (with_reducible refine (H11.out.used (by omega)).mono ?_); rintro e w12 ⟨rfl, h12⟩; have H12 := Lib.hid h12; clear h12))
  go_ret
  exact ⟨rfl, H12.out.below⟩
end Go.Proofs.Ytbfnahclkajahaa.C
