/-
  CoderDecode: Decode returns what the reference returns, for strings (at most 200 bytes), lengths, and encodings changed in one byte or truncated.
-/
import Derived.Test.YtbfnahclkajahaaCLaw
import Derived.Test.YtbfnahclkajahaaCMkd
namespace Go.Proofs.Ytbfnahclkajahaa.C.CLDecode
open Go.ChangeShapes Go.WideShapes Go.ChangeAt Go.RowKit Go.Shelf
open Go.ChangeMaps (open_string)
set_option maxRecDepth 100000

theorem and16 (n : Int) : bits .and .i64 n 65535 = (((n % 65536).toNat : Nat) : Int) := by have := i64_mask 16 (by omega) n; simp at this; rw [this]; omega
theorem enc_len (l : List UInt8) : (enc l).length = (wt c0 (sops l)).length + 4 := by
  unfold enc byts
  rw [List.length_append, be4_len]
theorem wt_le (l : List UInt8) : (wt c0 (sops l)).length ≤ 32 * l.length := by
  have h := wt_len c0_ok (sops l)
  rw [sops_len] at h; omega
/-- the byte that is stored -/
def xb (a : UInt8) (z : Int) : UInt8 := UInt8.ofNat (a.toNat ^^^ (z % 256).toNat)
theorem xb_eq (a : UInt8) (z : Int) : bits .xor .u8 (a.toNat : Int) (z % 256) = ((xb a z).toNat : Int) := by
  have h := u8_xor_nat a.toNat (z % 256).toNat (byt_lt a) (by omega)
  have h2 : (((z % 256).toNat : Nat) : Int) = z % 256 := by omega
  rw [h2] at h
  have h3 : a.toNat ^^^ (z % 256).toNat < 256 := Nat.xor_lt_two_pow (n := 8) (byt_lt a) (by omega)
  rw [h]
  unfold xb
  rw [UInt8.toNat_ofNat', Nat.mod_eq_of_lt h3]

set_option maxHeartbeats 8000000 in
set_option maxRecDepth 100000 in
theorem walk (s : ByteArray) (n : Int) (x0 x1 x2 : Int) (w : World) (hs : s.size ≤ 140737488355328) : Calls Try.prog 4 #[.string s, .int .i64 n, .agg #[.int .i64 x0, .int .i64 x1, .int .i64 x2]] w fun e w' => e = .returned (.bool true) ∧ Below w.heap.size w w' := by
  have h0 := (HS.start w).alloc (.cells #[.int .i64 x0, .int .i64 x1, .int .i64 x2] 26)
  have HSO : Hid (∀ V, Calls Try.prog 14 #[.string s, .int .i64 200] V fun e w' => e = .returned (.string (hd s 200)) ∧ V = w') := fun V => some_any s 200 V hs (by omega)
  have hts := hd_size s 200
  generalize hd s 200 = t at *
  have HTO : Hid (∀ V, Calls Try.prog 14 #[.string t, .int .i64 100] V fun e w' => e = .returned (.string (hd t 100)) ∧ V = w') := fun V => some_any t 100 V (by omega) (by omega)
  have hus := hd_size t 100
  generalize hd t 100 = u at *
  obtain ⟨k, hk⟩ : ∃ k : Nat, k = (n % 65536).toNat % 301 := ⟨_, rfl⟩
  have hk2 : k ≤ 300 := by omega
  have hak : ((((n % 65536).toNat : Nat) : Int) % 301) = (k : Int) := by omega
  have han := and16 n
  have HD1 : Hid (∀ V, Calls Try.prog 17 #[.string t, .int .i64 (k : Int)] V fun e w' => e = .returned (.tuple #[.string (dec t k).1, .int .i64 (dec t k).2]) ∧ Below V.heap.size V w') := fun V => decode_any t k V (by omega) (by omega)
  have HR1 : Hid (∀ V, Calls Try.prog 18 #[.string t, .int .i64 (k : Int)] V fun e w' => e = .returned (.agg (gz (dec t k).1 (dec t k).2)) ∧ Below V.heap.size V w') := fun V => rdecode_any t k V (by omega)
  generalize (dec t k).1 = d1 at *
  generalize (dec t k).2 = e1 at *
  have HBAD : Hid (∀ (q : Int) V, (q < 0 ∨ 65536 < q) → Calls Try.prog 17 #[.string t, .int .i64 q] V fun e w' => e = .returned (.tuple #[.string ByteArray.empty, .int .i64 1]) ∧ V = w') := fun q V h => decodeBad_any t q V h
  clear hk
  generalize (n % 65536).toNat = m at *
  go_enter Try.func4, Try.ntmps4
  go_upto_region 6 with (first
    | (go_at_call 13; (with_reducible refine (h0.call (sanity_any _)).mono ?_); rintro e w1 ⟨rfl, h1⟩)
    | (go_at_call 14; (with_reducible refine (HSO.out _).mono ?_); rintro e w2 ⟨rfl, rfl⟩)
    | (go_at_call 17; (with_reducible refine (h1.call (HD1.out _)).mono ?_); rintro e w3 ⟨rfl, h3⟩)
    | (go_at_call 18; (with_reducible refine (h3.call (HR1.out _)).mono ?_); rintro e w4 ⟨rfl, h4⟩; have HG1 := Lib.hid ((h4.alloc (.cells (gz ByteArray.empty 0) 31)).gput (x := d1) (e := e1)))
    | (with_reducible refine sAlloc (gz ByteArray.empty 0) w4.heap.size rfl (zeroG _) ?_)
    | ((with_reducible refine sStore (.pointer (some ⟨w4.heap.size, 0, none⟩)) (.agg (gz d1 e1)) ?_ HG1.out.1 ?_); focus exact ⟨rfl, rfl⟩))
  have H5 := Lib.hid HG1.out.2
  clear h0 h1 h3 h4 HG1
  generalize (w4.alloc (.cells (gz ByteArray.empty 0) 31)).setRow w4.heap.size (gz d1 e1) = w5 at H5 ⊢
  generalize w4.heap.size = g1 at H5 ⊢
  generalize w.heap.size = q0 at H5 ⊢
  have HTL : Hid (4 ≤ (enc u.data.toList).length ∧ (enc u.data.toList).length ≤ 4000) := by
    have h1 := wt_le u.data.toList
    have h2 : u.data.toList.length = u.size := Array.length_toList
    rw [enc_len]; exact Lib.hid ⟨by omega, by omega⟩
  have HE : Hid (∀ V, Calls Try.prog 16 #[.string u] V fun e w' => e = .returned (.string (str (enc u.data.toList))) ∧ Below V.heap.size V w') := fun V => rencode_any u V (by omega)
  generalize enc u.data.toList = T at *
  have hT4 := HTL.out.1
  have hT5 := HTL.out.2
  try simp only [Act.put, List.setIfInBounds_toArray, List.set_cons_zero, List.set_cons_succ]
  have hc : n < 0 ∨ (0 ≤ n ∧ n ≤ 65536) ∨ 65536 < n := by omega
  rcases hc with hn1 | ⟨hn1, hn2⟩ | hn1
  · have HBQ := Lib.hid (fun V => HBAD.out n V (.inl hn1))
    have hn3 : (0 ≤ n) = False := eq_false (by omega)
    clear HBAD
    have HT0 : Hid (∀ V, Calls Try.prog 16 #[.string u] V fun e w' => e = .returned (.string (str T)) ∧ Below V.heap.size V w') := HE
    go_upto_region 11 with (first
      | (go_at_call 17; (with_reducible refine (HBQ.out _).mono ?_); rintro e w6 ⟨rfl, rfl⟩)
      | (go_at_call 14; (with_reducible refine (HTO.out _).mono ?_); rintro e w6 ⟨rfl, rfl⟩)
      | (go_at_call 16; (with_reducible refine (H5.out.call (HT0.out _)).mono ?_); rintro e w7 ⟨rfl, h7⟩; have hcb := run_bytes_of_string w7 9 33 5 (str T) Try.underlying9 Try.underlying33 Try.underlying5; rw [str_size] at hcb))
    have HM : Hid (HS w [(w7.heap.size, mkO T (grownCap w7 T.length 0 5)), (g1, .cells (gz d1 e1) 31), (q0, .cells #[.int .i64 x0, .int .i64 x1, .int .i64 x2] 26)] (w7.alloc (Obj.cells (bytesRow (str T) (grownCap w7 T.length 0 5)) 5 ((bytesRow (str T) (grownCap w7 T.length 0 5)).size, (bytesRow (str T) (grownCap w7 T.length 0 5)).size + 1))).drew) := (h7.alloc (mkO T (grownCap w7 T.length 0 5))).drew
    have hcp : T.length ≤ grownCap w7 T.length 0 5 := grownCap_ge w7 _ _ _
    clear hcb h7 H5 HT0
    generalize (w7.alloc (Obj.cells (bytesRow (str T) (grownCap w7 T.length 0 5)) 5 ((bytesRow (str T) (grownCap w7 T.length 0 5)).size, (bytesRow (str T) (grownCap w7 T.length 0 5)).size + 1))).drew = w8 at HM ⊢
    generalize grownCap w7 T.length 0 5 = cp at HM hcp ⊢
    generalize w7.heap.size = g at HM ⊢
    have hd := HM.out.drew
    have hx0 := hd.cell (b := q0) (cs := #[.int .i64 x0, .int .i64 x1, .int .i64 x2]) (t := 26) (by simp) 0
    have hx1 := hd.cell (b := q0) (cs := #[.int .i64 x0, .int .i64 x1, .int .i64 x2]) (t := 26) (by simp) 1
    have ha0 := and16 x0
    obtain ⟨i, hi⟩ : ∃ i : Nat, i = (x0 % 65536).toNat % T.length := ⟨_, rfl⟩
    have hiT : i < T.length := by rw [hi]; exact Nat.mod_lt _ (Nat.lt_of_lt_of_le (by omega) hT4)
    have hi2 : (((x0 % 65536).toNat : Nat) : Int).tmod (T.length : Int) = (i : Int) := by rw [hi]; rfl
    obtain ⟨a, haa⟩ : ∃ a, a = T[i] := ⟨_, rfl⟩
    have hcell : w8.drew.cell? ⟨g, i, none⟩ = some (.int .u8 (a.toNat : Int)) := by rw [haa]; exact hd.mcell (cp := cp) (by simp) i hiT
    have hfr := hd.mfree (g := g) (cp := cp) (T := T) (by simp) i hiT
    have hxb := xb_eq a x1
    have hiT2 : (i : Int) < (T.length : Int) := by omega
    have HST : Hid (HS w [(g, mkO (T.set i (xb a x1)) cp), (g1, .cells (gz d1 e1) 31), (q0, .cells #[.int .i64 x0, .int .i64 x1, .int .i64 x2] 26)] (w8.drew.setCell ⟨g, i, none⟩ (.int .u8 ((xb a x1).toNat : Int)))) := hd.mset i hiT (xb a x1)
    have HLT : Hid ((T.set i (xb a x1)).length = T.length) := by rw [List.length_set]; exact Lib.hid rfl
    clear haa hi hd HM
    generalize T.set i (xb a x1) = T2 at HST HLT
    generalize T.length = q at *
    have hqz : ((q : Int) = 0) = False := eq_false (by omega)
    have hqz2 : (q = 0) = False := eq_false (by omega)
    generalize xb a x1 = bx at *
    generalize (x0 % 65536).toNat = m0 at *
    go_still_tail 21, (by kernel_rfl)
    change wpList _ _ _ _ _ w8.drew
    generalize w8.drew = w9 at *
    go_upto_region 12 with (fail)
    simp only [hxb]
    generalize w9.setCell ⟨g, i, none⟩ (.int .u8 (bx.toNat : Int)) = w10 at HST ⊢
    clear hx0 hx1 hcell hfr hi2 hiT hiT2 ha0 hxb
    have hx2 := HST.out.cell (b := q0) (cs := #[.int .i64 x0, .int .i64 x1, .int .i64 x2]) (t := 26) (by simp) 2
    have ha2 := and16 x2
    obtain ⟨j, hj⟩ : ∃ j : Nat, j = (x2 % 65536).toNat % (q + 1) := ⟨_, rfl⟩
    have hj1 : j ≤ q := by rw [hj]; exact Nat.le_of_lt_succ (Nat.mod_lt _ (by omega))
    have hj2 : (((x2 % 65536).toNat : Nat) : Int).tmod ((q : Int) + 1) = (j : Int) := by rw [hj]; rfl
    have hjc : (j : Int) ≤ (cp : Int) := by omega
    have hqz3 : ((q : Int) + 1 = 0) = False := eq_false (by omega)
    clear hj
    generalize (x2 % 65536).toNat = m2 at *
    have hyz : (str T2).size ≤ 4000 ∧ (str (T2.take j)).size ≤ 4000 := by
      rw [str_size, str_size, List.length_take, HLT.out]; exact ⟨hT5, by omega⟩
    have HCV : Hid (∀ (L : List (Nat × Obj)) (V : World), HS w L V → (g, mkO T2 cp) ∈ L → (convert 33 9 (.slice (some ⟨g, 0, none⟩) j cp)).run Try.prog V = .ok (.string (str (T2.take j))) V ∧ (convert 33 9 (.slice (some ⟨g, 0, none⟩) q cp)).run Try.prog V = .ok (.string (str T2)) V) := fun L V h hm => ⟨h.mconv hm j (by rw [HLT.out]; exact hj1), by
      have h2 := h.mconv hm q (by rw [HLT.out]; exact Nat.le_refl _)
      rwa [List.take_of_length_le (by rw [HLT.out]; exact Nat.le_refl _)] at h2⟩
    have hcv := HCV.out _ _ HST.out (by simp)
    have HD2 : Hid (∀ V, Calls Try.prog 17 #[.string (str T2), .int .i64 (u.size : Int)] V fun e w' => e = .returned (.tuple #[.string (dec (str T2) u.size).1, .int .i64 (dec (str T2) u.size).2]) ∧ Below V.heap.size V w') := fun V => decode_any (str T2) u.size V (by omega) (by omega)
    have HR2 : Hid (∀ V, Calls Try.prog 18 #[.string (str T2), .int .i64 (u.size : Int)] V fun e w' => e = .returned (.agg (gz (dec (str T2) u.size).1 (dec (str T2) u.size).2)) ∧ Below V.heap.size V w') := fun V => rdecode_any (str T2) u.size V (by omega)
    have HD3 : Hid (∀ V, Calls Try.prog 17 #[.string (str (T2.take j)), .int .i64 (u.size : Int)] V fun e w' => e = .returned (.tuple #[.string (dec (str (T2.take j)) u.size).1, .int .i64 (dec (str (T2.take j)) u.size).2]) ∧ Below V.heap.size V w') := fun V => decode_any (str (T2.take j)) u.size V (by omega) (by omega)
    have HR3 : Hid (∀ V, Calls Try.prog 18 #[.string (str (T2.take j)), .int .i64 (u.size : Int)] V fun e w' => e = .returned (.agg (gz (dec (str (T2.take j)) u.size).1 (dec (str (T2.take j)) u.size).2)) ∧ Below V.heap.size V w') := fun V => rdecode_any (str (T2.take j)) u.size V (by omega)
    generalize (dec (str T2) u.size).1 = d2 at *
    generalize (dec (str T2) u.size).2 = e2 at *
    generalize (dec (str (T2.take j)) u.size).1 = d3 at *
    generalize (dec (str (T2.take j)) u.size).2 = e3 at *
    generalize str (T2.take j) = y2 at *
    generalize str T2 = y1 at *
    go_upto_region 15 with (first
      | (go_at_call 14; (with_reducible refine (HTO.out _).mono ?_); rintro e w11 ⟨rfl, rfl⟩)
      | (go_at_call 17; (with_reducible refine (HST.out.call (HD2.out _)).mono ?_); rintro e w11 ⟨rfl, h11⟩))
    have hcv2 := (HCV.out _ _ h11 (by simp)).2
    go_upto_region 16 with (first
      | (go_at_call 18; (with_reducible refine (h11.call (HR2.out _)).mono ?_); rintro e w12 ⟨rfl, h12⟩; have HG2 := Lib.hid ((h12.alloc (.cells (gz ByteArray.empty 0) 31)).gput (x := d2) (e := e2)))
      | (with_reducible refine sAlloc (gz ByteArray.empty 0) w12.heap.size rfl (zeroG _) ?_)
      | ((with_reducible refine sStore (.pointer (some ⟨w12.heap.size, 0, none⟩)) (.agg (gz d2 e2)) ?_ HG2.out.1 ?_); focus exact ⟨rfl, rfl⟩))
    have H13 := Lib.hid HG2.out.2
    clear h11 h12 HG2 hcv hcv2 HST
    generalize (w12.alloc (.cells (gz ByteArray.empty 0) 31)).setRow w12.heap.size (gz d2 e2) = w13 at H13 ⊢
    generalize w12.heap.size = g2 at H13 ⊢
    go_upto_region 18 with (first
      | (go_at_call 17; (with_reducible refine (H13.out.call (HD3.out _)).mono ?_); rintro e w14 ⟨rfl, h14⟩)
      | (go_at_call 18; (with_reducible refine (h14.call (HR3.out _)).mono ?_); rintro e w15 ⟨rfl, h15⟩; have HG3 := Lib.hid ((h15.alloc (.cells (gz ByteArray.empty 0) 31)).gput (x := d3) (e := e3)))
      | (with_reducible refine sAlloc (gz ByteArray.empty 0) w15.heap.size rfl (zeroG _) ?_)
      | ((with_reducible refine sStore (.pointer (some ⟨w15.heap.size, 0, none⟩)) (.agg (gz d3 e3)) ?_ HG3.out.1 ?_); focus exact ⟨rfl, rfl⟩))
    have H16 := Lib.hid HG3.out.2
    clear h14 h15 HG3 H13
    generalize (w15.alloc (.cells (gz ByteArray.empty 0) 31)).setRow w15.heap.size (gz d3 e3) = w16 at H16 ⊢
    generalize w15.heap.size = g3 at H16 ⊢
    have hl1 := H16.out.got (g := g1) (x := d1) (e := e1) (by simp)
    have hl2 := H16.out.got (g := g2) (x := d2) (e := e2) (by simp)
    have hl3 := H16.out.got (g := g3) (x := d3) (e := e3) (by simp)
    have hq1 : (d1.toList == d1.toList) = true := beq_self_eq_true _
    have hq2 : (d2.toList == d2.toList) = true := beq_self_eq_true _
    have hq3 : (d3.toList == d3.toList) = true := beq_self_eq_true _
    go_wp2_with (fail)
    go_ret
    exact ⟨rfl, H16.out.below⟩
  · have HBQ := Lib.hid (fun V => HBAD.out (n + 65537) V (.inr (by omega)))
    clear HBAD
    have HT0 : Hid (∀ V, Calls Try.prog 16 #[.string u] V fun e w' => e = .returned (.string (str T)) ∧ Below V.heap.size V w') := HE
    go_upto_region 11 with (first
      | (go_at_call 17; (with_reducible refine (HBQ.out _).mono ?_); rintro e w6 ⟨rfl, rfl⟩)
      | (go_at_call 14; (with_reducible refine (HTO.out _).mono ?_); rintro e w6 ⟨rfl, rfl⟩)
      | (go_at_call 16; (with_reducible refine (H5.out.call (HT0.out _)).mono ?_); rintro e w7 ⟨rfl, h7⟩; have hcb := run_bytes_of_string w7 9 33 5 (str T) Try.underlying9 Try.underlying33 Try.underlying5; rw [str_size] at hcb))
    have HM : Hid (HS w [(w7.heap.size, mkO T (grownCap w7 T.length 0 5)), (g1, .cells (gz d1 e1) 31), (q0, .cells #[.int .i64 x0, .int .i64 x1, .int .i64 x2] 26)] (w7.alloc (Obj.cells (bytesRow (str T) (grownCap w7 T.length 0 5)) 5 ((bytesRow (str T) (grownCap w7 T.length 0 5)).size, (bytesRow (str T) (grownCap w7 T.length 0 5)).size + 1))).drew) := (h7.alloc (mkO T (grownCap w7 T.length 0 5))).drew
    have hcp : T.length ≤ grownCap w7 T.length 0 5 := grownCap_ge w7 _ _ _
    clear hcb h7 H5 HT0
    generalize (w7.alloc (Obj.cells (bytesRow (str T) (grownCap w7 T.length 0 5)) 5 ((bytesRow (str T) (grownCap w7 T.length 0 5)).size, (bytesRow (str T) (grownCap w7 T.length 0 5)).size + 1))).drew = w8 at HM ⊢
    generalize grownCap w7 T.length 0 5 = cp at HM hcp ⊢
    generalize w7.heap.size = g at HM ⊢
    have hd := HM.out.drew
    have hx0 := hd.cell (b := q0) (cs := #[.int .i64 x0, .int .i64 x1, .int .i64 x2]) (t := 26) (by simp) 0
    have hx1 := hd.cell (b := q0) (cs := #[.int .i64 x0, .int .i64 x1, .int .i64 x2]) (t := 26) (by simp) 1
    have ha0 := and16 x0
    obtain ⟨i, hi⟩ : ∃ i : Nat, i = (x0 % 65536).toNat % T.length := ⟨_, rfl⟩
    have hiT : i < T.length := by rw [hi]; exact Nat.mod_lt _ (Nat.lt_of_lt_of_le (by omega) hT4)
    have hi2 : (((x0 % 65536).toNat : Nat) : Int).tmod (T.length : Int) = (i : Int) := by rw [hi]; rfl
    obtain ⟨a, haa⟩ : ∃ a, a = T[i] := ⟨_, rfl⟩
    have hcell : w8.drew.cell? ⟨g, i, none⟩ = some (.int .u8 (a.toNat : Int)) := by rw [haa]; exact hd.mcell (cp := cp) (by simp) i hiT
    have hfr := hd.mfree (g := g) (cp := cp) (T := T) (by simp) i hiT
    have hxb := xb_eq a x1
    have hiT2 : (i : Int) < (T.length : Int) := by omega
    have HST : Hid (HS w [(g, mkO (T.set i (xb a x1)) cp), (g1, .cells (gz d1 e1) 31), (q0, .cells #[.int .i64 x0, .int .i64 x1, .int .i64 x2] 26)] (w8.drew.setCell ⟨g, i, none⟩ (.int .u8 ((xb a x1).toNat : Int)))) := hd.mset i hiT (xb a x1)
    have HLT : Hid ((T.set i (xb a x1)).length = T.length) := by rw [List.length_set]; exact Lib.hid rfl
    clear haa hi hd HM
    generalize T.set i (xb a x1) = T2 at HST HLT
    generalize T.length = q at *
    have hqz : ((q : Int) = 0) = False := eq_false (by omega)
    have hqz2 : (q = 0) = False := eq_false (by omega)
    generalize xb a x1 = bx at *
    generalize (x0 % 65536).toNat = m0 at *
    go_still_tail 21, (by kernel_rfl)
    change wpList _ _ _ _ _ w8.drew
    generalize w8.drew = w9 at *
    go_upto_region 12 with (fail)
    simp only [hxb]
    generalize w9.setCell ⟨g, i, none⟩ (.int .u8 (bx.toNat : Int)) = w10 at HST ⊢
    clear hx0 hx1 hcell hfr hi2 hiT hiT2 ha0 hxb
    have hx2 := HST.out.cell (b := q0) (cs := #[.int .i64 x0, .int .i64 x1, .int .i64 x2]) (t := 26) (by simp) 2
    have ha2 := and16 x2
    obtain ⟨j, hj⟩ : ∃ j : Nat, j = (x2 % 65536).toNat % (q + 1) := ⟨_, rfl⟩
    have hj1 : j ≤ q := by rw [hj]; exact Nat.le_of_lt_succ (Nat.mod_lt _ (by omega))
    have hj2 : (((x2 % 65536).toNat : Nat) : Int).tmod ((q : Int) + 1) = (j : Int) := by rw [hj]; rfl
    have hjc : (j : Int) ≤ (cp : Int) := by omega
    have hqz3 : ((q : Int) + 1 = 0) = False := eq_false (by omega)
    clear hj
    generalize (x2 % 65536).toNat = m2 at *
    have hyz : (str T2).size ≤ 4000 ∧ (str (T2.take j)).size ≤ 4000 := by
      rw [str_size, str_size, List.length_take, HLT.out]; exact ⟨hT5, by omega⟩
    have HCV : Hid (∀ (L : List (Nat × Obj)) (V : World), HS w L V → (g, mkO T2 cp) ∈ L → (convert 33 9 (.slice (some ⟨g, 0, none⟩) j cp)).run Try.prog V = .ok (.string (str (T2.take j))) V ∧ (convert 33 9 (.slice (some ⟨g, 0, none⟩) q cp)).run Try.prog V = .ok (.string (str T2)) V) := fun L V h hm => ⟨h.mconv hm j (by rw [HLT.out]; exact hj1), by
      have h2 := h.mconv hm q (by rw [HLT.out]; exact Nat.le_refl _)
      rwa [List.take_of_length_le (by rw [HLT.out]; exact Nat.le_refl _)] at h2⟩
    have hcv := HCV.out _ _ HST.out (by simp)
    have HD2 : Hid (∀ V, Calls Try.prog 17 #[.string (str T2), .int .i64 (u.size : Int)] V fun e w' => e = .returned (.tuple #[.string (dec (str T2) u.size).1, .int .i64 (dec (str T2) u.size).2]) ∧ Below V.heap.size V w') := fun V => decode_any (str T2) u.size V (by omega) (by omega)
    have HR2 : Hid (∀ V, Calls Try.prog 18 #[.string (str T2), .int .i64 (u.size : Int)] V fun e w' => e = .returned (.agg (gz (dec (str T2) u.size).1 (dec (str T2) u.size).2)) ∧ Below V.heap.size V w') := fun V => rdecode_any (str T2) u.size V (by omega)
    have HD3 : Hid (∀ V, Calls Try.prog 17 #[.string (str (T2.take j)), .int .i64 (u.size : Int)] V fun e w' => e = .returned (.tuple #[.string (dec (str (T2.take j)) u.size).1, .int .i64 (dec (str (T2.take j)) u.size).2]) ∧ Below V.heap.size V w') := fun V => decode_any (str (T2.take j)) u.size V (by omega) (by omega)
    have HR3 : Hid (∀ V, Calls Try.prog 18 #[.string (str (T2.take j)), .int .i64 (u.size : Int)] V fun e w' => e = .returned (.agg (gz (dec (str (T2.take j)) u.size).1 (dec (str (T2.take j)) u.size).2)) ∧ Below V.heap.size V w') := fun V => rdecode_any (str (T2.take j)) u.size V (by omega)
    generalize (dec (str T2) u.size).1 = d2 at *
    generalize (dec (str T2) u.size).2 = e2 at *
    generalize (dec (str (T2.take j)) u.size).1 = d3 at *
    generalize (dec (str (T2.take j)) u.size).2 = e3 at *
    generalize str (T2.take j) = y2 at *
    generalize str T2 = y1 at *
    go_upto_region 15 with (first
      | (go_at_call 14; (with_reducible refine (HTO.out _).mono ?_); rintro e w11 ⟨rfl, rfl⟩)
      | (go_at_call 17; (with_reducible refine (HST.out.call (HD2.out _)).mono ?_); rintro e w11 ⟨rfl, h11⟩))
    have hcv2 := (HCV.out _ _ h11 (by simp)).2
    go_upto_region 16 with (first
      | (go_at_call 18; (with_reducible refine (h11.call (HR2.out _)).mono ?_); rintro e w12 ⟨rfl, h12⟩; have HG2 := Lib.hid ((h12.alloc (.cells (gz ByteArray.empty 0) 31)).gput (x := d2) (e := e2)))
      | (with_reducible refine sAlloc (gz ByteArray.empty 0) w12.heap.size rfl (zeroG _) ?_)
      | ((with_reducible refine sStore (.pointer (some ⟨w12.heap.size, 0, none⟩)) (.agg (gz d2 e2)) ?_ HG2.out.1 ?_); focus exact ⟨rfl, rfl⟩))
    have H13 := Lib.hid HG2.out.2
    clear h11 h12 HG2 hcv hcv2 HST
    generalize (w12.alloc (.cells (gz ByteArray.empty 0) 31)).setRow w12.heap.size (gz d2 e2) = w13 at H13 ⊢
    generalize w12.heap.size = g2 at H13 ⊢
    go_upto_region 18 with (first
      | (go_at_call 17; (with_reducible refine (H13.out.call (HD3.out _)).mono ?_); rintro e w14 ⟨rfl, h14⟩)
      | (go_at_call 18; (with_reducible refine (h14.call (HR3.out _)).mono ?_); rintro e w15 ⟨rfl, h15⟩; have HG3 := Lib.hid ((h15.alloc (.cells (gz ByteArray.empty 0) 31)).gput (x := d3) (e := e3)))
      | (with_reducible refine sAlloc (gz ByteArray.empty 0) w15.heap.size rfl (zeroG _) ?_)
      | ((with_reducible refine sStore (.pointer (some ⟨w15.heap.size, 0, none⟩)) (.agg (gz d3 e3)) ?_ HG3.out.1 ?_); focus exact ⟨rfl, rfl⟩))
    have H16 := Lib.hid HG3.out.2
    clear h14 h15 HG3 H13
    generalize (w15.alloc (.cells (gz ByteArray.empty 0) 31)).setRow w15.heap.size (gz d3 e3) = w16 at H16 ⊢
    generalize w15.heap.size = g3 at H16 ⊢
    have hl1 := H16.out.got (g := g1) (x := d1) (e := e1) (by simp)
    have hl2 := H16.out.got (g := g2) (x := d2) (e := e2) (by simp)
    have hl3 := H16.out.got (g := g3) (x := d3) (e := e3) (by simp)
    have hq1 : (d1.toList == d1.toList) = true := beq_self_eq_true _
    have hq2 : (d2.toList == d2.toList) = true := beq_self_eq_true _
    have hq3 : (d3.toList == d3.toList) = true := beq_self_eq_true _
    go_wp2_with (fail)
    go_ret
    exact ⟨rfl, H16.out.below⟩
  · have HBQ := Lib.hid (fun V => HBAD.out n V (.inr hn1))
    have hn3 : (n ≤ 65536) = False := eq_false (by omega)
    clear HBAD
    have HT0 : Hid (∀ V, Calls Try.prog 16 #[.string u] V fun e w' => e = .returned (.string (str T)) ∧ Below V.heap.size V w') := HE
    go_upto_region 11 with (first
      | (go_at_call 17; (with_reducible refine (HBQ.out _).mono ?_); rintro e w6 ⟨rfl, rfl⟩)
      | (go_at_call 14; (with_reducible refine (HTO.out _).mono ?_); rintro e w6 ⟨rfl, rfl⟩)
      | (go_at_call 16; (with_reducible refine (H5.out.call (HT0.out _)).mono ?_); rintro e w7 ⟨rfl, h7⟩; have hcb := run_bytes_of_string w7 9 33 5 (str T) Try.underlying9 Try.underlying33 Try.underlying5; rw [str_size] at hcb))
    have HM : Hid (HS w [(w7.heap.size, mkO T (grownCap w7 T.length 0 5)), (g1, .cells (gz d1 e1) 31), (q0, .cells #[.int .i64 x0, .int .i64 x1, .int .i64 x2] 26)] (w7.alloc (Obj.cells (bytesRow (str T) (grownCap w7 T.length 0 5)) 5 ((bytesRow (str T) (grownCap w7 T.length 0 5)).size, (bytesRow (str T) (grownCap w7 T.length 0 5)).size + 1))).drew) := (h7.alloc (mkO T (grownCap w7 T.length 0 5))).drew
    have hcp : T.length ≤ grownCap w7 T.length 0 5 := grownCap_ge w7 _ _ _
    clear hcb h7 H5 HT0
    generalize (w7.alloc (Obj.cells (bytesRow (str T) (grownCap w7 T.length 0 5)) 5 ((bytesRow (str T) (grownCap w7 T.length 0 5)).size, (bytesRow (str T) (grownCap w7 T.length 0 5)).size + 1))).drew = w8 at HM ⊢
    generalize grownCap w7 T.length 0 5 = cp at HM hcp ⊢
    generalize w7.heap.size = g at HM ⊢
    have hd := HM.out.drew
    have hx0 := hd.cell (b := q0) (cs := #[.int .i64 x0, .int .i64 x1, .int .i64 x2]) (t := 26) (by simp) 0
    have hx1 := hd.cell (b := q0) (cs := #[.int .i64 x0, .int .i64 x1, .int .i64 x2]) (t := 26) (by simp) 1
    have ha0 := and16 x0
    obtain ⟨i, hi⟩ : ∃ i : Nat, i = (x0 % 65536).toNat % T.length := ⟨_, rfl⟩
    have hiT : i < T.length := by rw [hi]; exact Nat.mod_lt _ (Nat.lt_of_lt_of_le (by omega) hT4)
    have hi2 : (((x0 % 65536).toNat : Nat) : Int).tmod (T.length : Int) = (i : Int) := by rw [hi]; rfl
    obtain ⟨a, haa⟩ : ∃ a, a = T[i] := ⟨_, rfl⟩
    have hcell : w8.drew.cell? ⟨g, i, none⟩ = some (.int .u8 (a.toNat : Int)) := by rw [haa]; exact hd.mcell (cp := cp) (by simp) i hiT
    have hfr := hd.mfree (g := g) (cp := cp) (T := T) (by simp) i hiT
    have hxb := xb_eq a x1
    have hiT2 : (i : Int) < (T.length : Int) := by omega
    have HST : Hid (HS w [(g, mkO (T.set i (xb a x1)) cp), (g1, .cells (gz d1 e1) 31), (q0, .cells #[.int .i64 x0, .int .i64 x1, .int .i64 x2] 26)] (w8.drew.setCell ⟨g, i, none⟩ (.int .u8 ((xb a x1).toNat : Int)))) := hd.mset i hiT (xb a x1)
    have HLT : Hid ((T.set i (xb a x1)).length = T.length) := by rw [List.length_set]; exact Lib.hid rfl
    clear haa hi hd HM
    generalize T.set i (xb a x1) = T2 at HST HLT
    generalize T.length = q at *
    have hqz : ((q : Int) = 0) = False := eq_false (by omega)
    have hqz2 : (q = 0) = False := eq_false (by omega)
    generalize xb a x1 = bx at *
    generalize (x0 % 65536).toNat = m0 at *
    go_still_tail 21, (by kernel_rfl)
    change wpList _ _ _ _ _ w8.drew
    generalize w8.drew = w9 at *
    go_upto_region 12 with (fail)
    simp only [hxb]
    generalize w9.setCell ⟨g, i, none⟩ (.int .u8 (bx.toNat : Int)) = w10 at HST ⊢
    clear hx0 hx1 hcell hfr hi2 hiT hiT2 ha0 hxb
    have hx2 := HST.out.cell (b := q0) (cs := #[.int .i64 x0, .int .i64 x1, .int .i64 x2]) (t := 26) (by simp) 2
    have ha2 := and16 x2
    obtain ⟨j, hj⟩ : ∃ j : Nat, j = (x2 % 65536).toNat % (q + 1) := ⟨_, rfl⟩
    have hj1 : j ≤ q := by rw [hj]; exact Nat.le_of_lt_succ (Nat.mod_lt _ (by omega))
    have hj2 : (((x2 % 65536).toNat : Nat) : Int).tmod ((q : Int) + 1) = (j : Int) := by rw [hj]; rfl
    have hjc : (j : Int) ≤ (cp : Int) := by omega
    have hqz3 : ((q : Int) + 1 = 0) = False := eq_false (by omega)
    clear hj
    generalize (x2 % 65536).toNat = m2 at *
    have hyz : (str T2).size ≤ 4000 ∧ (str (T2.take j)).size ≤ 4000 := by
      rw [str_size, str_size, List.length_take, HLT.out]; exact ⟨hT5, by omega⟩
    have HCV : Hid (∀ (L : List (Nat × Obj)) (V : World), HS w L V → (g, mkO T2 cp) ∈ L → (convert 33 9 (.slice (some ⟨g, 0, none⟩) j cp)).run Try.prog V = .ok (.string (str (T2.take j))) V ∧ (convert 33 9 (.slice (some ⟨g, 0, none⟩) q cp)).run Try.prog V = .ok (.string (str T2)) V) := fun L V h hm => ⟨h.mconv hm j (by rw [HLT.out]; exact hj1), by
      have h2 := h.mconv hm q (by rw [HLT.out]; exact Nat.le_refl _)
      rwa [List.take_of_length_le (by rw [HLT.out]; exact Nat.le_refl _)] at h2⟩
    have hcv := HCV.out _ _ HST.out (by simp)
    have HD2 : Hid (∀ V, Calls Try.prog 17 #[.string (str T2), .int .i64 (u.size : Int)] V fun e w' => e = .returned (.tuple #[.string (dec (str T2) u.size).1, .int .i64 (dec (str T2) u.size).2]) ∧ Below V.heap.size V w') := fun V => decode_any (str T2) u.size V (by omega) (by omega)
    have HR2 : Hid (∀ V, Calls Try.prog 18 #[.string (str T2), .int .i64 (u.size : Int)] V fun e w' => e = .returned (.agg (gz (dec (str T2) u.size).1 (dec (str T2) u.size).2)) ∧ Below V.heap.size V w') := fun V => rdecode_any (str T2) u.size V (by omega)
    have HD3 : Hid (∀ V, Calls Try.prog 17 #[.string (str (T2.take j)), .int .i64 (u.size : Int)] V fun e w' => e = .returned (.tuple #[.string (dec (str (T2.take j)) u.size).1, .int .i64 (dec (str (T2.take j)) u.size).2]) ∧ Below V.heap.size V w') := fun V => decode_any (str (T2.take j)) u.size V (by omega) (by omega)
    have HR3 : Hid (∀ V, Calls Try.prog 18 #[.string (str (T2.take j)), .int .i64 (u.size : Int)] V fun e w' => e = .returned (.agg (gz (dec (str (T2.take j)) u.size).1 (dec (str (T2.take j)) u.size).2)) ∧ Below V.heap.size V w') := fun V => rdecode_any (str (T2.take j)) u.size V (by omega)
    generalize (dec (str T2) u.size).1 = d2 at *
    generalize (dec (str T2) u.size).2 = e2 at *
    generalize (dec (str (T2.take j)) u.size).1 = d3 at *
    generalize (dec (str (T2.take j)) u.size).2 = e3 at *
    generalize str (T2.take j) = y2 at *
    generalize str T2 = y1 at *
    go_upto_region 15 with (first
      | (go_at_call 14; (with_reducible refine (HTO.out _).mono ?_); rintro e w11 ⟨rfl, rfl⟩)
      | (go_at_call 17; (with_reducible refine (HST.out.call (HD2.out _)).mono ?_); rintro e w11 ⟨rfl, h11⟩))
    have hcv2 := (HCV.out _ _ h11 (by simp)).2
    go_upto_region 16 with (first
      | (go_at_call 18; (with_reducible refine (h11.call (HR2.out _)).mono ?_); rintro e w12 ⟨rfl, h12⟩; have HG2 := Lib.hid ((h12.alloc (.cells (gz ByteArray.empty 0) 31)).gput (x := d2) (e := e2)))
      | (with_reducible refine sAlloc (gz ByteArray.empty 0) w12.heap.size rfl (zeroG _) ?_)
      | ((with_reducible refine sStore (.pointer (some ⟨w12.heap.size, 0, none⟩)) (.agg (gz d2 e2)) ?_ HG2.out.1 ?_); focus exact ⟨rfl, rfl⟩))
    have H13 := Lib.hid HG2.out.2
    clear h11 h12 HG2 hcv hcv2 HST
    generalize (w12.alloc (.cells (gz ByteArray.empty 0) 31)).setRow w12.heap.size (gz d2 e2) = w13 at H13 ⊢
    generalize w12.heap.size = g2 at H13 ⊢
    go_upto_region 18 with (first
      | (go_at_call 17; (with_reducible refine (H13.out.call (HD3.out _)).mono ?_); rintro e w14 ⟨rfl, h14⟩)
      | (go_at_call 18; (with_reducible refine (h14.call (HR3.out _)).mono ?_); rintro e w15 ⟨rfl, h15⟩; have HG3 := Lib.hid ((h15.alloc (.cells (gz ByteArray.empty 0) 31)).gput (x := d3) (e := e3)))
      | (with_reducible refine sAlloc (gz ByteArray.empty 0) w15.heap.size rfl (zeroG _) ?_)
      | ((with_reducible refine sStore (.pointer (some ⟨w15.heap.size, 0, none⟩)) (.agg (gz d3 e3)) ?_ HG3.out.1 ?_); focus exact ⟨rfl, rfl⟩))
    have H16 := Lib.hid HG3.out.2
    clear h14 h15 HG3 H13
    generalize (w15.alloc (.cells (gz ByteArray.empty 0) 31)).setRow w15.heap.size (gz d3 e3) = w16 at H16 ⊢
    generalize w15.heap.size = g3 at H16 ⊢
    have hl1 := H16.out.got (g := g1) (x := d1) (e := e1) (by simp)
    have hl2 := H16.out.got (g := g2) (x := d2) (e := e2) (by simp)
    have hl3 := H16.out.got (g := g3) (x := d3) (e := e3) (by simp)
    have hq1 : (d1.toList == d1.toList) = true := beq_self_eq_true _
    have hq2 : (d2.toList == d2.toList) = true := beq_self_eq_true _
    have hq3 : (d3.toList == d3.toList) = true := beq_self_eq_true _
    go_wp2_with (fail)
    go_ret
    exact ⟨rfl, H16.out.below⟩
theorem lifted (os : Os) (started : os.Started) (H : Type) (enc : TypeId × Value → H) :
    ReturnsInHanded {} Try.checked os 4 .any (Rows.coderDecodeSpec.pre6 enc Try.prog Try.f4 Rows.coderDecodeRow.domain false) (Rows.coderDecodeSpec.post enc Try.prog Try.f4 false true false false) := by
  refine returnsInHanded_of_change_sized (C := Try.checked) own started (by kernel_rfl) Try.func4
    (ChangeSpec.witness6 (enc := enc) (C := Try.checked) false ⟨#[], #[.string ByteArray.empty, .int .i64 0, .agg #[.int .i64 0, .int .i64 0, .int .i64 0]], []⟩ 8 (by kernel_rfl) (by kernel_rfl) (by kernel_rfl) (by kernel_rfl)) ?_
  intro W base args ds gs before hval0 hW _ hsz0 _
  have hval : ∀ (j : Nat) t v, Try.f4.params[j]? = some t → args[j]? = some v → Value.okWide Try.prog W .any base t v := hval0
  have hW' := hW
  obtain ⟨p, q, hA0, hV, rfl, hfz, hnd⟩ := hW
  have hA : DataW.TrodAll enc Try.prog W 0 (fun _ => true) true Try.f4.params.toList args.toList ds p := hA0
  have hsz : (DataW.weightsEach Try.prog (Try.f4.params.toList ++ Rows.coderDecodeSpec.plain.varTypes Try.prog) (ds ++ gs)).all (· ≤ reachBytes) = true := hsz0
  rw [Try.params4] at hA hval hsz
  obtain ⟨v0, v1, v2, d0, d1, d2, p0, p1, p2, rfl, rfl, rfl, h0, h1, h2⟩ := trodAll_three hA
  obtain ⟨rfl, rfl⟩ := trodVars_none hV
  obtain ⟨s, rfl, rfl, rfl, ws⟩ := open_string Try.underlying9 (hval 0 9 v0 rfl rfl) h0
  have hs : s.size ≤ 140737488355328 := by have h := sized_string hsz (j := 0) (t := 9) rfl rfl; rw [show s.data.toList.length = s.size from Array.length_toList] at h; exact Nat.le_trans h (by decide)
  obtain ⟨n, rfl, rfl, rfl, _⟩ := open_int Try.underlying3 (hval 1 3 v1 rfl rfl) h1
  obtain ⟨x0, x1, x2, rfl⟩ := agg_n3 (hval 2 26 v2 rfl rfl)
  refine (walk s n x0 x1 x2 W hs).mono fun e W' ⟨he, hb⟩ => ?_
  subst he
  exact ⟨_, rfl, law_post hW' rfl (by kernel_rfl) rfl (by intro t ht; rw [Try.params4] at ht; simp at ht; rcases ht with rfl | rfl | rfl <;> exact ⟨by kernel_rfl, of_decide_eq_true (by kernel_rfl)⟩) hb⟩

theorem holds : Rows.CoderDecodeSaid :=
  OpenClaim.holds_of_wide 4 Try.f4 rfl rfl rfl rfl rfl rfl rfl ⟨rfl, rfl, rfl, rfl, rfl⟩ rfl rfl rfl rfl rfl (by kernel_rfl) Try.func4 (by kernel_rfl)
    (of_decide_eq_true (by kernel_rfl)) (by unfold Func.isWrapper; first | (rw [if_pos (by decide +kernel)]; kernel_rfl) | (rw [if_neg (by decide +kernel)]; exact ⟨rfl, rfl⟩))
    (fun os started H enc _ => lifted os started H enc)
end Go.Proofs.Ytbfnahclkajahaa.C.CLDecode
