/-
  The reference's numbers in digits of 24 bits: times, raised, above.
-/
import Derived.Test.YtdpcciidnkchfaaSame
namespace Go.Proofs.Ytdpcciidnkchfaa
open Go.RowKit
variable {w : World}

/-- digits as numbers in memory -/
def dz (l : List Nat) : List Int := l.map fun (a : Nat) => (a : Int)
theorem dz_len (l : List Nat) : (dz l).length = l.length := by simp [dz]
theorem dz_app (l k : List Nat) : dz (l ++ k) = dz l ++ dz k := by simp [dz]
theorem dz_cg {l : List Nat} {i : Nat} (h : i < l.length) : cg (dz l) i = (l.getD i 0 : Nat) := by simp [cg, dz, List.getD, h]
theorem tms_step {l : List Nat} {k f c : Nat} (h : k < l.length) : tms (l.drop k) f c = (l.getD k 0 * f + c) % 16777216 :: tms (l.drop (k + 1)) f ((l.getD k 0 * f + c) / 16777216) := by
  rw [List.drop_eq_getElem_cons h]
  simp [tms, List.getD, h]
theorem mask24 (n : Nat) : bits .and .i64 (n : Int) 16777215 = ((n % 16777216 : Nat) : Int) := by
  have := i64_mask 24 (by omega) (n : Int)
  simpa using this
/-- 'a slice of one's own is handed back' -/
def GotO (c : List Int) (w : World) (e : Ending) (w' : World) : Prop := ∃ po n cap, e = .returned (.slice po n cap) ∧ OwnsI w.heap.size w' (.slice po n cap) c ∧ Below w.heap.size w w'
theorem OwnsI.mono {B B' : Nat} {v : Value} {p : List Int} (h : OwnsI B w v p) (hB : B' ≤ B) : OwnsI B' w v p := by
  obtain ⟨hl, h | ⟨g, cap, cur, hv, hg, h⟩⟩ := h
  · exact ⟨hl, Or.inl h⟩
  · exact ⟨hl, Or.inr ⟨g, cap, cur, hv, Nat.le_trans hB hg, h⟩⟩
set_option maxRecDepth 100000 in
set_option maxHeartbeats 4000000 in
theorem refTimes_any (l : List Nat) (v : Value) (f : Nat) (w : World) (hc : Cm w v (dz l)) (hl : l.length ≤ 100) (hd : Dg l) (hf : f < 16777216) :
    Calls Try.prog 64 #[v, .int .i64 f] w (GotO (dz (tms l f 0)) w) := by
  obtain ⟨po, cap, rfl, ⟨hlc, hcap⟩, hel⟩ := hc.elem
  rw [dz_len] at hel hlc ⊢
  have HE : Hid (∀ V, Below w.heap.size w V → ∀ i, i < l.length → ∃ b off, po = some ⟨b, off, none⟩ ∧ V.cell? ⟨b, off + i, none⟩ = some (.int .i64 (l.getD i 0 : Nat))) := fun V hV i hi => by
    obtain ⟨b, off, h1, h2⟩ := hel V hV i hi
    rw [dz_cg hi] at h2
    exact ⟨b, off, h1, h2⟩
  have HD : Hid (∀ i, i < l.length → l.getD i 0 < 16777216) := fun i hi => hd _ (by simp [List.getD, hi])
  obtain ⟨n, hn⟩ : ∃ n, n = l.length := ⟨_, rfl⟩
  have HN := Lib.hid hn
  rw [← hn] at HE HD hl hlc ⊢
  clear hn hel hc hd
  go_enter Try.func64, Try.ntmps64
  go_wp2
  go_loopw [5, 6, 7] (fun o c i wr => ∃ k q : Nat, k ≤ n ∧ i = .int .i64 k ∧ c = .int .i64 q ∧ q < 16777216 ∧ ∃ p : List Nat, p.length = k ∧ Hid (tms l f 0 = p ++ tms (l.drop k) f q) ∧ Hid (OwnsI w.heap.size wr o (dz p)) ∧ Hid (Below w.heap.size w wr)) (fun _ _ i _ => n - (intOf i).toNat)
  case atStart => exact ⟨0, 0, by omega, rfl, rfl, by omega, [], rfl, rfl, ownsI_lit w w.heap.size (Nat.le_refl _) [] 0 rfl (by omega) _ rfl, below1⟩
  case round =>
    obtain ⟨k, q, hk, rfl, rfl, hq, p, hp, HT, HO, HW⟩ := hrel
    have HPl := Lib.hid hp; clear hp
    by_cases hlt : k < n
    · obtain ⟨b, off, rfl, hcell⟩ := HE.out _ HW.out k hlt
      have hx := HD.out k hlt
      have HT2 : Hid (tms l f 0 = (p ++ [(l.getD k 0 * f + q) % 16777216]) ++ tms (l.drop (k + 1)) f ((l.getD k 0 * f + q) / 16777216)) := by
        unfold Hid; rw [HT.out, tms_step (by rw [← HN.out]; exact hlt)]; simp
      have hcar := tms_carry hx hf hq
      generalize l.getD k 0 = x at hcell hx HT2 hcar
      have hy : x * f ≤ 16777215 * 16777215 := Nat.mul_le_mul (by omega) (by omega)
      have hwz : IntKind.i64.wrap ((x : Int) * (f : Int)) = ((x * f : Nat) : Int) := by rw [← Int.natCast_mul]; exact IntWalk.i64_in _ (by omega)
      generalize x * f = y at hwz HT2 hcar hy
      have hwz3 : wrap64 ((x : Int) * (f : Int)) = (y : Int) := (IntWalk.i64_left _).symm.trans hwz
      obtain ⟨hc1, hc2⟩ := hcar
      have hm : bits .and .i64 ((y : Int) + (q : Int)) 16777215 = (((y + q) % 16777216 : Nat) : Int) := by rw [← Int.natCast_add]; exact mask24 (y + q)
      have hdv : ((y : Int) + (q : Int)) / 16777216 = (((y + q) / 16777216 : Nat) : Int) := by omega
      have HApp : Hid (dz (p ++ [(y + q) % 16777216]) = dz p ++ [(((y + q) % 16777216 : Nat) : Int)]) := dz_app _ _
      have HPl2 : Hid ((p ++ [(y + q) % 16777216]).length = k + 1) := by unfold Hid; rw [List.length_append, HPl.out]; rfl
      have HLz : Hid ((dz p).length = k) := by unfold Hid; rw [dz_len]; exact HPl.out
      generalize p ++ [(y + q) % 16777216] = p2 at HT2 HApp HPl2
      generalize (y + q) % 16777216 = r at hm HApp
      generalize (y + q) / 16777216 = q2 at hdv hc2 HT2
      go_wp2_with (at_builtin; refine wp_appI 22 Try.underlying22 rfl (.tmp 24) (.tmp 27) rfl w.heap.size wr _ (dz p) (r : Nat) (by rfl) HO.out (by rfl) (by rw [HLz.out]; omega) HW.out.size ?_; intro v' w' ho' hb'; have HO' := Lib.hid ho'; have HB' := Lib.hid hb'; clear ho' hb')
      go_roundw
      case rel => exact ⟨k + 1, q2, by omega, by go_num, by first | rfl | (rw [hdv]), hc2, p2, HPl2.out, HT2, by rw [HApp.out]; exact HO', HW.out.trans HB'.out⟩
      case measure => simp [intOf]; omega
    · obtain rfl : k = n := by omega
      have HT2 : Hid (dz (tms l f 0) = dz p ++ [((q : Nat) : Int)]) := by
        unfold Hid
        rw [HT.out, List.drop_of_length_le (by rw [← HN.out]; exact Nat.le_refl _), dz_app]; rfl
      have HLz : Hid ((dz p).length = k) := by unfold Hid; rw [dz_len]; exact HPl.out
      go_wp2_with (at_builtin; refine wp_appI 22 Try.underlying22 rfl (.tmp 31) (.tmp 33) rfl w.heap.size wr _ (dz p) (q : Nat) (by rfl) HO.out (by rfl) (by rw [HLz.out]; omega) HW.out.size ?_; intro v' w' ho' hb'; have HO' := Lib.hid ho'; have HB' := Lib.hid hb'; obtain ⟨p2, c2, hv2, _⟩ := ho'.cm; generalize ((dz p ++ [((q : Nat) : Int)]).length) = m at hv2; subst hv2; clear ho' hb')
      go_ret
      exact ⟨_, _, _, rfl, by rw [HT2.out]; exact HO'.out, HW.out.trans HB'.out⟩

/-- k times the factor f -/
def itm (l : List Nat) (f : Nat) : Nat → List Nat
  | 0 => l
  | k + 1 => tms (itm l f k) f 0
theorem itm_len (l : List Nat) (f : Nat) : ∀ k, (itm l f k).length = l.length + k
  | 0 => rfl
  | k + 1 => by unfold itm; rw [tms_len, itm_len l f k]; rfl
theorem itm_dg {l : List Nat} {f : Nat} (h : Dg l) (hf : f < 16777216) : ∀ k, Dg (itm l f k)
  | 0 => h
  | k + 1 => by unfold itm; exact tms_dg (itm_dg h hf k) hf (by omega)
theorem itm_dv (l : List Nat) (f : Nat) : ∀ k, dv (itm l f k) = dv l * f ^ k
  | 0 => by simp [itm]
  | k + 1 => by unfold itm; rw [tms_dv, itm_dv l f k, Nat.pow_succ, Nat.add_zero, Nat.mul_assoc]
def rz1 (a n b m : Nat) : List Nat := itm (itm [1] a n) b m
def rz (a n b m : Nat) : List Nat := rz1 a n b m ++ List.replicate (17 - (rz1 a n b m).length) 0
theorem rz1_len (a n b m : Nat) : (rz1 a n b m).length = 1 + n + m := by unfold rz1; rw [itm_len, itm_len]; rfl
theorem rz_len {a n b m : Nat} (hn : n ≤ 8) (hm : m ≤ 8) : (rz a n b m).length = 17 := by
  have := rz1_len a n b m
  unfold rz; rw [List.length_append, List.length_replicate]; omega
theorem one_dg : Dg [1] := fun a ha => by simp at ha; omega
theorem rz_dg {a n b m : Nat} (ha : a < 16777216) (hb : b < 16777216) : Dg (rz a n b m) := fun x hx => by
  unfold rz at hx
  rcases List.mem_append.1 hx with h | h
  · exact itm_dg (itm_dg one_dg ha n) hb m x h
  · have := List.eq_of_mem_replicate h; omega
theorem rz_dv (a n b m : Nat) : dv (rz a n b m) = a ^ n * b ^ m := by
  unfold rz; rw [dv_zeros]
  unfold rz1; rw [itm_dv, itm_dv]; simp [dv]
def mlen : Value → Nat
  | .slice _ n _ => n
  | _ => 0
set_option maxRecDepth 100000 in
set_option maxHeartbeats 4000000 in
theorem raised_any (a n b m : Nat) (w : World) (ha : a < 16777216) (hb : b < 16777216) (hn : n ≤ 8) (hm : m ≤ 8) :
    Calls Try.prog 52 #[.int .i64 a, .int .i64 n, .int .i64 b, .int .i64 m] w (GotO (dz (rz a n b m)) w) := by
  have H1 : Hid (∀ V v k, k < n → Cm V v (dz (itm [1] a k)) → Calls Try.prog 64 #[v, .int .i64 a] V (GotO (dz (itm [1] a (k + 1))) V)) := fun V v k hk hv =>
    refTimes_any (itm [1] a k) v a V hv (by rw [itm_len]; simp; omega) (itm_dg one_dg ha k) ha
  have H2 : Hid (∀ V v k, k < m → Cm V v (dz (itm (itm [1] a n) b k)) → Calls Try.prog 64 #[v, .int .i64 b] V (GotO (dz (itm (itm [1] a n) b (k + 1))) V)) := fun V v k hk hv =>
    refTimes_any (itm (itm [1] a n) b k) v b V hv (by rw [itm_len, itm_len]; simp; omega) (itm_dg (itm_dg one_dg ha n) hb k) hb
  have HZ : Hid (rz1 a n b m = itm (itm [1] a n) b m) := rfl
  have HZl := Lib.hid (rz1_len a n b m)
  have HR : Hid (dz (rz a n b m) = dz (rz1 a n b m) ++ List.replicate (17 - (rz1 a n b m).length) 0) := by unfold Hid rz; rw [dz_app]; congr 1; simp [dz]
  clear ha hb
  go_enter Try.func52, Try.ntmps52
  go_wp2
  go_loopw [9, 10] (fun v i wr => ∃ k : Nat, k ≤ n ∧ i = .int .i64 k ∧ Hid (OwnsI w.heap.size wr v (dz (itm [1] a k))) ∧ Hid (Below w.heap.size w wr)) (fun _ i _ => n - (intOf i).toNat)
  case atStart => exact ⟨0, by omega, rfl, ownsI_lit w w.heap.size (Nat.le_refl _) [1] 1 rfl (by omega) _ rfl, below1⟩
  case round =>
    obtain ⟨k, hk, rfl, HO, HW⟩ := hrel
    by_cases hlt : k < n
    · have HC := Lib.hid (H1.out wr _ k hlt HO.out.cm)
      obtain ⟨p1, c1, rfl⟩ := HO.out.slice rfl
      generalize hq : (dz (itm [1] a k)).length = q at HC HO
      have HQ := Lib.hid hq; clear hq
      go_wp2_with (go_at_call 64; (refine HC.out.mono ?_); rintro e w2 ⟨p2, n2, c2, rfl, ho, hb⟩; have HO2 : Hid (OwnsI w.heap.size w2 (.slice p2 n2 c2) (dz (itm [1] a (k + 1)))) := ho.mono HW.out.size; have HB2 : Hid (Below w.heap.size w w2) := HW.out.trans (hb.mono HW.out.size); clear ho hb)
      go_roundw
      case rel => exact ⟨k + 1, by omega, by go_num, HO2, HB2⟩
      case measure => simp [intOf]; omega
    · obtain rfl : k = n := by omega
      obtain ⟨p1, c1, rfl⟩ := HO.out.slice rfl
      generalize hq : (dz (itm [1] a k)).length = q at HO
      have HQ := Lib.hid hq; clear hq
      clear H1
      go_wp2_with fail
      go_loopw [9, 11] (fun v i wr => ∃ j : Nat, j ≤ m ∧ i = .int .i64 j ∧ Hid (OwnsI w.heap.size wr v (dz (itm (itm [1] a k) b j))) ∧ Hid (Below w.heap.size w wr)) (fun _ i _ => m - (intOf i).toNat)
      case atStart => exact ⟨0, by omega, rfl, HO, HW⟩
      case round =>
        clear HO HW
        obtain ⟨j, hj, rfl, HO, HW⟩ := hrel
        by_cases hlt : j < m
        · have HC := Lib.hid (H2.out wr _ j hlt HO.out.cm)
          obtain ⟨p1, c1, rfl⟩ := HO.out.slice rfl
          generalize hq : (dz (itm (itm [1] a k) b j)).length = q at HC HO
          have HQ := Lib.hid hq; clear hq
          go_wp2_with (go_at_call 64; (refine HC.out.mono ?_); rintro e w2 ⟨p2, n2, c2, rfl, ho, hb⟩; have HO2 : Hid (OwnsI w.heap.size w2 (.slice p2 n2 c2) (dz (itm (itm [1] a k) b (j + 1)))) := ho.mono HW.out.size; have HB2 : Hid (Below w.heap.size w w2) := HW.out.trans (hb.mono HW.out.size); clear ho hb)
          go_roundw
          case rel => exact ⟨j + 1, by omega, by go_num, HO2, HB2⟩
          case measure => simp [intOf]; omega
        · obtain rfl : j = m := by omega
          rw [← HZ.out] at HO
          obtain ⟨p1, c1, rfl⟩ := HO.out.slice rfl
          clear H2
          go_wp2_with fail
          go_loopw [9] (fun v wr => ∃ t po cap, v = .slice po (1 + k + j + t) cap ∧ 1 + k + j + t ≤ 17 ∧ Hid (OwnsI w.heap.size wr v (dz (rz1 a k b j) ++ List.replicate t 0)) ∧ Hid (Below w.heap.size w wr)) (fun v _ => 17 - mlen v)
          case atStart => exact ⟨0, _, _, by rw [dz_len, HZl.out]; rfl, by omega, by have h1 := HO.out; simp only [List.replicate_zero, List.append_nil]; exact h1, HW⟩
          case round =>
            clear HO HW
            obtain ⟨t, po, cap, rfl, ht, HO, HW⟩ := hrel
            generalize hs : 1 + k + j + t = s at ht HO ⊢
            have HS := Lib.hid hs; clear hs
            have HSn : Hid (dz (rz1 a k b j) ++ List.replicate (t + 1) 0 = (dz (rz1 a k b j) ++ List.replicate t 0) ++ [0]) := by unfold Hid; rw [List.replicate_succ', List.append_assoc]
            have HLen : Hid ((dz (rz1 a k b j) ++ List.replicate t 0).length = s) := by unfold Hid; rw [List.length_append, dz_len, HZl.out, List.length_replicate]; exact HS.out
            have HR2 : Hid (s = 17 → dz (rz1 a k b j) ++ List.replicate t 0 = dz (rz a k b j)) := fun h => by
              rw [HR.out, HZl.out]; congr 2; have := HS.out; omega
            generalize dz (rz1 a k b j) ++ List.replicate t 0 = p at HO HSn HLen HR2
            by_cases hlt : s < 17
            · go_wp2_with (at_builtin; refine wp_appI 22 Try.underlying22 rfl (.tmp 32) (.tmp 33) rfl w.heap.size wr _ p 0 (by rfl) HO.out (by rfl) (by rw [HLen.out]; omega) HW.out.size ?_; intro v' w' ho' hb'; have HO' := Lib.hid ho'; have HB' := Lib.hid hb'; obtain ⟨p2, c2, rfl⟩ := ho'.slice (n := s + 1) (by rw [List.length_append, HLen.out]; rfl); clear ho' hb')
              go_roundw
              case rel => exact ⟨t + 1, p2, c2, by rw [← HS.out]; rfl, by have := HS.out; omega, by rw [HSn.out]; exact HO', HW.out.trans HB'.out⟩
              case measure => simp [mlen]; omega
            · have hs17 : s = 17 := by omega
              have HR3 := Lib.hid (HR2.out hs17)
              clear hs17
              go_wp2_with fail
              go_ret
              exact ⟨_, _, _, rfl, by rw [← HR3.out]; exact HO.out, HW.out⟩
end Go.Proofs.Ytdpcciidnkchfaa
