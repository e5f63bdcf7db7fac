/-
  What is said once of all laws: the examples of the chapter (contract of the laws' sanity).
-/
import Derived.Test.YtjaipjgnchpjcaaPFill
namespace Go.Proofs.Ytjaipjgnchpjcaa.P
open Go.RowKit T Go.Shelf
set_option maxRecDepth 100000
variable {W w w' : World} {L : List (Nat × Obj)}

/-! ### residuals of a solid tile -/
theorem nei_const (x : Int) (f : Nat → Int) (hf : ∀ i, i < 64 → f i = x) (i : Nat) (h0 : 0 < i) (hi : i < 64) : nL f i = x ∧ nU f i = x ∧ nC f i = x := by
  unfold nL nU nC
  by_cases h1 : 0 < i % 8
  · by_cases h2 : 0 < i / 8
    · simp only [if_pos h1, if_pos h2]
      exact ⟨hf _ (by omega), hf _ (by omega), hf _ (by omega)⟩
    · simp only [if_pos h1, if_neg h2]
      exact ⟨hf _ (by omega), hf _ (by omega), hf _ (by omega)⟩
  · by_cases h2 : 0 < i / 8
    · simp only [if_neg h1, if_pos h2]
      exact ⟨hf _ (by omega), hf _ (by omega), hf _ (by omega)⟩
    · omega
theorem nr_same (t x : Int) : nr t x x = x := by unfold nr; split <;> rfl
theorem prd_same (k : Nat) (hk : 0 < k) (x : Int) : prd k x x x = x := by
  match k, hk with
  | 1, _ => rfl
  | 2, _ => rfl
  | 3, _ => show (x + x) / 2 = x; omega
  | 4, _ => show pth x x x = x; unfold pth; rw [nr_same, nr_same]
  | k + 5, _ => show med x x x = x; unfold med; rw [if_pos (by omega)]; omega
theorem prd_zero (k : Nat) : prd k 0 0 0 = 0 := by
  match k with
  | 0 => rfl
  | k + 1 => exact prd_same _ (by omega) 0
theorem res_const (k : Nat) (hk : 0 < k) (x : Int) (hx : Ch x) (f : Nat → Int) (hf : ∀ i, i < 64 → f i = x) (i : Nat) (hi : i < 64) : res k f i = if i = 0 then x else 0 := by
  unfold res gs
  rw [hf i hi]
  by_cases h : i = 0
  · subst h
    rw [if_pos rfl, show nL f 0 = 0 from rfl, show nU f 0 = 0 from rfl, show nC f 0 = 0 from rfl, prd_zero]
    unfold Ch at hx; unfold b8; omega
  · obtain ⟨a, b, c⟩ := nei_const x f hf i (by omega) hi
    rw [if_neg h, a, b, c, prd_same k hk]
    unfold b8; omega
/-- a byte and 63 noughts -/
def by1 (x : Int) : List UInt8 := u8 x :: List.replicate 63 0
theorem bl_const (k : Nat) (hk : 0 < k) (x : Int) (hx : Ch x) (f : Nat → Int) (hf : ∀ i, i < 64 → f i = x) : bl (res k f) 64 = by1 x := by
  have h1 : bl (res k f) 64 = bl (fun i => if i = 0 then x else 0) 64 := bl_ext fun i hi => res_const k hk x hx f hf i hi
  rw [h1, show (64 : Nat) = 1 + 63 from rfl, bl_app]
  have h2 : bl (fun i => if 1 + i = 0 then x else 0) 63 = List.replicate 63 0 := by
    have h3 : bl (fun i => if 1 + i = 0 then x else 0) 63 = bl (fun _ => 0) 63 := bl_ext fun i _ => if_neg (by omega)
    rw [h3]
    unfold bl
    rw [List.map_const', List.length_range]; rfl
  rw [h2]; rfl
theorem jn_bl (y u v a : Nat → Int) : bl (jn y u v a) 256 = bl y 64 ++ (bl u 64 ++ (bl v 64 ++ bl a 64)) := by
  rw [show (256 : Nat) = 64 + 192 from rfl, bl_app, show (192 : Nat) = 64 + 128 from rfl, bl_app, show (128 : Nat) = 64 + 64 from rfl, bl_app]
  have e1 : bl (jn y u v a) 64 = bl y 64 := bl_ext fun i hi => if_pos hi
  have e2 : bl (fun i => jn y u v a (64 + i)) 64 = bl u 64 := bl_ext fun i hi => by unfold jn; rw [if_neg (by omega), if_pos (by omega)]; congr 1; omega
  have e3 : bl (fun i => jn y u v a (64 + (64 + i))) 64 = bl v 64 := bl_ext fun i hi => by unfold jn; rw [if_neg (by omega), if_neg (by omega), if_pos (by omega)]; congr 1; omega
  have e4 : bl (fun i => jn y u v a (64 + (64 + (64 + i)))) 64 = bl a 64 := bl_ext fun i hi => by unfold jn; rw [if_neg (by omega), if_neg (by omega), if_neg (by omega)]; congr 1; omega
  rw [e1, e2, e3, e4]
theorem fwd_solid (k : Nat) (hk : 0 < k) (p : Px) (hp : Pc p) : fwd k (fun _ => p) = by1 (sY p.r p.g p.b) ++ (by1 (sU p.r p.b) ++ (by1 (sV p.r p.g p.b) ++ by1 p.a)) := by
  unfold fwd
  rw [jn_bl, bl_const k hk (sY p.r p.g p.b) (b8_ch _) (pY fun _ => p) (fun _ _ => rfl), bl_const k hk (sU p.r p.b) (b8_ch _) (pU fun _ => p) (fun _ _ => rfl), bl_const k hk (sV p.r p.g p.b) (b8_ch _) (pV fun _ => p) (fun _ _ => rfl), bl_const k hk p.a hp.2.2.2 (pA fun _ => p) (fun _ _ => rfl)]
theorem str_size (a : List UInt8) : (str a).size = a.length := by simp [str, ByteArray.size]
theorem toList_data (s : ByteArray) : s.toList = s.data.toList := ByteArray.toList_eq s
theorem str_app (a b : List UInt8) : str a ++ str b = str (a ++ b) := by apply ByteArray.ext; simp [str]
theorem eql_str (t : TypeId) (a b : ByteArray) (w : World) : (Go.binOp .eql t (.string a) (.string b)).run Try.prog w = .ok (.bool (decide (a = b))) w := by
  have h : (a.toList == b.toList) = decide (a = b) := by
    rw [Bool.eq_iff_iff, beq_iff_eq, decide_eq_true_iff, ByteArray.toList_eq, ByteArray.toList_eq]
    exact ⟨fun h => ByteArray.ext (Array.toList_inj.1 h), fun h => by rw [h]⟩
  rw [← h]; rfl
theorem str_inj {a b : List UInt8} (h : str a = str b) : a = b := by
  have := congrArg (fun s : ByteArray => s.data.toList) h
  simpa [str] using this
set_option maxHeartbeats 2000000 in
theorem sanity_any (w : World) : Calls Try.prog 10 #[] w fun e w' => e = .returned (.bool true) ∧ Below w.heap.size w w' := by
  have HS1 : Hid (∀ V, Calls Try.prog 14 #[.int .u8 255, .int .u8 0, .int .u8 0] V fun e w' => e = .returned (.tuple #[.int .u8 191, .int .u8 255, .int .u8 129]) ∧ V = w') := fun V => swap_any 255 0 0 V (by decide) (by decide) (by decide)
  have HS2 : Hid (∀ V, Calls Try.prog 14 #[.int .u8 10, .int .u8 10, .int .u8 10] V fun e w' => e = .returned (.tuple #[.int .u8 10, .int .u8 0, .int .u8 0]) ∧ V = w') := fun V => swap_any 10 10 10 V (by decide) (by decide) (by decide)
  have h0 := St.start w
  have HF : Hid (Calls Try.prog 20 #[(⟨10, 10, 10, 255⟩ : Px).v] w fun e w' => e = .returned (tv (fun _ => ⟨10, 10, 10, 255⟩)) ∧ St w [] w') := St.call h0 (fill_any ⟨10, 10, 10, 255⟩ w)
  have hp : Pc (⟨10, 10, 10, 255⟩ : Px) := ⟨by decide, by decide, by decide, by decide⟩
  have HW : Hid (∀ V, Calls Try.prog 12 #[tv (fun _ => ⟨10, 10, 10, 255⟩), .int .i64 1] V fun e w' => e = .returned (.tuple #[.string (str (by1 10 ++ (by1 0 ++ (by1 0 ++ by1 255)))), .int .i64 0]) ∧ Below V.heap.size V w') := fun V => by
    have h := fwd_any 1 (fun _ => ⟨10, 10, 10, 255⟩) V (by omega) (fun _ _ => hp)
    rw [fwd_solid 1 (by omega) _ hp] at h
    exact h
  clear hp
  go_enter Try.func10, Try.ntmps10
  go_upto_region 4 with (first
    | (go_at_call 14; (with_reducible refine (HS1.out _).mono ?_); rintro e w1 ⟨rfl, rfl⟩)
    | (go_at_call 14; (with_reducible refine (HS2.out _).mono ?_); rintro e w1 ⟨rfl, rfl⟩)
    | (go_at_call 20; refine HF.out.mono ?_; rintro e w2 ⟨rfl, h2⟩)
    | (go_at_call 12; refine (St.call h2 (HW.out _)).mono ?_; rintro e w3 ⟨rfl, h3⟩))
  generalize hS : str (by1 10 ++ (by1 0 ++ (by1 0 ++ by1 255))) = S
  have HZ1 : Hid (∀ V, Calls Try.prog 19 #[.int .i64 191] V fun e w' => e = .returned (.string (str (List.replicate 191 0))) ∧ Below V.heap.size V w') := fun V => zeros_any 191 V (by omega)
  have HZ2 : Hid (∀ V, Calls Try.prog 19 #[.int .i64 63] V fun e w' => e = .returned (.string (str (List.replicate 63 0))) ∧ Below V.heap.size V w') := fun V => zeros_any 63 V (by omega)
  have hC : ∀ V, Calls Try.prog 17 #[.string ⟨#[1, 255, 128]⟩] V fun e w' => e = .returned (.int .i64 130) ∧ V = w' := fun V => cost_any ⟨#[1, 255, 128]⟩ V (by decide)
  have HC := Lib.hid hC
  have hE : S = (ByteArray.mk #[10] ++ str (List.replicate 191 0)) ++ ByteArray.mk #[255] ++ str (List.replicate 63 0) := by
    rw [← hS, show ByteArray.mk #[10] = str [10] from rfl, show ByteArray.mk #[255] = str [255] from rfl, str_app, str_app, str_app]
    rfl
  have hQ : (S.toList == ((ByteArray.mk #[10] ++ str (List.replicate 191 0)) ++ ByteArray.mk #[255] ++ str (List.replicate 63 0)).toList) = true := by rw [← hE]; exact beq_self_eq_true _
  have hs1 : (str (List.replicate 191 0)).size ≤ 1000 := by rw [str_size, List.length_replicate]; omega
  have hs2 : (str (List.replicate 63 0)).size ≤ 1000 := by rw [str_size, List.length_replicate]; omega
  clear hC hE hS
  generalize str (List.replicate 191 0) = z1 at HZ1 hQ hs1
  generalize str (List.replicate 63 0) = z2 at HZ2 hQ hs2
  go_wp2_with (first
    | (go_at_call 19; (with_reducible refine (St.call h3 (HZ1.out _)).mono ?_); rintro e w4 ⟨rfl, h4⟩)
    | (go_at_call 19; (with_reducible refine (St.call h4 (HZ2.out _)).mono ?_); rintro e w5 ⟨rfl, h5⟩)
    | (go_at_call 17; (with_reducible refine (HC.out _).mono ?_); rintro e w6 ⟨rfl, rfl⟩))
  go_ret
  exact ⟨rfl, h5.below⟩
end Go.Proofs.Ytjaipjgnchpjcaa.P
