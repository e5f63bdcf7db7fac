/-
  From a law's walk to its row and its card: the table of round constants is as the program lays it; the laws' arguments.
-/
import Derived.Test.YtligojllbnahcaaDoorTLaw
import Derived.Test.YtligojllbnahcaaDoorTKey
import Derived.Test.YtligojllbnahcaaDoorTie
import Derived.Test.YtligojllbnahcaaDoorCards
import Derived.LaidMore
import Derived.Lib.LaidTab
import Derived.Stop.Joined
namespace Go.Proofs.YtligojllbnahcaaDoor.T
open Go.ChangeShapes Go.WideShapes Go.ChangeAt Go.RowKit D
set_option maxRecDepth 100000

abbrev laid1 : List (String × DataW Unit) := [("gouache/digest.roundConstants", Rows.laid_gouache_digest_roundConstants)]
theorem gTab : Tryd.prog.globalNamed "gouache/digest.roundConstants" = some 0 := by kernel_rfl
theorem tTab : (Tryd.prog.globals[0]?).map (·.type) = some 66 := by kernel_rfl
theorem cellsW : Tryd.prog.cellsOf 50 = 1 := by kernel_rfl
theorem cellsT : Tryd.prog.cellsOf 66 = 64 := by kernel_rfl
/-- the door's own heap meets the condition -/
theorem door_met (os : Os) (args : Array Value) : laidMetH Tryd.prog laid1 ((World.doorLaid Tryd.prog 400 os).forCall (fun _ _ => 0) ⟨#[], args, []⟩).memory :=
  laidMetH_of_parts3 (fuel := 8) (laidMet_of_run' 8 (by kernel_rfl) (by kernel_rfl)) (by kernel_rfl) (by kernel_rfl)
def kInts : List Int := Sha.KL.map fun n : Nat => (n : Int)
theorem laid_tab : (Rows.laid_gouache_digest_roundConstants : DataW Unit) = Lib.tabData .u32 kInts := by
  unfold Lib.tabData kInts Sha.KL; rfl
/-- what the condition gives the walks -/
theorem kt_of_laid {W : World} (h : laidMetH Tryd.prog laid1 W) : KT W := by
  rw [MakeChecks.laidMetH_plain _ _ _ (by kernel_rfl)] at h
  rw [show laid1 = ("gouache/digest.roundConstants", Lib.tabData .u32 kInts) :: [] from by rw [← laid_tab]] at h
  have hT := Lib.tabIs_of_head gTab tTab Tryd.underlying66 Tryd.underlying50 cellsW cellsT h
  have hc : ∀ i, i < 64 → W.cell? ⟨0, i, none⟩ = some (.int .u32 (Sha.K i : Nat)) := fun i hi => by
    have hl : kInts.length = 64 := rfl
    have := hT.cell gTab i (by rw [hl]; exact hi)
    rw [this]
    unfold kInts Sha.K
    rw [List.getD_eq_getElem?_getD, List.getElem?_map, List.getD_eq_getElem?_getD]
    rw [List.getElem?_eq_getElem (by have : Sha.KL.length = 64 := rfl; omega)]; rfl
  exact ⟨block_lt_of_cell (hc 0 (by omega)), hc⟩
theorem ok_str (W : World) (base : Nat) : Value.okWide Tryd.prog W .any base 9 (.string ByteArray.empty) := by
  unfold Value.okWide Cell.okWide Cell.ok
  rw [Tryd.underlying9]
  simp
/-- an input that fits, where the row lists what package-level variables hold -/
theorem witness8 {H : Type} {enc : TypeId × Value → H} {C : Checked} {os : Os} {f : FuncId} {fn : Func} {s : ChangeSpec} {conds : List PathCond} {apart : Bool} {X : World → Array Value → Prop} (modest : Bool) (w0 : World) (args : Array Value) (fuel : Nat) (hos : w0.os = os)
    (hsh : (w0.forCall (fun _ _ => 0) ⟨#[], args, []⟩).Shaped C.prog)
    (hok : ∀ W base, Input.okWide C.prog W .any base f ⟨#[], args, []⟩)
    (hpre : s.preB enc C.prog fn conds apart (w0.forCall (fun _ _ => 0) ⟨#[], args, []⟩).memory args fuel = true)
    (hsz : s.sizedB enc C.prog fn apart (w0.forCall (fun _ _ => 0) ⟨#[], args, []⟩).memory args fuel = true)
    (hx : X (w0.forCall (fun _ _ => 0) ⟨#[], args, []⟩).memory args) :
    ∃ (w : World) (tape : Tape) (i : Input), w.os = os ∧ (w.forCall tape i).Shaped C.prog ∧ i.vars = [] ∧ Input.okWide C.prog (w.forCall tape i) .any w.heap.size f i ∧
      ((s.pre enc C.prog fn conds apart (w.forCall tape i).memory i.args ∧ X (w.forCall tape i).memory i.args) ∧ sizedMet enc C.prog fn (OpenSpec.ofChange s) apart (w.forCall tape i).memory i.args) ∧ ({ modest := modest } : Assume).holds C.prog (lone (Frame.enter C.prog f i.args .normal) [] (w.forCall tape i)) :=
  ⟨w0, fun _ _ => 0, ⟨#[], args, []⟩, hos, hsh, rfl, hok _ _, ⟨⟨ChangeSpec.pre_of_preB hpre, hx⟩, sizedMet_of_sizedB hsz⟩, by
    simp only [Assume.holds]
    exact ⟨by simp, by simp, fun _ => Modest.zero, by simp, by simp⟩⟩
theorem yields_op {P : Program} {ops : Array Oper} {S : World → Prop} {o : Oper} {a : Act} (hw : Region.wanted o (yielded ops a.tmps) = true) (bop : BinOp) (t : TypeId) (x y : Operand) (t' : TypeId) (ho : o.op = .binOp bop t x y t') (v x' y' : Value) (hx : a.eval x = x') (hy : a.eval y = y')
    (hg : eqGuard bop t x y x' y' = pure ()) (hl : ∀ w, (Go.binOp bop t x' y').run P w = .ok v w) : YieldsIf P ops S o v a :=
  .inl ⟨hw, fun w _ => by
    unfold execOp
    simp only [ho, hx, hy, hg, Sem.run_bind, Sem.run_pure, hl w, Result.andThen_ok]⟩
theorem loop_eq (b : ByteArray) : ∀ (n i : Nat) (r : List UInt8), b.size - i = n → ByteArray.toList.loop b i r = r.reverse ++ b.data.toList.drop i := by
  intro n
  induction n with
  | zero =>
    intro i r h
    unfold ByteArray.toList.loop
    rw [if_neg (by omega), List.drop_eq_nil_of_le (by have : b.data.toList.length = b.size := Array.length_toList; omega), List.append_nil]
  | succ n ih =>
    intro i r h
    unfold ByteArray.toList.loop
    have hi : i < b.size := by omega
    rw [if_pos hi, ih (i + 1) _ (by omega)]
    have hl : i < b.data.toList.length := by have : b.data.toList.length = b.size := Array.length_toList; omega
    rw [List.reverse_cons, List.append_assoc, List.drop_eq_getElem_cons hl]
    congr 1
    have hi2 : i < b.data.size := hi
    have : b.get! i = b.data.toList[i] := by
      show b.data[i]! = _
      rw [getElem!_pos b.data i hi2, Array.getElem_toList]
    rw [this]; rfl
theorem toList_data (a : ByteArray) : a.toList = a.data.toList := by unfold ByteArray.toList; rw [loop_eq a _ 0 [] rfl]; simp
theorem toList_iff (a b : ByteArray) : (a.toList == b.toList) = decide (a = b) := by
  rw [Bool.eq_iff_iff, beq_iff_eq, decide_eq_true_iff, toList_data, toList_data]
  exact ⟨fun h => ByteArray.ext (Array.toList_inj.1 h), fun h => by rw [h]⟩
theorem eql_str (t : TypeId) (a b : ByteArray) (w : World) : (Go.binOp .eql t (.string a) (.string b)).run Tryd.prog w = .ok (.bool (decide (a = b))) w := by
  rw [← toList_iff]; rfl
theorem neq_str (t : TypeId) (a b : ByteArray) (w : World) : (Go.binOp .neq t (.string a) (.string b)).run Tryd.prog w = .ok (.bool (!decide (a = b))) w := by
  rw [← toList_iff]; rfl
theorem eql_bool (a : Bool) (w : World) : (Go.binOp .eql 4 (.bool a) (.bool a)).run Tryd.prog w = .ok (.bool true) w := by cases a <;> kernel_rfl
theorem str_inj {a b : List UInt8} (h : str a = str b) : a = b := by
  have := congrArg (fun s : ByteArray => s.data.toList) h
  simpa [str] using this
theorem str_iff {f g : Nat → Px} (hf : ∀ i, i < 64 → Pc (f i)) (hg : ∀ i, i < 64 → Pc (g i)) : decide (str (bys 64 f) = str (bys 64 g)) = teq f g := by
  rw [← bys_iff hf hg]
  exact decide_eq_decide.2 ⟨str_inj, fun h => by rw [h]⟩
end Go.Proofs.YtligojllbnahcaaDoor.T
