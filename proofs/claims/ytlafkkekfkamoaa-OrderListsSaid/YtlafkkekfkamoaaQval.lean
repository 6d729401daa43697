/-
  Valid of package belt: isQueueOf, haveAllFrames.
-/
import Derived.Test.YtlafkkekfkamoaaQfnd
import Derived.BigQuiet
import Derived.Deep.QuietTactic
namespace Go.Proofs.Ytlafkkekfkamoaa
open Go.RowKit
set_option maxRecDepth 100000
set_option linter.unusedVariables false

def IffOf (P : Prop) (w : World) (e : Ending) (w' : World) : Prop := ∃ b, e = .returned (.bool b) ∧ (b = true ↔ P) ∧ Below w.heap.size w w'
theorem iff_no {P : Prop} (h : ¬ P) : (false = true) ↔ P := ⟨fun e => absurd e (by decide), fun e => absurd e h⟩
theorem iff_yes {P : Prop} (h : P) : (true = true) ↔ P := ⟨fun _ => h, fun _ => rfl⟩

/-- Whether belts are valid in a space. -/
def ValQ (s : Int) (nw : Nat) (wd : Nat → Int) (n : Nat) (F : Nat → Fr) (Q : List (List IncR)) : Prop := validB s nw wd n F = true ∧ SndP s.toNat n nw F Q

end Go.Proofs.Ytlafkkekfkamoaa
