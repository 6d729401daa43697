/-
  Rules: isCount, isTargetOf, checkRule, isTargetOfOne, areAllTargets, isFull, hasUncappedEnd.
-/
import Derived.Test.YtnoeefbipdpeaaaCRow
import Derived.Outline
import Derived.LoopTactic
namespace Go.Proofs.Ytnoeefbipdpeaaa
open Go.RowKit
set_option maxRecDepth 100000
set_option linter.unusedVariables false

theorem stF (a : Addr) (x : Nat) (m : Mode) (W : World) : (store a (.float .f64 x) m).run Try.prog W = stored Try.prog W a (.float .f64 x) m := run_store Try.prog W a _ m rfl
end Go.Proofs.Ytnoeefbipdpeaaa
