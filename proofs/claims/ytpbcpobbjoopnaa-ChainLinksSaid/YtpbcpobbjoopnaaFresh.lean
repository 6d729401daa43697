/-
  The example of chapter 3; the walk of FrameFresh.
-/
import Derived.Test.YtpbcpobbjoopnaaValid
import Derived.Test.YtpbcpobbjoopnaaMod
namespace Go.Proofs.Ytpbcpobbjoopnaa
open Go.RowKit
set_option linter.unusedVariables false

theorem drawn {B : Nat} {a w : World} (m : Nat) (h : Below B a w) : Below B a (w.drewN m) := h.trans ⟨rfl, rfl, rfl, Nat.le_refl _, fun _ _ => rfl⟩

end Go.Proofs.Ytpbcpobbjoopnaa
