/-
  BitsMasks: for every v and width the law about masks returns true. No conditions.
-/
import Derived.Test.YtplifmmabfjfoaaRows
import Derived.Test.YtplifmmabfjfoaaWalks
import Derived.WalkKit
import Derived.WalkLawsBesides
import Derived.Laws.Shifts
import Derived.LoopTactic
import Derived.Lib.Hide
import Derived.ProofKit
import Derived.OpenShut
namespace Go.Proofs.Ytplifmmabfjfoaa
set_option linter.unusedVariables false
open Go.ChangeShapes Go.WideShapes Go.ChangeAt Go.RowKit

/-- the same memory, behind draws -/
def Drawn (W w : World) : Prop := ∃ n, w = W.drewN n
theorem Drawn.refl (W : World) : Drawn W W := ⟨0, rfl⟩
theorem Drawn.more {W w : World} (h : Drawn W w) (n : Nat) : Drawn W (w.drewN n) := by
  obtain ⟨m, rfl⟩ := h; exact ⟨m + n, World.drewN_drewN _ _ _⟩
theorem Drawn.cell {W w : World} (h : Drawn W w) {a : Addr} {v : Value} (c : W.cell? a = some v) : w.cell? a = some v := by
  obtain ⟨m, rfl⟩ := h; exact c
theorem Drawn.grown {W w V : World} (h : Drawn W w) (g : Grown V W) : Grown V w := by
  obtain ⟨m, rfl⟩ := h; exact g

end Go.Proofs.Ytplifmmabfjfoaa
