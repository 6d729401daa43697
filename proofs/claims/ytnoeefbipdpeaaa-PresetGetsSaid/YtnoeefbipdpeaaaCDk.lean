/-
  The deck of numbers (as s3/XDeck has it, without the space).
-/
import Derived.Test.YtnoeefbipdpeaaaMBase
import Derived.BigQuiet




namespace Go.Proofs.Ytnoeefbipdpeaaa
open Go.RowKit
set_option maxRecDepth 100000
set_option linter.unusedVariables false

/-- A list of numbers in blocks below B. -/
def ListP (w : World) (B : Nat) (A : Option Addr) (n c : Nat) : Prop := n ≤ c ∧ c ≤ maxLen ∧ ∀ j, j < n → ∃ b o v, A = some ⟨b, o, none⟩ ∧ b < B ∧ w.cell? ⟨b, o + j, none⟩ = some (.int .i64 v) ∧ -9223372036854775808 ≤ v ∧ v ≤ 9223372036854775807

end Go.Proofs.Ytnoeefbipdpeaaa
