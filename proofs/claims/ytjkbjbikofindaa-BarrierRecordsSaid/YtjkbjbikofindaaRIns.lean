/-
  The reference's Insert and Same of remembered sets.
-/
import Derived.Test.YtjkbjbikofindaaRVal
namespace Go.Proofs.Ytjkbjbikofindaa
open Go.RowKit
set_option maxRecDepth 100000
set_option linter.unusedVariables false

/-- What Insert answers. -/
def InsOf (L : List SetR) (f g s : Int) (w : World) (e : Ending) (w' : World) : Prop :=
  ∃ v n, e = .returned (.tuple #[v, .int .i64 n]) ∧ Below w.heap.size w w' ∧
    ((ValS L ∧ numP f ∧ numP g ∧ 0 ≤ s ∧ n = 0 ∧ ∃ A c, v = .slice A (putS f g s L).length c ∧ TArr w' (Lt w'.heap.size) A c (putS f g s L)) ∨ (¬ (ValS L ∧ numP f ∧ numP g ∧ 0 ≤ s) ∧ n = 1 ∧ v = .slice none 0 0))

end Go.Proofs.Ytjkbjbikofindaa
