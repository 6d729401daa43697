/-
  The statements' own check of layer 11: the examples.
-/
import Derived.Test.YtlafkkekfkamoaaQrem
namespace Go.Proofs.Ytlafkkekfkamoaa
open Go.RowKit
set_option maxRecDepth 100000
set_option linter.unusedVariables false

theorem oldest_at (A : Option Addr) (c n : Nat) (Q : List (List IncR)) (b : Nat) (z : Int) (w : World) (hQ : QArr w (Lt w.heap.size) A c Q) (hb : b < Q.length) (h1 : n = Q.length) (h2 : z = b) :
    Calls Try.prog 27 #[.slice A n c, .int .i64 z] w (GivesI (oldV Q b) w) := by
  subst h1 h2
  exact oldest_any A c Q b w hQ hb
end Go.Proofs.Ytlafkkekfkamoaa
