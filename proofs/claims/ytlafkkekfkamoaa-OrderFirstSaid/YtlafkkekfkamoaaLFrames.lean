/-
  The walk of BeltFrames.
-/
import Derived.Test.YtlafkkekfkamoaaQfrm
import Derived.Test.YtlafkkekfkamoaaQref
import Derived.Test.YtlafkkekfkamoaaQaw
import Derived.Deep.RegionHeld3
namespace Go.Proofs.Ytlafkkekfkamoaa
open Go.RowKit
set_option maxRecDepth 100000
set_option linter.unusedVariables false

theorem queue_at (Al : Option Addr) (cl m : Nat) (I : List IncR) (w : World) (hL : LArr w (Lt w.heap.size) Al cl I) (hI : ∀ i ∈ I, 0 ≤ i.bt ∧ i.bt < 3) (hn : I.length ≤ 400) (h1 : m = I.length) :
    Calls Try.prog 16 #[.slice Al m cl, .int .i64 3] w (GivesBelts (qOf I) w) := by
  subst h1
  exact queue_any Al cl I w hL hI hn
theorem bits_k {k : Nat} (h0 : 3 ≤ k) (h1 : k ≤ 4) : IntKind.u64.wrap (k : Int) = k ∧ (k : Int).toNat = k ∧ IntKind.i64.wrap (2 ^ k) = ((2 ^ k : Nat) : Int) := by
  rcases (by omega : k = 3 ∨ k = 4) with rfl | rfl <;> decide

end Go.Proofs.Ytlafkkekfkamoaa
