/-
  Merged: Val, Link, Valid.
-/
import Derived.Test.YtmhbbjbbckdlbaaDoorMBase
namespace Go.Proofs.YtmhbbjbbckdlbaaDoor
set_option maxRecDepth 100000
open Go.RowKit
set_option linter.unusedVariables false

end Go.Proofs.YtmhbbjbbckdlbaaDoor

namespace Go.Proofs.YtmhbbjbbckdlbaaDoor
set_option maxRecDepth 100000
open Go.RowKit
set_option linter.unusedVariables false

theorem Row.lit {w : World} {cs : Array Value} {t : TypeId} {v : Value} {N : Nat} (h : cs = Array.replicate N v) : Row (w.alloc (.cells cs t)) w.heap.size t N (fun _ => v) := by
  subst h
  refine ⟨_, heap_alloc_new w _, by simp, fun j hj => ?_⟩
  simp [hj]

/-- What holds while the chains are counted. -/
def CountAt (F : Nat → Fr) (n : Nat) (r i : Value) : Prop := ∃ t : Nat, t ≤ n ∧ i = .int .i64 t ∧ r = .int .i64 ((cov F n t).length : Nat)
/-- What holds along one chain. -/
def AlongAt (F : Nat → Fr) (n t : Nat) (r f : Value) : Prop :=
  ∃ i : Nat, i ≤ n ∧ f = .int .i64 (iter F i t) ∧ r = .int .i64 ((cov F n t).length + i : Nat) ∧ ∀ j, j < i → iter F j t ≠ -1

end Go.Proofs.YtmhbbjbbckdlbaaDoor

namespace Go.Proofs.YtmhbbjbbckdlbaaDoor
set_option maxRecDepth 100000
open Go.RowKit
set_option linter.unusedVariables false

end Go.Proofs.YtmhbbjbbckdlbaaDoor
