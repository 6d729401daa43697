/-
  Words, Largest and Open, of package belt and of the reference of layer 11: for all belts. (Made by mkqwrd-s11.py.)
-/
import Derived.Test.YtlafkkekfkamoaaQrow
import Derived.Test.YtlafkkekfkamoaaBmp
import Derived.Handy
namespace Go.Proofs.Ytlafkkekfkamoaa
open Go.RowKit
set_option maxRecDepth 100000
set_option linter.unusedVariables false

theorem fold_step {α β : Type} {f : β → α → β} {l : List α} {t : Nat} {x : α} (h : l[t]? = some x) (a : β) : (l.take (t + 1)).foldl f a = f ((l.take t).foldl f a) x := by
  rw [List.take_add_one, h, List.foldl_append]
  rfl
theorem fold_end {α β : Type} {f : β → α → β} {l : List α} {t : Nat} (h : l.length ≤ t) (a : β) : (l.take t).foldl f a = l.foldl f a := by rw [List.take_of_length_le h]

/-- The sum of the words, as it is computed. -/
def wrdL (a : Int) (q : List IncR) : Int := q.foldl (fun x i => wrap64 (x + i.wo)) a
def wrdQ (Q : List (List IncR)) : Int := Q.foldl wrdL 0
/-- The most frames that one needs. -/
def lgL (s : Int) (a : Int) (q : List IncR) : Int := q.foldl (fun x i => if x < Hd.ceilZ i.wo s then Hd.ceilZ i.wo s else x) a
def lgQ (s : Int) (Q : List (List IncR)) : Int := Q.foldl (lgL s) 0
/-- Whether an increment is open. -/
def opnB (s wo l : Int) : Bool := decide (l = 0) || decide (wo < IntKind.i64.wrap (l * sizeV s))
end Go.Proofs.Ytlafkkekfkamoaa
