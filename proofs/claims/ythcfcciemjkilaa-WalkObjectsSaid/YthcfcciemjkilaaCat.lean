/-
  Contracts of slices: Grow of nil, Concat of two rows of numbers; of package object: Slots.
-/
import Derived.Test.YthcfcciemjkilaaFld
import Derived.Lib.AppendZeros
import Derived.Laws.AppendOwnNone
namespace Go.Proofs.Ythcfcciemjkilaa
open Go.RowKit
set_option maxRecDepth 100000
set_option linter.unusedVariables false

theorem nums_news {w : World} {B n c : Nat} {x : Addr} {l : List Nat} (h : Nums w B (some x) n c (numF l)) (hl : l.length = n) : ∀ j u, (numL l)[j]? = some u → w.cell? (x.add j) = some u := by
  intro j u hu
  have hj : j < l.length := by
    rcases Nat.lt_or_ge j l.length with h1 | h1
    · exact h1
    · rw [List.getElem?_eq_none (by simp [numL]; exact h1)] at hu; cases hu
  obtain ⟨b, o, hA, _, hc⟩ := h.at_ j (by omega)
  injection hA with hA
  subst hA
  rw [add_at, hc]
  have h2 : (numL l)[j]? = some (.int .i64 (l[j] : Int)) := by simp [numL, hj]
  rw [h2] at hu
  rw [← hu]
  congr 2
  unfold numF
  rw [List.getD_eq_getElem?_getD, List.getElem?_eq_getElem hj]
  rfl
theorem numL_one (l : List Nat) : ∀ u ∈ numL l, u.oneCell' = true := by
  intro u hu
  simp only [numL, List.mem_map] at hu
  obtain ⟨j, _, rfl⟩ := hu
  rfl
theorem numL_length (l : List Nat) : (numL l).length = l.length := by simp [numL]
theorem numL_append (l m : List Nat) : numL l ++ numL m = numL (l ++ m) := by simp [numL]

/-- What the first j rows are together. -/
def catL (l1 l2 : List Nat) : Nat → List Nat
  | 0 => []
  | 1 => l1
  | _ => l1 ++ l2

/-- A list of addresses of fields. -/
theorem objSlots_zero (w : World) (B : Nat) : Arr w B none 0 0 (fun _ => 0) ∧ Tab w B none 0 0 (fun _ => frFree) := ⟨Arr.nil _ _ _, Tab.nil _ _ _⟩

end Go.Proofs.Ythcfcciemjkilaa
