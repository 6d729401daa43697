/-
  Contracts of the reference of layer 8: Fields, Place, get, set and the exported functions.
-/
import Derived.Test.YthcfcciemjkilaaLook
namespace Go.Proofs.Ythcfcciemjkilaa
open Go.RowKit
set_option maxRecDepth 100000
set_option linter.unusedVariables false

/-- The first j of a row of numbers, as values. -/
def intL (f : Nat → Int) (j : Nat) : List Value := (List.range j).map fun i => .int .i64 (f i)
theorem intL_succ (f : Nat → Int) (j : Nat) : intL f (j + 1) = intL f j ++ [.int .i64 (f j)] := by simp [intL, List.range_succ]
theorem intL_numL (f : Nat → Int) (R : Nat) (h : ∀ i, i < R → 0 ≤ f i) : intL f R = numL ((List.range R).map fun i => (f i).toNat) := by
  simp only [intL, numL, List.map_map]
  refine List.map_congr_left fun i hi => ?_
  have := h i (by simpa using hi)
  simp only [Function.comp]
  congr 1
  omega
theorem ownsRow_below8 {w w' : World} {B s n : Nat} {e : TypeId} {v : Value} {xs : List Value} (h : w.ownsRow B e s v n xs) (hb : Below w.heap.size w w') : w'.ownsRow B e s v n xs := by
  obtain ⟨hl, h⟩ := h
  refine ⟨hl, ?_⟩
  rcases h with h | ⟨g, cap, cur, rfl, hB, hg, h⟩
  · exact .inl h
  · exact .inr ⟨g, cap, cur, rfl, hB, (hb.block g (blk_lt hg)).trans hg, h⟩
theorem slt_row {w : World} {B R : Nat} {v : Value} {f : Nat → Int} (h : w.ownsRow B 3 1 v R (intL f R)) (hf : ∀ i, i < R → 0 ≤ f i) :
    ∃ A c, v = .slice A R c ∧ Nums w w.heap.size A R c (numF ((List.range R).map fun i => (f i).toNat)) := by
  rw [intL_numL f R hf] at h
  obtain ⟨A, c, rfl, hn, _⟩ := nums_of_row h
  exact ⟨A, c, rfl, hn⟩

end Go.Proofs.Ythcfcciemjkilaa
