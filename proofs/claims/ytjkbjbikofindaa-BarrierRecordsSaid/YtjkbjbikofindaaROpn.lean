/-
  What a list of numbers that came in gives.
-/
import Derived.Test.YtjkbjbikofindaaRSlo
import Derived.Test.YtjkbjbikofindaaMWords
import Derived.Test.YtjkbjbikofindaaRDf
import Derived.Lib.SmallJoins
import Derived.ChangeSlices
import Derived.ChangeMaps5
import Derived.Deep.Slices
import Derived.Deep.Fields
import Derived.Laws.Cover2
namespace Go.Proofs.Ytjkbjbikofindaa
open Go.ChangeShapes Go.WideShapes Go.ChangeAt Go.RowKit Go.Deep Go.Joins
set_option maxRecDepth 100000
set_option linter.unusedVariables false

section
variable {H : Type} {enc : TypeId × Value → H} {W : World} {r : Reach} {b0 base : Nat} {held : Bool}

theorem in_of {A : Option Addr} {c : Nat} {S : List Int} (h : ListP W W.heap.size A S.length c) (hS : SArr W (Lt W.heap.size) A c S) : ∀ x ∈ S, in64 x := by
  intro x hx
  obtain ⟨j, hj⟩ := List.mem_iff_getElem?.1 hx
  obtain ⟨b, o, v, e, _, hc, h1, h2⟩ := h.2.2 j (get_lt hj)
  obtain ⟨b', o', e', _, _, hc'⟩ := hS.at_ hj
  rw [e] at e'
  injection e' with e'
  injection e' with e1 e2
  subst e1 e2
  rw [hc] at hc'
  injection hc' with hc'
  injection hc' with _ hc'
  subst hc'
  exact ⟨h1, h2⟩
theorem open_nums {v : Value} {d : DataW H} {p : List MemPlace} (hv : Value.okWide Try.prog W r b0 27 v) (h : DataW.Trod enc Try.prog W base (fun _ => true) held 27 v d p) :
    ∃ (A : Option Addr) (c : Nat) (S : List Int), v = .slice A S.length c ∧ ListP W W.heap.size A S.length c ∧ SArr W (Lt W.heap.size) A c S ∧ ∀ x ∈ S, in64 x := by
  obtain ⟨A, n, c, rfl, hl⟩ := open_list hv h
  rcases A with _ | x
  · obtain ⟨fuel, hf⟩ := h
    rcases open_ints Try.underlying27 Try.underlying3 (by kernel_rfl) hf with ⟨hcs, _⟩ | ⟨x, l, c2, zs, hcs, _⟩
    · simp [Value.cells] at hcs
      obtain ⟨rfl, rfl⟩ := hcs
      exact ⟨none, 0, [], rfl, hl, SArr.nil _ _, by simp⟩
    · simp [Value.cells] at hcs
  · obtain ⟨S, h1, h2⟩ := sarr_list hl
    subst h1
    exact ⟨some x, c, S, rfl, hl, h2, in_of hl h2⟩
end
end Go.Proofs.Ytjkbjbikofindaa
