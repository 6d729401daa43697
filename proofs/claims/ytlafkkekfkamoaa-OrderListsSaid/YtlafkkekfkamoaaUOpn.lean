/-
  A slice of integers that came in, as a row of numbers.
-/
import Derived.Test.YtlafkkekfkamoaaOpb
import Derived.Test.YtlafkkekfkamoaaUAll
namespace Go.Proofs.Ytlafkkekfkamoaa
open Go.ChangeShapes Go.WideShapes Go.ChangeAt Go.RowKit
set_option maxRecDepth 100000
set_option linter.unusedVariables false
section
variable {H : Type} {enc : TypeId × Value → H} {W : World} {r : Reach} {b0 base : Nat} {held : Bool}
theorem open_nums {v : Value} {d : DataW H} {p : List MemPlace} (hv : Value.okWide Try.prog W r b0 31 v) (h : DataW.Trod enc Try.prog W base (fun _ => true) held 31 v d p) :
    ∃ (A : Option Addr) (c : Nat) (S : List Int), v = .slice A S.length c ∧ ListP W W.heap.size A S.length c ∧ SArr W (Lt W.heap.size) A c S := by
  obtain ⟨A, n, c, rfl, hl⟩ := open_list hv h
  rcases A with _ | x
  · obtain ⟨fuel, hf⟩ := h
    rcases open_ints Try.underlying31 Try.underlying3 (by kernel_rfl) hf with ⟨hcs, _⟩ | ⟨x, l, c2, zs, hcs, _⟩
    · simp [Value.cells] at hcs
      obtain ⟨rfl, rfl⟩ := hcs
      exact ⟨none, 0, [], rfl, hl, SArr.nil _ _⟩
    · simp [Value.cells] at hcs
  · obtain ⟨S, h1, h2⟩ := sarr_list hl
    subst h1
    exact ⟨some x, c, S, rfl, hl, h2⟩
end
end Go.Proofs.Ytlafkkekfkamoaa
