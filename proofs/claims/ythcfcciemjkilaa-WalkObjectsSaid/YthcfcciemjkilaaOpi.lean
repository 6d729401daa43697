/-
  What an increment that came in gives: five numbers.
-/
import Derived.Test.YthcfcciemjkilaaMWords
import Derived.Lib.SmallJoins
import Derived.ChangeSlices
import Derived.Deep.Slices
import Derived.Deep.Fields
namespace Go.Proofs.Ythcfcciemjkilaa
open Go.ChangeShapes Go.WideShapes Go.ChangeAt Go.RowKit Go.Deep Go.Joins
set_option maxRecDepth 100000
set_option linter.unusedVariables false

section
variable {H : Type} {enc : TypeId × Value → H} {W : World} {r : Reach} {b0 base : Nat} {held : Bool}
theorem open_inc {v : Value} {d : DataW H} {p : List MemPlace} (hv : Value.okWide Try.prog W r b0 27 v) (h : DataW.Trod enc Try.prog W base (fun _ => true) held 27 v d p) :
    ∃ i0 i1 i2 i3 i4 : Int, v = .agg #[.int .i64 i0, .int .i64 i1, .int .i64 i2, .int .i64 i3, .int .i64 i4] := by
  obtain ⟨cs, rfl, hsz⟩ := okWide_struct Try.underlying27 hv
  have hC : Try.prog.cellsOf 27 = 5 := by kernel_rfl
  have hI : Try.prog.cellsOf 3 = 1 := by kernel_rfl
  obtain ⟨l⟩ := cs
  have hl : l.length = 5 := by simpa [hC] using hsz
  match l, hl with
  | [c0, c1, c2, c3, c4], _ =>
    obtain ⟨fuel, hf⟩ := h
    obtain ⟨ys, n, _, _, hlen, hyl, hfs⟩ := DataW.trod_struct Try.underlying27 hf
    obtain ⟨z0, hz0⟩ : ∃ z, ys[0]? = some z := ⟨_, List.getElem?_eq_getElem (by rw [hyl]; decide)⟩
    obtain ⟨z1, hz1⟩ : ∃ z, ys[1]? = some z := ⟨_, List.getElem?_eq_getElem (by rw [hyl]; decide)⟩
    obtain ⟨z2, hz2⟩ : ∃ z, ys[2]? = some z := ⟨_, List.getElem?_eq_getElem (by rw [hyl]; decide)⟩
    obtain ⟨z3, hz3⟩ : ∃ z, ys[3]? = some z := ⟨_, List.getElem?_eq_getElem (by rw [hyl]; decide)⟩
    obtain ⟨z4, hz4⟩ : ∃ z, ys[4]? = some z := ⟨_, List.getElem?_eq_getElem (by rw [hyl]; decide)⟩
    obtain ⟨a0, e0, _, _⟩ := DataW.trod_int Try.underlying3 ((hfs 0 _ rfl).trans hz0)
    obtain ⟨a1, e1, _, _⟩ := DataW.trod_int Try.underlying3 ((hfs 1 _ rfl).trans hz1)
    obtain ⟨a2, e2, _, _⟩ := DataW.trod_int Try.underlying3 ((hfs 2 _ rfl).trans hz2)
    obtain ⟨a3, e3, _, _⟩ := DataW.trod_int Try.underlying3 ((hfs 3 _ rfl).trans hz3)
    obtain ⟨a4, e4, _, _⟩ := DataW.trod_int Try.underlying3 ((hfs 4 _ rfl).trans hz4)
    change List.take (Try.prog.cellsOf 3) (List.drop 0 (Value.cells (.agg #[c0, c1, c2, c3, c4])).toList) = _ at e0
    change List.take (Try.prog.cellsOf 3) (List.drop 1 (Value.cells (.agg #[c0, c1, c2, c3, c4])).toList) = _ at e1
    change List.take (Try.prog.cellsOf 3) (List.drop 2 (Value.cells (.agg #[c0, c1, c2, c3, c4])).toList) = _ at e2
    change List.take (Try.prog.cellsOf 3) (List.drop 3 (Value.cells (.agg #[c0, c1, c2, c3, c4])).toList) = _ at e3
    change List.take (Try.prog.cellsOf 3) (List.drop 4 (Value.cells (.agg #[c0, c1, c2, c3, c4])).toList) = _ at e4
    rw [hI] at e0 e1 e2 e3 e4
    simp [Value.cells] at e0 e1 e2 e3 e4
    exact ⟨a0, a1, a2, a3, a4, by rw [e0, e1, e2, e3, e4]⟩
end
end Go.Proofs.Ythcfcciemjkilaa
