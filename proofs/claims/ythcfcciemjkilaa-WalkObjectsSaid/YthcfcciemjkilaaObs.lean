/-
  Contracts of the laws' own functions: objects and near.
-/
import Derived.Test.YthcfcciemjkilaaOall
import Derived.Test.YthcfcciemjkilaaMSpace
namespace Go.Proofs.Ythcfcciemjkilaa
open Go.RowKit
set_option maxRecDepth 100000
set_option linter.unusedVariables false

theorem tdiv5 {k : Int} (h0 : -9223372036854775808 ≤ k) (h1 : k ≤ 9223372036854775807) : -9223372036854775808 ≤ k.tdiv 5 ∧ k.tdiv 5 ≤ 9223372036854775807 := by
  by_cases h : 0 ≤ k
  · rw [Int.tdiv_eq_ediv_of_nonneg h]; omega
  · have e : k.tdiv 5 = -((-k) / 5) := by
      rw [← Int.tdiv_eq_ediv_of_nonneg (by omega : 0 ≤ -k), Int.neg_tdiv, Int.neg_neg]
    omega

def ObsOut (K nw : Nat) (wd : Nat → Int) (n : Nat) (F : Nat → Fr) (I : List IncR) (w : World) (e : Ending) (w' : World) : Prop := ∃ l : List Nat, GivesNums l w e w' ∧ ObjsP K nw wd n F I I.length l ∧ l.length ≤ 300000

abbrev In8 (x : Int) : Prop := -9223372036854775808 ≤ x ∧ x ≤ 9223372036854775807
def NearOut (w : World) (e : Ending) (w' : World) : Prop := ∃ v : Int, e = .returned (.int .i64 v) ∧ In8 v ∧ Below w.heap.size w w'
theorem addr_word {K nw : Nat} {wd : Nat → Int} {n : Nat} {F : Nat → Fr} {I : List IncR} {t q x : Nat} (h : IsObj K nw wd n F I t q x) : x < nw := by
  obtain ⟨i, _, _, he, _⟩ := h
  have := adB_yes (stp_iff.1 (shp_yes he).1).2.1
  omega
theorem ObjsP.lt {K nw : Nat} {wd : Nat → Int} {n : Nat} {F : Nat → Fr} {I : List IncR} {t j : Nat} {l : List Nat} (h : ObjsP K nw wd n F I t l) (hj : j < l.length) : l.getD j 0 < nw := by
  obtain ⟨f, q, h1⟩ := h
  exact addr_word (h1 j hj).2.1

end Go.Proofs.Ythcfcciemjkilaa
