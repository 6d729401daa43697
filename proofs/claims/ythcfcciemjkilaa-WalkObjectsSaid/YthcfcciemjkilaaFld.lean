/-
  Contracts of package object: locate, read, write and addresses by each finder; Ref, Data, SetRef, SetData, Slots. (Written by wip/tools/mkfld-s8.py.)
-/
import Derived.Test.YthcfcciemjkilaaDec
namespace Go.Proofs.Ythcfcciemjkilaa
open Go.RowKit
set_option maxRecDepth 100000
set_option linter.unusedVariables false

theorem fin_eq {s : Int} {nw : Nat} {wd : Nat → Int} {n : Nat} {F : Nat → Fr} {a i : Int} {t : Bool} (hu : U64w nw wd) (h : shpE s nw wd n F a = 0) :
    plcV s nw wd n F a i t = (if i < 0 ∨ atN (shpR s nw wd n F a) (shpD s nw wd n F a) t ≤ i then 0 else stpV s nw wd n F a (atK (shpR s nw wd n F a) t i)) ∧
    plcE s nw wd n F a i t = (if i < 0 ∨ atN (shpR s nw wd n F a) (shpD s nw wd n F a) t ≤ i then 17 else stpE s nw wd n F a (atK (shpR s nw wd n F a) t i)) := by
  by_cases hi : i < 0 ∨ atN (shpR s nw wd n F a) (shpD s nw wd n F a) t ≤ i
  · rw [if_pos hi, if_pos hi]
    have := plc_out (t := t) h hi
    exact ⟨this.2, this.1⟩
  · rw [if_neg hi, if_neg hi]
    have h1 : 0 ≤ i := by
      rcases Int.lt_or_le i 0 with e | e
      · exact absurd (.inl e) hi
      · exact e
    have h2 : i < fldN s nw wd n F a t := by
      rcases Int.lt_or_le i (fldN s nw wd n F a t) with e | e
      · exact e
      · exact absurd (.inr e) hi
    obtain ⟨e1, e2⟩ := plc_ok h h1 h2
    exact ⟨e2, e1.trans (fld_step hu h h1 h2).1.symm⟩

end Go.Proofs.Ythcfcciemjkilaa
