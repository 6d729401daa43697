/-
  Contracts of the reference of layer 8, for every raw space: Shape, Slots, get, set, Ref, SetRef, Data, SetData.
-/
import Derived.Test.YthcfcciemjkilaaPlc
import Derived.Deep.CutBlock
import Derived.Deep.DeepCutAuto
namespace Go.Proofs.Ythcfcciemjkilaa
open Go.RowKit
set_option maxRecDepth 100000
set_option linter.unusedVariables false

section
variable {s : Int} {nw : Nat} {wd : Nat → Int} {n : Nat} {F : Nat → Fr} {a i : Int} {t : Bool}
theorem shp_bad3 (h : validB s nw wd n F = false) : shpE s nw wd n F a = 1 ∧ shpR s nw wd n F a = 0 ∧ shpD s nw wd n F a = 0 ∧ sltL s nw wd n F a = [] ∧ plcE s nw wd n F a i t = 1 ∧ getV s nw wd n F a i t = 0 := by
  have h1 := shp_bad (a := a) h
  have h2 : shpR s nw wd n F a = 0 := by unfold shpR; rw [h1]; rfl
  have h3 := (plc_bad (s := s) (nw := nw) (wd := wd) (n := n) (F := F) (a := a) (i := i) (t := t) (by rw [h1]; decide)).1
  rw [h1] at h3
  exact ⟨h1, h2, by unfold shpD; rw [h1]; rfl, by unfold sltL; rw [h2]; rfl, h3, by unfold getV; rw [h3]; rfl⟩
end
/-- What set does, and what the calls that set a field do. -/
def SetOut (s : Int) (nw n : Nat) (wd : Nat → Int) (F : Nat → Fr) (a i : Int) (t : Bool) (v : Int) (w : World) (e : Ending) (w' : World) : Prop :=
  (∃ y : Int, plcE s nw wd n F a i t = y ∧ y ≠ 0 ∧ e = .returned (.tuple #[.agg #[.int .i64 0, .slice none 0 0, .slice none 0 0], .int .i64 y]) ∧ Below w.heap.size w w') ∨
  (plcE s nw wd n F a i t = 0 ∧ ∃ (A : Option Addr) (c g c' : Nat), e = .returned (.tuple #[.agg #[.int .i64 s, .slice A nw c, .slice (some ⟨g, 0, none⟩) n c'], .int .i64 0]) ∧
    Own w' w.heap.size A nw c (setW s nw wd n F a i t v) ∧ OwnT w' w.heap.size (some ⟨g, 0, none⟩) n c' F ∧ Below w.heap.size w w')

end Go.Proofs.Ythcfcciemjkilaa
