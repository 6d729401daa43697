/-
  Merged: Laid.
-/
import Derived.Test.YtmhbbjbbckdlbaaDoorMPool
import Derived.Test.YtmhbbjbbckdlbaaDoorCards
import Derived.ProofKit
import Derived.LaidMore
import Derived.OpenShut
import Derived.Stop.Joined
import Derived.MakeChecks
import Derived.FnData
namespace Go.Proofs.YtmhbbjbbckdlbaaDoor
open Go.ChangeShapes Go.WideShapes Go.ChangeAt Go.RowKit
set_option maxRecDepth 100000

def dbLaid : List (String × DataW Unit) := [("math/bits.deBruijn64tab", Rows.laid_math_bits_deBruijn64tab)]
theorem gTab : Tryd.prog.globalNamed "math/bits.deBruijn64tab" = some 0 := by kernel_rfl
theorem tTab : (Tryd.prog.globals[0]?).map (·.type) = some 118 := by kernel_rfl
theorem tab_lits {H : Type} : (Rows.laid_math_bits_deBruijn64tab : DataW H) = .agg (Lib.deBruijn64tab.map fun (x : Nat) => .lit (.int .u8 x)) := rfl
theorem door_met (os : Os) (args : Array Value) : laidMetH Tryd.prog dbLaid ((World.doorLaid Tryd.prog 400 os).forCall (fun _ _ => 0) ⟨#[], args, []⟩).memory :=
  laidMetH_of_parts3 (fuel := 8) (laidMet_of_run' 8 (by kernel_rfl) (by kernel_rfl)) (by kernel_rfl) (by kernel_rfl)
theorem db_of_laid {W : World} (h : laidMetH Tryd.prog dbLaid W) : Db W := by
  rw [MakeChecks.laidMetH_plain _ _ _ (by kernel_rfl)] at h
  obtain ⟨ps, ⟨g0, t0, cs0, f0, p0, q0, hg0, ht0, hv0, hd0, _, _⟩, _, _⟩ := h
  obtain rfl := Option.some.inj (gTab.symm.trans hg0)
  obtain rfl := Option.some.inj (tTab.symm.trans ht0)
  obtain ⟨xs, m1, rfl, hx1, hlen, hn3, hel⟩ := DataW.trod_array Tryd.underlying118 hd0
  have c1 : Tryd.prog.cellsOf 5 = 1 := by kernel_rfl
  intro j hj
  have hj' := hel j hj
  rw [c1, Nat.mul_one] at hj'
  obtain ⟨x, hx⟩ : ∃ x, xs[j]? = some x := ⟨xs[j]'(by omega), by simp⟩
  rw [hx] at hj'
  obtain ⟨k, e1, e2, _⟩ := DataW.trod_int Tryd.underlying5 hj'
  simp only [Prod.mk.injEq] at hx1
  have h2 := hx1.1
  rw [tab_lits] at h2
  injection h2 with h2
  have h3 : (xs.map (·.1))[j]? = some (.lit (.int .u8 k)) := by rw [List.getElem?_map, hx, e2]; rfl
  rw [← h2, List.getElem?_map] at h3
  have h4 : Lib.deBruijn64tab[j]? = some (Lib.deBruijn64tab.getD j 0) := by
    have hl : j < Lib.deBruijn64tab.length := hj
    simp [List.getD, hl]
  rw [h4] at h3
  simp at h3
  have h5 : cs0.toList[j]? = some (.int .u8 k) := by
    have h6 : ((cs0.toList.drop j).take 1)[0]? = some (Value.int .u8 k) := by rw [e1]; rfl
    simpa using h6
  rw [World.var?_cell hg0 hv0 j]
  rw [← h3] at h5
  simpa using h5
end Go.Proofs.YtmhbbjbbckdlbaaDoor
