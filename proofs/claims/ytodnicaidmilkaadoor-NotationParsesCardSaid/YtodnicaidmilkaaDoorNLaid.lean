/-
  What the row's condition on the listed tables gives the walks: the table of powers of ten.
-/
import Derived.Test.YtodnicaidmilkaaDoorNLib
import Derived.Test.YtodnicaidmilkaaDoorCards
import Derived.ProofKit
import Derived.LaidMore
import Derived.OpenShut
import Derived.Stop.Joined
import Derived.Stop.LaidErr
import Derived.MakeChecks
import Derived.FnData
namespace Go.Proofs.YtodnicaidmilkaaDoor
open Go.ChangeShapes Go.WideShapes Go.ChangeAt Go.RowKit
set_option maxRecDepth 100000

def dbLaid : List (String × DataW Unit) := [("math/bits.deBruijn32tab", Rows.laid_math_bits_deBruijn32tab), ("math/bits.deBruijn64tab", Rows.laid_math_bits_deBruijn64tab), ("internal/strconv.uint64pow10", Rows.laid_internal_strconv_uint64pow10)]
theorem tP10 : (Tryd.prog.globals[1]?).map (·.type) = some 116 := by kernel_rfl
theorem tab_lits : (Rows.laid_internal_strconv_uint64pow10 : DataW Unit) = Lib.tabData .u64 Lib.pow10Tab := by
  unfold Lib.tabData Lib.pow10Tab
  rfl
theorem door_met (os : Os) (args : Array Value) : laidMetH Tryd.prog dbLaid ((World.doorLaid Tryd.prog 400 os).forCall (fun _ _ => 0) ⟨#[], args, []⟩).memory :=
  laidMetH_of_parts3 (fuel := 8) (laidMet_of_run' 8 (by kernel_rfl) (by kernel_rfl)) (by kernel_rfl) (by kernel_rfl)
theorem db_of_laid {W : World} (h : laidMetH Tryd.prog dbLaid W) : P10 W := by
  rw [MakeChecks.laidMetH_plain _ _ _ (by kernel_rfl)] at h
  have h3 := h.tail.tail
  unfold P10
  rw [tab_lits] at h3
  exact Lib.tabIs_of_head gP10 tP10 Tryd.underlying116 Tryd.underlying70 (by kernel_rfl) (by kernel_rfl) h3
end Go.Proofs.YtodnicaidmilkaaDoor
