/-
  What Init leaves is an object; the laws' example of layer 8.
-/
import Derived.Test.YthcfcciemjkilaaOin
import Derived.Test.YthcfcciemjkilaaMAw5
namespace Go.Proofs.Ythcfcciemjkilaa
open Go.RowKit
set_option maxRecDepth 100000
set_option linter.unusedVariables false

def Z8 : Nat → Int := fun _ => 0
theorem pf_on : adB 32 22 = true ∧ PartsA 3 22 2 6 ∧ (Pf 2).ow ≠ -1 := ⟨by decide, ⟨by decide, by decide, by decide, by decide⟩, by decide⟩
theorem pf_valid8 : ValidP (3 : Nat) 32 Z8 4 Pf := pf_valid
theorem pf_stp (k : Nat) (h : k ≤ 3) : stpE (3 : Nat) 32 Z8 4 Pf 22 k = 0 ∧ stpV (3 : Nat) 32 Z8 4 Pf 22 k = addrP Pf 3 (2 : Nat) (6 + k) :=
  stp_ok (K := 3) (x := k) (m := 2) (validB_yes pf_valid8) pf_on.1 pf_on.2.1 pf_on.2.2 (chL_length pf_len (by decide)) (by show 6 + k < 16; omega)
/-- The example's words behind Init. -/
noncomputable def W8 : Nat → Int := iniW (3 : Nat) 32 Z8 4 Pf 22 (Hd.liveV (1 : Nat) (2 : Nat)) (1 + 2)
theorem w8_valid : ValidP (3 : Nat) 32 W8 4 Pf := iniW_valid pf_valid8 3 (pf_stp 3 (by decide)).1
theorem w8_u64 : U64w 32 W8 := iniW_u64 (fun _ _ => ⟨by show (0 : Int) ≤ 0; decide, by show (0 : Int) < 18446744073709551616; decide⟩) (by decide) (by decide) _
theorem w8_shape : shpE (3 : Nat) 32 W8 4 Pf 22 = 0 ∧ shpR (3 : Nat) 32 W8 4 Pf 22 = 1 ∧ shpD (3 : Nat) 32 W8 4 Pf 22 = 2 :=
  ini_shape (R := 1) (D := 2) pf_valid8 (by decide) (by decide) (pf_stp 3 (by decide)).1
theorem w8_ini : iniE (3 : Nat) 32 Z8 4 Pf 22 1 2 = 0 := by
  rw [ini_in (validB_yes pf_valid8) (by decide)]
  exact (pf_stp 3 (by decide)).1
theorem w8_slots : sltL (3 : Nat) 32 W8 4 Pf 22 = [23] := by
  unfold sltL
  rw [w8_shape.2.1]
  show [(stpV (3 : Nat) 32 W8 4 Pf 22 (1 + ((0 : Nat) : Int))).toNat] = [23]
  rw [(stp_words pf_valid8 w8_valid 22 _).2]
  rw [show (1 + ((0 : Nat) : Int)) = ((1 : Nat) : Int) by decide, (pf_stp 1 (by decide)).2]
  decide
theorem w8_plc : plcE (3 : Nat) 32 W8 4 Pf 22 1 false = 0 ∧ plcV (3 : Nat) 32 W8 4 Pf 22 1 false = 1 := by
  obtain ⟨h1, h2, h3⟩ := w8_shape
  obtain ⟨e1, e2⟩ := plc_ok (i := 1) (t := false) h1 (by decide) (by unfold fldN; rw [h3]; decide)
  refine ⟨e1, ?_⟩
  rw [e2]
  unfold fldK
  rw [h2, (stp_words pf_valid8 w8_valid 22 _).2]
  show stpV (3 : Nat) 32 Z8 4 Pf 22 ((3 : Nat) : Int) = 1
  rw [(pf_stp 3 (by decide)).2]
  decide
theorem w8_set : setW (3 : Nat) 32 W8 4 Pf 22 1 false 9 1 = 9 := by
  unfold setW
  rw [w8_plc.2]
  rfl

end Go.Proofs.Ythcfcciemjkilaa
