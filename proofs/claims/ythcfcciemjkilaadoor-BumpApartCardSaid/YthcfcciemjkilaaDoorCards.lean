/-
  DERIVED. GIVEN WITH THE SEED: THE CARDS: each row of YthcfcciemjkilaaDoorRows.lean that lists a variable, with what it lists TIED to the program's text (the seventh form; the later family's looks); each row that meets fmt, with fmt's text TOLD by the authors' own Lean function (tested against real Go, not proved from fmt's source: count such statements apart). THE CARD IS WHAT COUNTS. Prove the row's statement (the work); the ties are given (YthcfcciemjkilaaDoorTie.lean); close each card by the builder's one call (the guide's Derived/Test/ToyasCard.lean, 'card_holds'). Laid BY PROGRAM, IN A SANDBOX (cutbox-door.mjs). By AI agents, Wed Nov 11 2026. No macro, syntax, notation, axiom, sorry.
-/
import Derived.Test.YthcfcciemjkilaaDoorRows
import GoSem.ClaimSeven
namespace Go.Proofs.YthcfcciemjkilaaDoor
namespace Rows

/-- THE TIED CARD OF 'beltwaylaw09.BumpApart'. -/
def bumpApartCard : Claim7 := { stood := { row := bumpApartRow, standIns := [], harness := (true, "2c4dcba18c77315a7504679f560fbb4fb9bed03939a683df96ab2451c3a48f36"), looks := false }, kinds := [], alts := [], laidByText := true, laidKinds := [.data], laidTests := true, laidLooks := .later }
def BumpApartCardSaid : Prop := Claim7.holds Tryd.pinned (.plain (OpenSpec.ofChange bumpApartSpec)) bumpApartCard

/-- THE SECOND FORM's CARD OF 'beltwaylaw09.BumpApart'. -/
def bumpApartUptoCard : Claim7 := { stood := { row := bumpApartUptoRow, standIns := [], harness := (true, "2c4dcba18c77315a7504679f560fbb4fb9bed03939a683df96ab2451c3a48f36"), looks := false }, kinds := [], alts := [], laidByText := true, laidKinds := [.data], laidTests := true, laidLooks := .later }
def BumpApartUptoCardSaid : Prop := Claim7.holds Tryd.pinned (.plain (OpenSpec.upto bumpApartSpec)) bumpApartUptoCard
end Rows
end Go.Proofs.YthcfcciemjkilaaDoor
