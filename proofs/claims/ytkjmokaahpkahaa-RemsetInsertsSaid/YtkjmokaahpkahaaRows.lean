/-
  No cell of these rows narrows 'for every input' (looked for: loops, veiled, ifaces, maps, wideKeys, modest, calm, conditions, laid).
  DERIVED. THE GIVEN ROWS OF THIS SEAT. 4 by the template 'for every input the law returns true; each argument reads behind the call as it read before'; 0 by the template 'total and deterministic' (their statements: YtkjmokaahpkahaaTotals.lean).
  GIVEN WITH THE SEED: the statements are not yours to turn. If you find one false, say at which input.
  Laid BY PROGRAM, IN A SANDBOX (cutbox-rows.mjs): the forced cells as the released guide's own fill.sh prints them over the translation d5e75da7c2e99be6… (all of the seat's roots in one cut). By AI agents, Wed Nov 11 2026. No macro, syntax, notation, axiom, sorry.
-/
import Derived.Test.YtkjmokaahpkahaaChecked
import GoSem.Claim
import GoSem.ClaimJoined
import GoSem.ClaimMapViews
import Derived.JoinedTies
import Derived.KernelRfl
namespace Go.Proofs.Ytkjmokaahpkahaa
/- THE CELL 'sum', in the pinned program and in every row, IS THE sha256 OF THE DUMP (.gsa) THAT YtkjmokaahpkahaaProg.lean LOADS. Nothing in Lean hashes anything: it is a label: what it is worth is what the hold of that sum in a sandbox is worth. -/
noncomputable def Try.pinned : Pinned := { name := "ytkjmokaahpkahaa", sum := "d5e75da7c2e99be64c9322066443d520fb2c23f2ab3a6654411fcb913e5a7c27", checked := Try.checked }
namespace Rows
def none {H : Type} : Left H := { results := [], args := [] }

/-- 'beltwaylaw18.RemsetInserts': WHATEVER THE INPUT: true; the input reads as it did. -/
def remsetInsertsSpec : ChangeSpec := { name := "remsetInserts", fn := fun _ => fun
  | [d1, d2, d3, d4, d5, d6, d7, d8] => { results := [.lit (.bool true)], args := [d1, d2, d3, d4, d5, d6, d7, d8] }
  | _ => none }
def remsetInsertsRow : OpenClaim := { program := "ytkjmokaahpkahaa", sum := "d5e75da7c2e99be64c9322066443d520fb2c23f2ab3a6654411fcb913e5a7c27", func := "beltway/beltwaylaw18.RemsetInserts", spec := "remsetInserts", inPlace := ["slices.overlaps[beltway/api.Set]", "slices.overlaps[int]"], unfollowed := true, recurses := true, apart := false }
def RemsetInsertsSaid : Prop := remsetInsertsRow.holds Try.pinned (OpenSpec.ofChange remsetInsertsSpec)

/-- ITS FALSE NEIGHBOUR: 'it returns false'. Refute it at one input. -/
def remsetInsertsWrong : ChangeSpec := { name := "remsetInserts", fn := fun _ => fun
  | [d1, d2, d3, d4, d5, d6, d7, d8] => { results := [.lit (.bool false)], args := [d1, d2, d3, d4, d5, d6, d7, d8] }
  | _ => none }
def RemsetInsertsWrongFalsely : Prop := remsetInsertsRow.holds Try.pinned (OpenSpec.ofChange remsetInsertsWrong)

/-- 'beltwaylaw18.RemsetDrops': WHATEVER THE INPUT: true; the input reads as it did. -/
def remsetDropsSpec : ChangeSpec := { name := "remsetDrops", fn := fun _ => fun
  | [d1, d2] => { results := [.lit (.bool true)], args := [d1, d2] }
  | _ => none }
def remsetDropsRow : OpenClaim := { program := "ytkjmokaahpkahaa", sum := "d5e75da7c2e99be64c9322066443d520fb2c23f2ab3a6654411fcb913e5a7c27", func := "beltway/beltwaylaw18.RemsetDrops", spec := "remsetDrops", inPlace := ["slices.overlaps[beltway/api.Set]", "slices.overlaps[int]"], unfollowed := true, recurses := true, apart := false }
def RemsetDropsSaid : Prop := remsetDropsRow.holds Try.pinned (OpenSpec.ofChange remsetDropsSpec)

/-- ITS FALSE NEIGHBOUR: 'it returns false'. Refute it at one input. -/
def remsetDropsWrong : ChangeSpec := { name := "remsetDrops", fn := fun _ => fun
  | [d1, d2] => { results := [.lit (.bool false)], args := [d1, d2] }
  | _ => none }
def RemsetDropsWrongFalsely : Prop := remsetDropsRow.holds Try.pinned (OpenSpec.ofChange remsetDropsWrong)

/-- 'beltwaylaw18.RemsetOrder': WHATEVER THE INPUT: true; the input reads as it did. -/
def remsetOrderSpec : ChangeSpec := { name := "remsetOrder", fn := fun _ => fun
  | [d1, d2] => { results := [.lit (.bool true)], args := [d1, d2] }
  | _ => none }
def remsetOrderRow : OpenClaim := { program := "ytkjmokaahpkahaa", sum := "d5e75da7c2e99be64c9322066443d520fb2c23f2ab3a6654411fcb913e5a7c27", func := "beltway/beltwaylaw18.RemsetOrder", spec := "remsetOrder", inPlace := ["slices.overlaps[beltway/api.Set]", "slices.overlaps[int]"], unfollowed := true, recurses := true, apart := false }
def RemsetOrderSaid : Prop := remsetOrderRow.holds Try.pinned (OpenSpec.ofChange remsetOrderSpec)

/-- ITS FALSE NEIGHBOUR: 'it returns false'. Refute it at one input. -/
def remsetOrderWrong : ChangeSpec := { name := "remsetOrder", fn := fun _ => fun
  | [d1, d2] => { results := [.lit (.bool false)], args := [d1, d2] }
  | _ => none }
def RemsetOrderWrongFalsely : Prop := remsetOrderRow.holds Try.pinned (OpenSpec.ofChange remsetOrderWrong)

/-- 'beltwaylaw18.RemsetParts': WHATEVER THE INPUT: true; the input reads as it did. -/
def remsetPartsSpec : ChangeSpec := { name := "remsetParts", fn := fun _ => fun
  | [d] => { results := [.lit (.bool true)], args := [d] }
  | _ => none }
def remsetPartsRow : OpenClaim := { program := "ytkjmokaahpkahaa", sum := "d5e75da7c2e99be64c9322066443d520fb2c23f2ab3a6654411fcb913e5a7c27", func := "beltway/beltwaylaw18.RemsetParts", spec := "remsetParts", inPlace := ["slices.overlaps[beltway/api.Set]", "slices.overlaps[int]"], unfollowed := true, recurses := true, apart := false }
def RemsetPartsSaid : Prop := remsetPartsRow.holds Try.pinned (OpenSpec.ofChange remsetPartsSpec)

/-- ITS FALSE NEIGHBOUR: 'it returns false'. Refute it at one input. -/
def remsetPartsWrong : ChangeSpec := { name := "remsetParts", fn := fun _ => fun
  | [d] => { results := [.lit (.bool false)], args := [d] }
  | _ => none }
def RemsetPartsWrongFalsely : Prop := remsetPartsRow.holds Try.pinned (OpenSpec.ofChange remsetPartsWrong)

/- THE SECOND FORM. 'bulk': how many values and letters a reading holds, each counted each time it is reached (what is shared counts as often as it is met; a slice's spare places count too). A statement '..UptoSaid' is the law's where the arguments, and the package variables that the reading takes, are together of bulk at most 1048576: NARROWER than '..Said'. Prove '..Said' where nothing that the law and all that it calls make is longer than what came in: it says more and counts as full. Else prove '..UptoSaid'. A law counts once. -/
mutual
def uptoBulk {H : Type} : DataW H → Nat
  | .lit (.string bytes) => bytes.length + 1
  | .lit _ => 1
  | .nil => 1
  | .ptr d => uptoBulk d + 1
  | .slice elems spare => uptoBulkAll elems + uptoBulkAll spare + 1
  | .agg parts => uptoBulkAll parts + 1
  | .iface _ d => uptoBulk d + 1
  | .map entries => uptoBulkEntries entries + 1
  | .held _ => 1
def uptoBulkAll {H : Type} : List (DataW H) → Nat
  | [] => 0
  | d :: r => uptoBulk d + uptoBulkAll r
def uptoBulkEntries {H : Type} : List (Lit × DataW H) → Nat
  | [] => 0
  | x :: r => uptoBulkEntry x + uptoBulkEntries r
def uptoBulkEntry {H : Type} : Lit × DataW H → Nat
  | (.string bytes, d) => bytes.length + uptoBulk d + 1
  | (_, d) => uptoBulk d + 1
 end
def uptoSmall : (H : Type) → List (DataW H) → Bool := fun _ ds => decide (uptoBulkAll ds ≤ 1048576)
def OpenSpec.upto (s : _root_.Go.ChangeSpec) : _root_.Go.OpenSpec := { _root_.Go.OpenSpec.ofChange s with cond := some uptoSmall }

/-- 'beltwaylaw18.RemsetInserts', WHERE WHAT IT READS IS OF BULK AT MOST 1048576: true; the input reads as it did. -/
def remsetInsertsUptoRow : OpenClaim := { program := "ytkjmokaahpkahaa", sum := "d5e75da7c2e99be64c9322066443d520fb2c23f2ab3a6654411fcb913e5a7c27", func := "beltway/beltwaylaw18.RemsetInserts", spec := "remsetInserts", inPlace := ["slices.overlaps[beltway/api.Set]", "slices.overlaps[int]"], unfollowed := true, recurses := true, apart := false, narrowed := true }
def RemsetInsertsUptoSaid : Prop := remsetInsertsUptoRow.holds Try.pinned (OpenSpec.upto remsetInsertsSpec)

/-- 'beltwaylaw18.RemsetDrops', WHERE WHAT IT READS IS OF BULK AT MOST 1048576: true; the input reads as it did. -/
def remsetDropsUptoRow : OpenClaim := { program := "ytkjmokaahpkahaa", sum := "d5e75da7c2e99be64c9322066443d520fb2c23f2ab3a6654411fcb913e5a7c27", func := "beltway/beltwaylaw18.RemsetDrops", spec := "remsetDrops", inPlace := ["slices.overlaps[beltway/api.Set]", "slices.overlaps[int]"], unfollowed := true, recurses := true, apart := false, narrowed := true }
def RemsetDropsUptoSaid : Prop := remsetDropsUptoRow.holds Try.pinned (OpenSpec.upto remsetDropsSpec)

/-- 'beltwaylaw18.RemsetOrder', WHERE WHAT IT READS IS OF BULK AT MOST 1048576: true; the input reads as it did. -/
def remsetOrderUptoRow : OpenClaim := { program := "ytkjmokaahpkahaa", sum := "d5e75da7c2e99be64c9322066443d520fb2c23f2ab3a6654411fcb913e5a7c27", func := "beltway/beltwaylaw18.RemsetOrder", spec := "remsetOrder", inPlace := ["slices.overlaps[beltway/api.Set]", "slices.overlaps[int]"], unfollowed := true, recurses := true, apart := false, narrowed := true }
def RemsetOrderUptoSaid : Prop := remsetOrderUptoRow.holds Try.pinned (OpenSpec.upto remsetOrderSpec)

/-- 'beltwaylaw18.RemsetParts', WHERE WHAT IT READS IS OF BULK AT MOST 1048576: true; the input reads as it did. -/
def remsetPartsUptoRow : OpenClaim := { program := "ytkjmokaahpkahaa", sum := "d5e75da7c2e99be64c9322066443d520fb2c23f2ab3a6654411fcb913e5a7c27", func := "beltway/beltwaylaw18.RemsetParts", spec := "remsetParts", inPlace := ["slices.overlaps[beltway/api.Set]", "slices.overlaps[int]"], unfollowed := true, recurses := true, apart := false, narrowed := true }
def RemsetPartsUptoSaid : Prop := remsetPartsUptoRow.holds Try.pinned (OpenSpec.upto remsetPartsSpec)

end Rows
end Go.Proofs.Ytkjmokaahpkahaa
