/-
  No cell of these rows narrows 'for every input' (looked for: loops, veiled, ifaces, maps, wideKeys, modest, calm, conditions, laid).
  DERIVED. THE GIVEN ROWS OF THIS SEAT. 2 by the template 'for every input the law returns true; each argument reads behind the call as it read before'; 0 by the template 'total and deterministic' (their statements: YtjkbjbikofindaaTotals.lean).
  GIVEN WITH THE SEED: the statements are not yours to turn. If you find one false, say at which input.
  Laid BY PROGRAM, IN A SANDBOX (cutbox-rows.mjs): the forced cells as the released guide's own fill.sh prints them over the translation 3c96b14f0c7be585… (all of the seat's roots in one cut). By AI agents, Wed Nov 11 2026. No macro, syntax, notation, axiom, sorry.
-/
import Derived.Test.YtjkbjbikofindaaChecked
import GoSem.Claim
import GoSem.ClaimJoined
import GoSem.ClaimMapViews
import Derived.JoinedTies
import Derived.KernelRfl
namespace Go.Proofs.Ytjkbjbikofindaa
/- THE CELL 'sum', in the pinned program and in every row, IS THE sha256 OF THE DUMP (.gsa) THAT YtjkbjbikofindaaProg.lean LOADS. Nothing in Lean hashes anything: it is a label: what it is worth is what the hold of that sum in a sandbox is worth. -/
noncomputable def Try.pinned : Pinned := { name := "ytjkbjbikofindaa", sum := "3c96b14f0c7be585fc8cd4d95438cc84777e4c7161f0fd75c27c06e852efa0d3", checked := Try.checked }
namespace Rows
def none {H : Type} : Left H := { results := [], args := [] }

/-- 'beltwaylaw19.BarrierRecords': WHATEVER THE INPUT: true; the input reads as it did. -/
def barrierRecordsSpec : ChangeSpec := { name := "barrierRecords", fn := fun _ => fun
  | [d1, d2, d3, d4, d5, d6, d7, d8] => { results := [.lit (.bool true)], args := [d1, d2, d3, d4, d5, d6, d7, d8] }
  | _ => none }
def barrierRecordsRow : OpenClaim := { program := "ytjkbjbikofindaa", sum := "3c96b14f0c7be585fc8cd4d95438cc84777e4c7161f0fd75c27c06e852efa0d3", func := "beltway/beltwaylaw19.BarrierRecords", spec := "barrierRecords", inPlace := ["slices.overlaps[beltway/api.Set]", "slices.overlaps[int]"], unfollowed := true, recurses := true, apart := false }
def BarrierRecordsSaid : Prop := barrierRecordsRow.holds Try.pinned (OpenSpec.ofChange barrierRecordsSpec)

/-- ITS FALSE NEIGHBOUR: 'it returns false'. Refute it at one input. -/
def barrierRecordsWrong : ChangeSpec := { name := "barrierRecords", fn := fun _ => fun
  | [d1, d2, d3, d4, d5, d6, d7, d8] => { results := [.lit (.bool false)], args := [d1, d2, d3, d4, d5, d6, d7, d8] }
  | _ => none }
def BarrierRecordsWrongFalsely : Prop := barrierRecordsRow.holds Try.pinned (OpenSpec.ofChange barrierRecordsWrong)

/-- 'beltwaylaw19.BarrierWithin': WHATEVER THE INPUT: true; the input reads as it did. -/
def barrierWithinSpec : ChangeSpec := { name := "barrierWithin", fn := fun _ => fun
  | [d1, d2, d3, d4, d5] => { results := [.lit (.bool true)], args := [d1, d2, d3, d4, d5] }
  | _ => none }
def barrierWithinRow : OpenClaim := { program := "ytjkbjbikofindaa", sum := "3c96b14f0c7be585fc8cd4d95438cc84777e4c7161f0fd75c27c06e852efa0d3", func := "beltway/beltwaylaw19.BarrierWithin", spec := "barrierWithin", inPlace := ["slices.overlaps[beltway/api.Set]", "slices.overlaps[int]"], unfollowed := true, recurses := true, apart := false }
def BarrierWithinSaid : Prop := barrierWithinRow.holds Try.pinned (OpenSpec.ofChange barrierWithinSpec)

/-- ITS FALSE NEIGHBOUR: 'it returns false'. Refute it at one input. -/
def barrierWithinWrong : ChangeSpec := { name := "barrierWithin", fn := fun _ => fun
  | [d1, d2, d3, d4, d5] => { results := [.lit (.bool false)], args := [d1, d2, d3, d4, d5] }
  | _ => none }
def BarrierWithinWrongFalsely : Prop := barrierWithinRow.holds Try.pinned (OpenSpec.ofChange barrierWithinWrong)

/- THE SECOND FORM. 'bulk': how many values and letters a reading holds, each counted each time it is reached (what is shared counts as often as it is met; a slice's spare places count too). A statement '..UptoSaid' is the law's where the arguments, and the package variables that the reading takes, are together of bulk at most 1048576: NARROWER than '..Said'. Prove '..Said' where nothing that the law and all that it calls make is longer than what came in: it says more and counts as full. Else prove '..UptoSaid'. A law counts once. -/
mutual
def uptoBulk {H : Type} : DataW H → Nat
  | .lit (.string bytes) => bytes.length + 1
  | .lit _ => 1
  | .nil => 1
  | .ptr d => uptoBulk d + 1
  | .slice elems spare => uptoBulkAll elems + uptoBulkAll spare + 1
  | .agg parts => uptoBulkAll parts + 1
  | .iface _ d => uptoBulk d + 1
  | .map entries => uptoBulkEntries entries + 1
  | .held _ => 1
def uptoBulkAll {H : Type} : List (DataW H) → Nat
  | [] => 0
  | d :: r => uptoBulk d + uptoBulkAll r
def uptoBulkEntries {H : Type} : List (Lit × DataW H) → Nat
  | [] => 0
  | x :: r => uptoBulkEntry x + uptoBulkEntries r
def uptoBulkEntry {H : Type} : Lit × DataW H → Nat
  | (.string bytes, d) => bytes.length + uptoBulk d + 1
  | (_, d) => uptoBulk d + 1
 end
def uptoSmall : (H : Type) → List (DataW H) → Bool := fun _ ds => decide (uptoBulkAll ds ≤ 1048576)
def OpenSpec.upto (s : _root_.Go.ChangeSpec) : _root_.Go.OpenSpec := { _root_.Go.OpenSpec.ofChange s with cond := some uptoSmall }

/-- 'beltwaylaw19.BarrierRecords', WHERE WHAT IT READS IS OF BULK AT MOST 1048576: true; the input reads as it did. -/
def barrierRecordsUptoRow : OpenClaim := { program := "ytjkbjbikofindaa", sum := "3c96b14f0c7be585fc8cd4d95438cc84777e4c7161f0fd75c27c06e852efa0d3", func := "beltway/beltwaylaw19.BarrierRecords", spec := "barrierRecords", inPlace := ["slices.overlaps[beltway/api.Set]", "slices.overlaps[int]"], unfollowed := true, recurses := true, apart := false, narrowed := true }
def BarrierRecordsUptoSaid : Prop := barrierRecordsUptoRow.holds Try.pinned (OpenSpec.upto barrierRecordsSpec)

/-- 'beltwaylaw19.BarrierWithin', WHERE WHAT IT READS IS OF BULK AT MOST 1048576: true; the input reads as it did. -/
def barrierWithinUptoRow : OpenClaim := { program := "ytjkbjbikofindaa", sum := "3c96b14f0c7be585fc8cd4d95438cc84777e4c7161f0fd75c27c06e852efa0d3", func := "beltway/beltwaylaw19.BarrierWithin", spec := "barrierWithin", inPlace := ["slices.overlaps[beltway/api.Set]", "slices.overlaps[int]"], unfollowed := true, recurses := true, apart := false, narrowed := true }
def BarrierWithinUptoSaid : Prop := barrierWithinUptoRow.holds Try.pinned (OpenSpec.upto barrierWithinSpec)

end Rows
end Go.Proofs.Ytjkbjbikofindaa
