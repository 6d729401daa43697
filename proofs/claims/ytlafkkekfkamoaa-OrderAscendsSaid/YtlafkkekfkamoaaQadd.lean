/-
  Add and Remove of package belt, where they go through.
-/
import Derived.Test.YtlafkkekfkamoaaQapp
import Derived.Deep.RegionHeld2
namespace Go.Proofs.Ytlafkkekfkamoaa
open Go.RowKit
set_option maxRecDepth 100000
set_option linter.unusedVariables false

theorem grown_left {V W w' : World} {row : Option Nat} (hb : Below V.heap.size V W) (hg : W.grownBy w' row) : V.grownBy w' row :=
  ⟨hg.os.trans hb.os, hg.tape.trans hb.tape, hg.output.trans hb.output, Nat.le_trans hb.size hg.size, fun k hk hn => (hg.block k (Nat.lt_of_lt_of_le hk hb.size) hn).trans (hb.block k hk)⟩
theorem Rows2.drew {w : World} {lo : Nat} {v : Value} {Q : List (List IncR)} (h : Rows2 w lo v Q) : Rows2 w.drew lo v Q := h
theorem grown_drew {V w' : World} {row : Option Nat} (h : V.drew.grownBy w' row) : V.grownBy w' row := ⟨h.os, h.tape, h.output, h.size, h.block⟩
theorem Rows2.lower {w : World} {lo lo' : Nat} {v : Value} {Q : List (List IncR)} (h : Rows2 w lo v Q) (hl : lo' ≤ lo) : Rows2 w lo' v Q := by
  obtain ⟨V, h1, h2, h3⟩ := h
  exact ⟨V, ownsRow_lower h1 hl, fun j q hj => ownsRow_lower (h2 j q hj) hl, h3⟩
theorem cell_far {w : World} {g t x j : Nat} {u : Value} (h : x ≠ g) : (w.setCell ⟨g, t, none⟩ u).cell? ⟨x, j, none⟩ = w.cell? ⟨x, j, none⟩ := World.cell?_of_block (a := ⟨x, j, none⟩) (Below.heap_setCell w ⟨g, t, none⟩ u x h)

end Go.Proofs.Ytlafkkekfkamoaa
