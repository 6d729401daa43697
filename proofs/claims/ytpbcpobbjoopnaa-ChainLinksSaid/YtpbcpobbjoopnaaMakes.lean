/-
  The walk of FrameMakes.
-/
import Derived.Test.YtpbcpobbjoopnaaParts
namespace Go.Proofs.Ytpbcpobbjoopnaa
open Go.RowKit
set_option linter.unusedVariables false

/-- The rows of a space can be read. -/
def YV (W : World) (s : Int) (A : Option Addr) (nw c : Nat) (A' : Option Addr) (n c' : Nat) : Prop := ∃ wd F, Arr W W.heap.size A nw c wd ∧ Tab W W.heap.size A' n c' F
theorem YV.next {W W' : World} {s : Int} {A A' : Option Addr} {nw c n c' : Nat} (h : YV W s A nw c A' n c') (hb : Below W.heap.size W W') : YV W' s A nw c A' n c' := by
  obtain ⟨wd, F, h1, h2⟩ := h
  exact ⟨wd, F, h1.next hb, h2.next hb⟩

/-- The j-th space of a slice of spaces in block Q. -/
def YAt (W : World) (Q j : Nat) : Prop := ∃ (s : Int) (A : Option Addr) (nw c : Nat) (A' : Option Addr) (n c' : Nat), W.cell? ⟨Q, j * 3, none⟩ = some (.int .i64 s) ∧ W.cell? ⟨Q, j * 3 + 1, none⟩ = some (.slice A nw c) ∧ W.cell? ⟨Q, j * 3 + 2, none⟩ = some (.slice A' n c') ∧ YV W s A nw c A' n c'

/-- What New gives, on either side. -/
def NewGives (s err : Int) (nw n : Nat) (w : World) (e : Ending) (w' : World) : Prop :=
  ∃ A c A' c', e = .returned (.tuple #[.agg #[.int .i64 s, .slice A nw c, .slice A' n c'], .int .i64 err]) ∧ Own w' w.heap.size A nw c (fun _ => 0) ∧ OwnT w' w.heap.size A' n c' (fun _ => frFree) ∧ Below w.heap.size w w'

/-- The j-th of a slice of pairs of numbers in block Q. -/
def TwoAt (W : World) (Q j : Nat) : Prop := ∃ (b : Nat) (x y : Int), b < W.heap.size ∧ W.cell? ⟨Q, j, none⟩ = some (.slice (some ⟨b, 0, none⟩) 2 2) ∧ W.cell? ⟨b, 0, none⟩ = some (.int .i64 x) ∧ W.cell? ⟨b, 1, none⟩ = some (.int .i64 y)

theorem cell_far3 {W : World} {b g o : Nat} (h : g ≠ b) (v0 v1 v2 : Value) : (((W.setCell ⟨b, 0, none⟩ v0).setCell ⟨b, 1, none⟩ v1).setCell ⟨b, 2, none⟩ v2).cell? ⟨g, o, none⟩ = W.cell? ⟨g, o, none⟩ := by
  rw [World.cell?_setCell_other _ _ _ _ (by intro e; injection e; omega), World.cell?_setCell_other _ _ _ _ (by intro e; injection e; omega), World.cell?_setCell_other _ _ _ _ (by intro e; injection e; omega)]

/-- A box of a new space. -/
def BoxAt (R : World) (s : Int) (nw n : Nat) (v : Value) (W : World) : Prop := ∃ (b : Nat) (A : Option Addr) (c : Nat) (A' : Option Addr) (c' : Nat), v = .pointer (some ⟨b, 0, none⟩) ∧ Blk W b 25 #[.int .i64 s, .slice A nw c, .slice A' n c'] ∧
  Arr W W.heap.size A nw c (fun _ => 0) ∧ Tab W W.heap.size A' n c' (fun _ => frFree) ∧ Below R.heap.size R W

theorem box_late {R U wn : World} {s : Int} {nw n c c' : Nat} {A A' : Option Addr} (hU : Below R.heap.size R U) (hb : Below U.heap.size U wn) (ho : Own wn U.heap.size A nw c (fun _ => 0)) (ht : OwnT wn U.heap.size A' n c' (fun _ => frFree)) :
    BoxAt R s nw n (.pointer (some ⟨wn.heap.size, 0, none⟩)) (wn.alloc (.cells #[.int .i64 s, .slice A nw c, .slice A' n c'] 25)) := by
  have h1 : Below wn.heap.size wn (wn.alloc (.cells #[.int .i64 s, .slice A nw c, .slice A' n c'] 25)) := (Below.refl _ _).alloc (Nat.le_refl _) _
  exact ⟨_, A, c, A', c', rfl, Blk.new _ _ _, (ho.below h1).arr, (ht.below h1).tab, below_next (below_next hU (Nat.le_refl _) hb) (Nat.le_refl _) h1⟩
theorem box_early {R U wn : World} {s : Int} {nw n c c' b : Nat} {A A' : Option Addr} {cs : Array Value} (hbR : R.heap.size ≤ b) (hU : Below R.heap.size R U) (hb : Below U.heap.size U wn) (bb : Blk wn b 25 cs) (hbU : b < U.heap.size) (hcs : cs.size = 3) (ho : Own wn U.heap.size A nw c (fun _ => 0)) (ht : OwnT wn U.heap.size A' n c' (fun _ => frFree)) :
    BoxAt R s nw n (.pointer (some ⟨b, 0, none⟩)) (((wn.setCell ⟨b, 0, none⟩ (.int .i64 s)).setCell ⟨b, 1, none⟩ (.slice A nw c)).setCell ⟨b, 2, none⟩ (.slice A' n c')) := by
  have hset : ((cs.setIfInBounds 0 (.int .i64 s)).setIfInBounds 1 (.slice A nw c)).setIfInBounds 2 (.slice A' n c') = #[.int .i64 s, .slice A nw c, .slice A' n c'] := by
    obtain ⟨l⟩ := cs
    match l, hcs with
    | [_, _, _], _ => rfl
  refine ⟨b, A, c, A', c', rfl, ?_, (ho.put3 hbU _ _ _).arr, (ht.put3 hbU _ _ _).tab, below_put3 (below_next hU (Nat.le_refl _) hb) hbR _ _ _⟩
  rw [← hset]
  exact ((bb.set_ 0 _).set_ 1 _).set_ 2 _

end Go.Proofs.Ytpbcpobbjoopnaa
