/-
  The laws' own twisted; the example of layer 9. (Made by mkawk-s9.py.)
-/
import Derived.Test.YthcfcciemjkilaaDrp
import Derived.Deep.RegionWith
import Derived.Deep.CutBlock
import Derived.Deep.RegionHeld3
import Derived.Deep.DeepCutAuto
namespace Go.Proofs.Ythcfcciemjkilaa
open Go.RowKit
set_option maxRecDepth 100000
set_option linter.unusedVariables false

def TwCut (w wx : World) : Prop := ∃ x0 x1 x2 x3 x4 : Int, Blk wx w.heap.size 27 #[.int .i64 x0, .int .i64 x1, .int .i64 x2, .int .i64 x3, .int .i64 x4] ∧ Blk wx (w.heap.size + 1) 27 #[.int .i64 0, .int .i64 0, .int .i64 0, .int .i64 0, .int .i64 0] ∧ Below w.heap.size w wx
theorem tw_set {w wx : World} {x0 x1 x2 x3 x4 : Int} (h1 : Blk wx w.heap.size 27 #[.int .i64 x0, .int .i64 x1, .int .i64 x2, .int .i64 x3, .int .i64 x4]) (h2 : Blk wx (w.heap.size + 1) 27 #[.int .i64 0, .int .i64 0, .int .i64 0, .int .i64 0, .int .i64 0]) (h3 : Below w.heap.size w wx) (r : Nat) (hr : r < 5) (v : Int) : TwCut w (wx.setCell ⟨w.heap.size, r, none⟩ (.int .i64 v)) := by
  have h2' := h2.far (p := ⟨w.heap.size, r, none⟩) (by show w.heap.size + 1 ≠ w.heap.size; omega) (.int .i64 v)
  have h3' := h3.setCell (p := ⟨w.heap.size, r, none⟩) (Nat.le_refl _) (.int .i64 v)
  have h1' := h1.set_ r (.int .i64 v)
  rcases (by omega : r = 0 ∨ r = 1 ∨ r = 2 ∨ r = 3 ∨ r = 4) with e | e | e | e | e <;> subst e <;> exact ⟨_, _, _, _, _, h1', h2', h3'⟩
theorem TwCut.drew9 {w wx : World} (h : TwCut w wx) : TwCut w wx.drew := by
  obtain ⟨x0, x1, x2, x3, x4, h1, h2, h3⟩ := h
  exact ⟨x0, x1, x2, x3, x4, h1, h2, h3.drew⟩

/-- What Alloc gives where it gives a space. -/
def AllYes (s : Int) (nw n : Nat) (wd : Nat → Int) (F' : Nat → Fr) (sq bt fi' la' wo' a : Int) (w : World) (e : Ending) (w' : World) : Prop :=
  ∃ (A1 : Option Addr) (c1 g c2 : Nat), e = .returned (.tuple #[.agg #[.int .i64 s, .slice A1 nw c1, .slice (some ⟨g, 0, none⟩) n c2], .agg #[.int .i64 sq, .int .i64 bt, .int .i64 fi', .int .i64 la', .int .i64 wo'], .int .i64 a, .int .i64 0]) ∧
    Own w' w.heap.size A1 nw c1 wd ∧ OwnT w' w.heap.size (some ⟨g, 0, none⟩) n c2 F' ∧ Below w.heap.size w w'
theorem AllX.yes {s : Int} {nw n : Nat} {wd : Nat → Int} {F F' : Nat → Fr} {sq bt fi la wo d fi' la' a wo' : Int} {w w' : World} {e : Ending} (h : AllX s nw wd n F sq bt fi la wo d w e w') (h0 : allE s nw wd n F sq bt fi la wo d = 0) (hg : allG s n F sq bt fi la wo d = ⟨F', fi', la'⟩) (ha : addrP F' s.toNat fi' wo.toNat = a) (hw : wo + d = wo') : AllYes s nw n wd F' sq bt fi' la' wo' a w e w' := by
  rcases h with ⟨x, h1, h2, _⟩ | ⟨_, A1, c1, g, c2, he, ho, ht, hb⟩
  · exact absurd (h1.symm.trans h0) h2
  · rw [hg] at he ht
    rw [← ha, ← hw]
    exact ⟨A1, c1, g, c2, he, ho, ht, hb⟩

def Q0 : Nat → Fr := fun _ => frFree
def Q1 : Nat → Fr := lift Q0 0 0 (0 * 4294967296 + 0)
def Q2 : Nat → Fr := link (lift Q1 1 0 (0 * 4294967296 + 0)) 0 (1 : Nat)
theorem q_v0 : ValidP (3 : Nat) 32 (fun _ => 0) 4 Q0 := valid_fresh (k := 3) (n := 4) (by decide) (by decide) (by decide) (by decide)
theorem q_l0 : Least Q0 4 0 := ⟨by decide, rfl, fun j hj => absurd hj (by omega)⟩
theorem q_l1 : Least Q1 4 1 := by
  refine ⟨by decide, rfl, fun j hj => ?_⟩
  obtain rfl : j = 0 := by omega
  decide
theorem q_e0 : allE (3 : Nat) 32 (fun _ => 0) 4 Q0 0 0 (-1) (-1) 0 5 = 0 := by
  refine allE_ok (fun h => ?_) (fun h => absurd h.2 (by decide)) (by decide)
  rcases h with h | h | h
  · rw [incB_mk q_v0 (fits_new (by decide) (by decide) (by decide) (by decide))] at h; cases h
  · exact absurd h (by decide)
  · exact absurd h (by decide)
theorem q_g0 : allG (3 : Nat) 4 Q0 0 0 (-1) (-1) 0 5 = ⟨Q1, 0, 0⟩ := growG_first (t := 0) rfl q_l0
theorem q_e1 : allE (3 : Nat) 32 (fun _ => 0) 4 Q1 0 0 0 0 5 6 = 0 := by
  obtain ⟨W, D, hW, hD, _, _, _, hv, hf, _⟩ := all_valid q_e0
  obtain rfl : W = 0 := by omega
  obtain rfl : D = 5 := by omega
  rw [q_g0] at hv hf
  dsimp only at hv hf
  refine allE_ok (fun h => ?_) (fun h => absurd h.1 (by decide)) (by decide)
  rcases h with h | h | h
  · exact absurd ((incB_mk hv hf).symm.trans h) (by decide)
  · exact absurd h (by decide)
  · exact absurd h (by decide)
theorem q_g1 : allG (3 : Nat) 4 Q1 0 0 0 0 5 6 = ⟨Q2, 0, 1⟩ := growG_next (t := 0) (p := 0) (l := 0) rfl q_l1

end Go.Proofs.Ythcfcciemjkilaa
