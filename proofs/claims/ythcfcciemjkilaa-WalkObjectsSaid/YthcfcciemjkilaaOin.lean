/-
  Contract of package object: Init.
-/
import Derived.Test.YthcfcciemjkilaaCat
import Derived.Deep.RegionHeld3
import Derived.Deep.DeepCutAuto
import Derived.Deep.CutBlock
namespace Go.Proofs.Ythcfcciemjkilaa
open Go.RowKit
set_option maxRecDepth 100000
set_option linter.unusedVariables false

theorem stp_ne1 {s : Int} {nw : Nat} {wd : Nat → Int} {n : Nat} {F : Nat → Fr} {a k : Int} (h : validB s nw wd n F = true) : stpE s nw wd n F a k ≠ 1 := by
  unfold stpE
  rw [if_neg (by simp [h])]
  split
  · decide
  · split
    · decide
    · split <;> decide
/-- Numbers stay where a word is written. -/
theorem Nums.put {w : World} {B n c x P : Nat} {A : Option Addr} {f : Nat → Int} {v : Int} (h : Nums w B A n c f) (hw : w.cell? ⟨x, P, none⟩ = some (.int .u64 v)) (u : Value) : Nums (w.setCell ⟨x, P, none⟩ u) B A n c f := by
  refine ⟨h.1, h.2.1, h.2.2.1, fun hn => ?_⟩
  obtain ⟨b, o, hA, hb, hc⟩ := h.2.2.2 hn
  refine ⟨b, o, hA, hb, fun j hj => ?_⟩
  rw [World.cell?_setCell_other]
  · exact hc j hj
  · intro e
    have h1 := hc j hj
    first
      | rw [e, hw] at h1
      | rw [← e, hw] at h1
    cases h1
/-- The addresses of all fields, in the order in which Init empties them. -/
noncomputable def iniL (s : Int) (nw : Nat) (wd : Nat → Int) (n : Nat) (F : Nat → Fr) (a : Int) (N : Nat) : List Nat := (List.range N).map fun (t : Nat) => (stpV s nw wd n F a ((t + 1 : Nat) : Int)).toNat
theorem iniL_cat {s : Int} {nw : Nat} {wd : Nat → Int} {n : Nat} {F : Nat → Fr} {a : Int} (R D : Nat) :
    ((List.range R).map fun (i : Nat) => (stpV s nw wd n F a (atK R true i)).toNat) ++ ((List.range D).map fun (i : Nat) => (stpV s nw wd n F a (atK R false i)).toNat) = iniL s nw wd n F a (R + D) := by
  refine List.ext_getElem? fun j => ?_
  unfold iniL
  rcases Nat.lt_or_ge j R with h | h
  · rw [List.getElem?_append_left (by simpa using h)]
    simp only [List.getElem?_map, List.getElem?_range h, List.getElem?_range (show j < R + D by omega), Option.map_some]
    congr 3
    show 1 + (j : Int) = ((j + 1 : Nat) : Int)
    omega
  · rw [List.getElem?_append_right (by simpa using h)]
    simp only [List.length_map, List.length_range]
    rcases Nat.lt_or_ge j (R + D) with h2 | h2
    · simp only [List.getElem?_map, List.getElem?_range (show j - R < D by omega), List.getElem?_range h2, Option.map_some]
      congr 3
      show 1 + (R : Int) + ((j - R : Nat) : Int) = ((j + 1 : Nat) : Int)
      omega
    · rw [List.getElem?_eq_none (by simp; omega), List.getElem?_eq_none (by simp; omega)]
theorem iniL_length {s : Int} {nw : Nat} {wd : Nat → Int} {n : Nat} {F : Nat → Fr} {a : Int} {N : Nat} : (iniL s nw wd n F a N).length = N := by simp [iniL]
theorem iniL_get {s : Int} {nw : Nat} {wd : Nat → Int} {n : Nat} {F : Nat → Fr} {a : Int} {N t : Nat} (h : t < N) : numF (iniL s nw wd n F a N) t = ((stpV s nw wd n F a ((t + 1 : Nat) : Int)).toNat : Int) := by
  unfold numF iniL
  rw [List.getD_eq_getElem?_getD, List.getElem?_map, List.getElem?_range h]
  rfl

/-- At the head of Init's loop. -/
def IniAt (K nw n : Nat) (F : Nat → Fr) (wd : Nat → Int) (a lv : Int) (N x g base c c' bo br : Nat) (A : Option Addr) (cA : Nat) (w : World) (i : Value) (wr : World) : Prop :=
  ∃ t : Nat, t ≤ N ∧ i = .int .i64 t ∧ Own wr base (some ⟨x, 0, none⟩) nw c (iniW K nw wd n F a lv t) ∧ OwnT wr base (some ⟨g, 0, none⟩) n c' F ∧
    Blk wr bo 25 #[.int .i64 K, .slice (some ⟨x, 0, none⟩) nw c, .slice (some ⟨g, 0, none⟩) n c'] ∧ Blk wr br 25 #[.int .i64 0, .slice none 0 0, .slice none 0 0] ∧
    Nums wr wr.heap.size A N cA (numF (iniL K nw wd n F a N)) ∧ Below w.heap.size w wr

end Go.Proofs.Ythcfcciemjkilaa
