/-
  The walk of PoolTakes.
-/
import Derived.Test.YtpbcpobbjoopnaaTakes0
import Derived.Deep.RegionHeld3
import Derived.Deep.DeepCutAuto
import Derived.Deep.CutBlock
namespace Go.Proofs.Ytpbcpobbjoopnaa
open Go.RowKit
set_option maxRecDepth 100000
set_option linter.unusedVariables false

/-- The box at b holds this space. -/
def SpIn (R : World) (b : Nat) (s : Int) (nw n : Nat) (wd : Nat → Int) (F : Nat → Fr) (W : World) : Prop := ∃ (A : Option Addr) (c : Nat) (A' : Option Addr) (c' : Nat), Blk W b 25 #[.int .i64 s, .slice A nw c, .slice A' n c'] ∧
  Arr W W.heap.size A nw c wd ∧ Tab W W.heap.size A' n c' F ∧ (∀ B, B ≤ b → B ≤ R.heap.size → Below B R W) ∧ ∀ b', b' < R.heap.size → b' ≠ b → W.heap[b']? = R.heap[b']?
theorem spin_put {R U wn : World} {s : Int} {nw n c c' b : Nat} {wd : Nat → Int} {F : Nat → Fr} {A A' : Option Addr} {a0 a1 a2 : Value} (hU : Below R.heap.size R U) (hb : Below U.heap.size U wn) (bb : Blk wn b 25 #[a0, a1, a2]) (hbU : b < R.heap.size) (ho : Own wn U.heap.size A nw c wd) (ht : OwnT wn U.heap.size A' n c' F) :
    SpIn R b s nw n wd F (((wn.setCell ⟨b, 0, none⟩ (.int .i64 s)).setCell ⟨b, 1, none⟩ (.slice A nw c)).setCell ⟨b, 2, none⟩ (.slice A' n c')) := by
  have h2 := hU.size
  have h3 := below_next hU (Nat.le_refl _) hb
  exact ⟨A, c, A', c', bb.set3 _ _ _, (ho.put3 (by omega) _ _ _).arr, (ht.put3 (by omega) _ _ _).tab, fun B hB hR => below_put3 (h3.mono hR) hB _ _ _, fun b' hlt hne => ((Below.heap_setCell _ ⟨b, 2, none⟩ _ b' hne).trans ((Below.heap_setCell _ ⟨b, 1, none⟩ _ b' hne).trans (Below.heap_setCell wn ⟨b, 0, none⟩ _ b' hne))).trans (h3.block b' hlt)⟩

theorem cell_heap {R W : World} {b o : Nat} (h : W.heap[b]? = R.heap[b]?) : W.cell? ⟨b, o, none⟩ = R.cell? ⟨b, o, none⟩ := by simp [World.cell?, h]
/-- Rows stay where a box of a space alone has turned. -/
theorem Arr.box_turn {R W : World} {b n c : Nat} {A : Option Addr} {f : Nat → Int} {a0 : Int} {v1 v2 : Option Addr} {n1 c1 n2 c2 : Nat} (h : Arr R R.heap.size A n c f) (hB : Blk R b 25 #[.int .i64 a0, .slice v1 n1 c1, .slice v2 n2 c2])
    (hk : ∀ b', b' < R.heap.size → b' ≠ b → W.heap[b']? = R.heap[b']?) (hs : R.heap.size ≤ W.heap.size) : Arr W W.heap.size A n c f := by
  refine ⟨h.1, h.2.1, h.2.2.1, fun hn => ?_⟩
  obtain ⟨x, o, hA, hx, hc⟩ := h.2.2.2 hn
  have hne : x ≠ b := by
    intro e
    subst e
    have h0 := hc 0 hn
    rw [hB.cell] at h0
    rcases (show o + 0 = 0 ∨ o + 0 = 1 ∨ o + 0 = 2 ∨ 3 ≤ o + 0 by omega) with e | e | e | e
    · rw [e] at h0; simp at h0
    · rw [e] at h0; simp at h0
    · rw [e] at h0; simp at h0
    · rw [Array.getElem?_eq_none (by simpa using e)] at h0; cases h0
  exact ⟨x, o, hA, by omega, fun j hj => (cell_heap (hk x hx hne)).trans (hc j hj)⟩
theorem Tab.box_turn {R W : World} {b n c : Nat} {A : Option Addr} {F : Nat → Fr} {a0 : Int} {v1 v2 : Option Addr} {n1 c1 n2 c2 : Nat} (h : Tab R R.heap.size A n c F) (hB : Blk R b 25 #[.int .i64 a0, .slice v1 n1 c1, .slice v2 n2 c2])
    (hk : ∀ b', b' < R.heap.size → b' ≠ b → W.heap[b']? = R.heap[b']?) (hs : R.heap.size ≤ W.heap.size) : Tab W W.heap.size A n c F := by
  refine ⟨h.1, h.2.1, h.2.2.1, fun hn => ?_⟩
  obtain ⟨x, o, hA, hx, hc⟩ := h.2.2.2 hn
  have hne : x ≠ b := by
    intro e
    subst e
    obtain ⟨h0, h1, _⟩ := hc 0 hn
    rw [hB.cell] at h0 h1
    rcases (show o + 0 * 3 = 0 ∨ o + 0 * 3 = 1 ∨ o + 0 * 3 = 2 ∨ 3 ≤ o + 0 * 3 by omega) with e | e | e | e
    · rw [e] at h1; simp at h1
    · rw [e] at h0; simp at h0
    · rw [e] at h0; simp at h0
    · rw [Array.getElem?_eq_none (by simpa using e)] at h0; cases h0
  exact ⟨x, o, hA, by omega, fun j hj => ⟨(cell_heap (hk x hx hne)).trans (hc j hj).1, (cell_heap (hk x hx hne)).trans (hc j hj).2.1, (cell_heap (hk x hx hne)).trans (hc j hj).2.2⟩⟩

end Go.Proofs.Ytpbcpobbjoopnaa
