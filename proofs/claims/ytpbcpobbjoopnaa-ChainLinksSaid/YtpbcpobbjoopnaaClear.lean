/-
  Contract of the reference of layer 4: Clear.
-/
import Derived.Test.YtpbcpobbjoopnaaRefp
import Derived.Deep.DeepCutAuto
namespace Go.Proofs.Ytpbcpobbjoopnaa
open Go.RowKit
set_option maxRecDepth 100000
set_option linter.unusedVariables false

/-- What turned are the blocks x and g, and what is new. -/
structure Turn2 (x g : Nat) (w w' : World) : Prop where
  os : w'.os = w.os
  tape : w'.tape = w.tape
  output : w'.output = w.output
  size : w.heap.size ≤ w'.heap.size
  block : ∀ b, b < w.heap.size → b ≠ x → b ≠ g → w'.heap[b]? = w.heap[b]?
theorem Turn2.of_below {x g : Nat} {w w' : World} (h : Below w.heap.size w w') : Turn2 x g w w' := ⟨h.os, h.tape, h.output, h.size, fun b hb _ _ => h.block b hb⟩
theorem Turn2.alloc {x g : Nat} {w w' : World} (h : Turn2 x g w w') (o : Obj) : Turn2 x g w (w'.alloc o) :=
  ⟨h.os, h.tape, h.output, by have := h.size; simp; omega, fun b hb h1 h2 => (Below.heap_alloc w' o b (by have := h.size; omega)).trans (h.block b hb h1 h2)⟩
theorem Turn2.setx {x g : Nat} {w w' : World} (h : Turn2 x g w w') (i : Nat) (u : Value) : Turn2 x g w (w'.setCell ⟨x, i, none⟩ u) :=
  ⟨h.os, h.tape, h.output, by simpa using h.size, fun b hb h1 h2 => (Below.heap_setCell w' ⟨x, i, none⟩ u b h1).trans (h.block b hb h1 h2)⟩
theorem Turn2.setg {x g : Nat} {w w' : World} (h : Turn2 x g w w') (i : Nat) (u : Value) : Turn2 x g w (w'.setCell ⟨g, i, none⟩ u) :=
  ⟨h.os, h.tape, h.output, by simpa using h.size, fun b hb h1 h2 => (Below.heap_setCell w' ⟨g, i, none⟩ u b h2).trans (h.block b hb h1 h2)⟩
theorem Turn2.setg3 {x g : Nat} {w w' : World} (h : Turn2 x g w w') (i j k : Nat) (u v y : Value) : Turn2 x g w (((w'.setCell ⟨g, i, none⟩ u).setCell ⟨g, j, none⟩ v).setCell ⟨g, k, none⟩ y) :=
  ((h.setg i u).setg j v).setg k y
theorem Blk.turn2 {x g b : Nat} {w w' : World} {t : TypeId} {cs : Array Value} (h : Blk w b t cs) (hg : Turn2 x g w w') (h1 : b ≠ x) (h2 : b ≠ g) : Blk w' b t cs := (hg.block b h.lt h1 h2).trans h
theorem Turn2.below {x g B : Nat} {w w' : World} (h : Turn2 x g w w') (hx : B ≤ x) (hg : B ≤ g) (hB : B ≤ w.heap.size) : Below B w w' :=
  ⟨h.os, h.tape, h.output, h.size, fun b hb => h.block b (by omega) (by omega) (by omega)⟩

theorem giveF_skip {F : Nat → Fr} {o : Int} {t : Nat} (h : owB F o t = false) (j : Nat) : giveF F o t j = giveF F o (t + 1) j := by
  have h' := of_decide_eq_false h
  unfold giveF
  by_cases e : j < t ∧ (F j).ow = o
  · rw [if_pos e, if_pos ⟨by omega, e.2⟩]
  · rw [if_neg e, if_neg (fun x => e ⟨by rcases (show j < t ∨ j = t by omega) with q | rfl; exact q; exact absurd x.2 h', x.2⟩)]
theorem giveW_skip {wd : Nat → Int} {F : Nat → Fr} {o : Int} {k t : Nat} (h : owB F o t = false) (a : Nat) : giveW wd F o k t a = giveW wd F o k (t + 1) a := by
  have h' := of_decide_eq_false h
  unfold giveW
  by_cases e : a / 2 ^ k < t ∧ (F (a / 2 ^ k)).ow = o
  · rw [if_pos e, if_pos ⟨by omega, e.2⟩]
  · rw [if_neg e, if_neg (fun x => e ⟨by rcases (show a / 2 ^ k < t ∨ a / 2 ^ k = t by omega) with q | q; exact q; exact absurd (q ▸ x.2) h', x.2⟩)]
def ClearAt (k : Nat) (nw n : Nat) (wd : Nat → Int) (F : Nat → Fr) (o : Int) (w : World) (base g x c1 c2 : Nat) (vn vi : Value) (wr : World) : Prop :=
  ∃ t : Nat, t ≤ n ∧ vi = .int .i64 t ∧ vn = .int .i64 (cntP (owB F o) t : Nat) ∧ Own wr base (some ⟨x, 0, none⟩) nw c1 (giveW wd F o k t) ∧ OwnT wr base (some ⟨g, 0, none⟩) n c2 (giveF F o t) ∧
    Blk wr w.heap.size 25 #[.int .i64 k, .slice (some ⟨x, 0, none⟩) nw c1, .slice (some ⟨g, 0, none⟩) n c2] ∧ Turn2 x g w wr

/-- At the inner loop's head: q words of frame t are cleared. -/
def ClearIn (k : Nat) (nw n : Nat) (wd : Nat → Int) (F : Nat → Fr) (o : Int) (w : World) (base g x c1 c2 t lo m : Nat) (va : Value) (wr : World) : Prop :=
  ∃ q : Nat, q ≤ m ∧ va = .int .i64 ((lo + q : Nat) : Int) ∧ Own wr base (some ⟨x, 0, none⟩) nw c1 (fun a => if lo ≤ a ∧ a < lo + q then 0 else giveW wd F o k t a) ∧ OwnT wr base (some ⟨g, 0, none⟩) n c2 (giveF F o (t + 1)) ∧
    Blk wr w.heap.size 25 #[.int .i64 k, .slice (some ⟨x, 0, none⟩) nw c1, .slice (some ⟨g, 0, none⟩) n c2] ∧ Turn2 x g w wr
theorem Own.spotAt {w : World} {base x n c : Nat} {f : Nat → Int} (h : Own w base (some ⟨x, 0, none⟩) n c f) (i : Nat) (hi : i < n) (v : Int) :
    base ≤ x ∧ x < w.heap.size ∧ w.cell? ⟨x, i, none⟩ = some (.int .u64 (f i)) ∧ w.frozen? ⟨x, i, none⟩ = false ∧
      Own (w.setCell ⟨x, i, none⟩ (.int .u64 v)) base (some ⟨x, 0, none⟩) n c (fun j => if j = i then v else f j) := by
  obtain ⟨g, hA, h'⟩ := h.spot i hi v
  injection hA with hA
  injection hA with hA
  subst hA
  exact h'

theorem clear_one {lo q L : Nat} {f : Nat → Int} (hL : L = lo + q) (a : Nat) : (if a = L then 0 else if lo ≤ a ∧ a < lo + q then 0 else f a) = if lo ≤ a ∧ a < lo + (q + 1) then 0 else f a := by
  subst hL
  by_cases e : a = lo + q
  · rw [if_pos e, if_pos (by omega)]
  · rw [if_neg e]
    by_cases e2 : lo ≤ a ∧ a < lo + q
    · rw [if_pos e2, if_pos (by omega)]
    · rw [if_neg e2, if_neg (by omega)]
theorem clear_cnt {p : Nat → Bool} {t : Nat} (h : p t = true) : cntP p (t + 1) = cntP p t + 1 := by simp only [cntP]; rw [h]; rfl

end Go.Proofs.Ytpbcpobbjoopnaa
