/-
  Contract of package pool: Take.
-/
import Derived.Test.YtpbcpobbjoopnaaClonep
import Derived.Test.YtpbcpobbjoopnaaValid
namespace Go.Proofs.Ytpbcpobbjoopnaa
open Go.RowKit
set_option maxRecDepth 100000
set_option linter.unusedVariables false

def zSp : Value := .agg #[.int .i64 0, .slice none 0 0, .slice none 0 0]
/-- The error of Take. -/
noncomputable def takeE (s : Int) (nw : Nat) (wd : Nat → Int) (n : Nat) (F : Nat → Fr) (o b : Int) : Int :=
  if (validB s nw wd n F && okO o && okB b) = false then 1 else if anyB F o (b * 4294967296 + o) n = true then 5 else if cntP (owB F (-1)) n = 0 then 4 else 0
/-- What Take answers. -/
def TakeOut (s : Int) (nw : Nat) (wd : Nat → Int) (n : Nat) (F : Nat → Fr) (o b : Int) (w : World) (e : Ending) (w' : World) : Prop :=
  (∃ x : Int, takeE s nw wd n F o b = x ∧ x ≠ 0 ∧ e = .returned (.tuple #[zSp, .int .i64 0, .int .i64 x]) ∧ Below w.heap.size w w') ∨
  (takeE s nw wd n F o b = 0 ∧ ∃ (f : Nat) (A1 : Option Addr) (c1 g c2 : Nat), Least F n f ∧ e = .returned (.tuple #[.agg #[.int .i64 s, .slice A1 nw c1, .slice (some ⟨g, 0, none⟩) n c2], .int .i64 f, .int .i64 0]) ∧
    Own w' w.heap.size A1 nw c1 wd ∧ OwnT w' w.heap.size (some ⟨g, 0, none⟩) n c2 (lift F f o (b * 4294967296 + o)) ∧ Below w.heap.size w w')

theorem take_bad {s : Int} {nw : Nat} {wd : Nat → Int} {n : Nat} {F : Nat → Fr} {o b : Int} {w w' : World} (h : (validB s nw wd n F && okO o && okB b) = false) (hb : Below w.heap.size w w') :
    TakeOut s nw wd n F o b w (.returned (.tuple #[zSp, .int .i64 0, .int .i64 1])) w' :=
  .inl ⟨1, by unfold takeE; rw [if_pos h], by decide, rfl, hb⟩
theorem take_other {s : Int} {nw : Nat} {wd : Nat → Int} {n : Nat} {F : Nat → Fr} {o b : Int} {w w' : World} (h : (validB s nw wd n F && okO o && okB b) = true) (h2 : anyB F o (b * 4294967296 + o) n = true) (hb : Below w.heap.size w w') :
    TakeOut s nw wd n F o b w (.returned (.tuple #[zSp, .int .i64 0, .int .i64 5])) w' :=
  .inl ⟨5, by unfold takeE; rw [if_neg (by rw [h]; decide), if_pos h2], by decide, rfl, hb⟩
theorem take_full {s : Int} {nw : Nat} {wd : Nat → Int} {n : Nat} {F : Nat → Fr} {o b : Int} {w w' : World} (h : (validB s nw wd n F && okO o && okB b) = true) (h2 : anyB F o (b * 4294967296 + o) n = false) (h3 : cntP (owB F (-1)) n = 0) (hb : Below w.heap.size w w') :
    TakeOut s nw wd n F o b w (.returned (.tuple #[zSp, .int .i64 0, .int .i64 4])) w' :=
  .inl ⟨4, by unfold takeE; rw [if_neg (by rw [h]; decide), if_neg (by rw [h2]; decide), if_pos h3], by decide, rfl, hb⟩

theorem take_ok {s : Int} {nw : Nat} {wd : Nat → Int} {n : Nat} {F : Nat → Fr} {o b : Int} (h : (validB s nw wd n F && okO o && okB b) = true) (h2 : anyB F o (b * 4294967296 + o) n = false) (h3 : cntP (owB F (-1)) n ≠ 0) :
    takeE s nw wd n F o b = 0 := by unfold takeE; rw [if_neg (by rw [h]; decide), if_neg (by rw [h2]; decide), if_neg h3]
/-- Words and frames never share a block. -/
theorem own_setT {w : World} {base base' nw c n c2 g i j k : Nat} {A : Option Addr} {wd : Nat → Int} {F : Nat → Fr} (h : Own w base A nw c wd) (hT : OwnT w base' (some ⟨g, 0, none⟩) n c2 F) (u v x : Value) :
    Own (((w.setCell ⟨g, i, none⟩ u).setCell ⟨g, j, none⟩ v).setCell ⟨g, k, none⟩ x) base A nw c wd := by
  obtain ⟨h1, h2, ⟨rfl, h3⟩ | ⟨y, cur, rfl, hb, hy, hs⟩⟩ := h
  · exact ⟨h1, h2, .inl ⟨rfl, h3⟩⟩
  · have hne : y ≠ g := by
      obtain ⟨_, _, ⟨h4, _⟩ | ⟨g', cur', hA, _, hg, _⟩⟩ := hT
      · cases h4
      · injection hA with hA
        injection hA with hA
        subst hA
        intro e
        subst e
        rw [hy] at hg
        injection hg with hg
        injection hg with _ hg _
        revert hg
        decide
    exact Own.apart3 ⟨h1, h2, .inr ⟨y, cur, rfl, hb, hy, hs⟩⟩ hne u v x
theorem setP_empty {p : Nat → Bool} {n : Nat} (h : cntP p n = 0) : setP p n = 0 := setP_none (fun j hj => by
  cases e : p j
  · rfl
  · have h1 : cntP p (j + 1) ≤ cntP p n := cntP_mono p (by omega)
    simp only [cntP, e, if_true] at h1
    omega)
theorem least_of {F : Nat → Fr} {n : Nat} (hn : n ≤ 64) (h : cntP (owB F (-1)) n ≠ 0) : ∃ f, Least F n f ∧ Lib.ctz 64 (setP (owB F (-1)) n) = f ∧ setP (owB F (-1)) n ≠ 0 := by
  have h0 : setP (owB F (-1)) n ≠ 0 := fun e => h (cntP_none (setP_zero e))
  have e0 : setP (fromP (owB F (-1)) 0) n = setP (owB F (-1)) n := setP_congr (fun j _ => by simp [fromP])
  obtain ⟨i, h1, h2, h3, h4⟩ := lowest (owB F (-1)) (t := 0) (n := n) (by rw [e0]; exact h0)
  obtain ⟨y, e1, e2⟩ := setP_split (owB F (-1)) h1 h3 h4 h2
  refine ⟨i, ⟨h2, of_decide_eq_true h3, fun j hj => of_decide_eq_false (h4 j (by omega) hj)⟩, ?_, h0⟩
  rw [← e0, e1]
  exact ctz_pow i y (by omega)

theorem take_bounds {s : Int} {nw : Nat} {wd : Nat → Int} {n : Nat} {F : Nat → Fr} (h : ValidP s nw wd n F) : 0 < n ∧ n ≤ 64 ∧ 0 < nw ∧ nw ≤ 16384 := by
  have h1 := shB_yes h.1
  have h2 := nfB_yes h.2.1
  have h3 := h.2.2.1
  have h4 : nw ≤ 16384 := by rw [h3]; exact prod_le (by omega) (by omega)
  have h5 : 0 < nw := by rw [h3]; exact Nat.mul_pos (by omega) (Nat.pow_pos (by decide))
  exact ⟨by omega, by omega, h5, h4⟩

end Go.Proofs.Ytpbcpobbjoopnaa
