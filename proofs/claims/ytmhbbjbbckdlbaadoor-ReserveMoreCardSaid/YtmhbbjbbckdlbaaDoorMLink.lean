/-
  Merged: Canf, Lnk, Rlnk.
-/
import Derived.Test.YtmhbbjbbckdlbaaDoorMAw5
import Derived.Test.YtmhbbjbbckdlbaaDoorMPool
import Derived.Deep.RegionHeld3
import Derived.Deep.DeepCutAuto
import Derived.RegionTactic
namespace Go.Proofs.YtmhbbjbbckdlbaaDoor
open Go.RowKit
set_option maxRecDepth 100000
set_option linter.unusedVariables false

section
variable {F : Nat → Fr} {n l f : Nat}
theorem lnkB_of1 (h : (F l).ow = -1) : lnkB F n l f = true := by simp [lnkB, h]
theorem lnkB_of2 (h : (F l).st ≠ (F f).st) : lnkB F n l f = true := by simp [lnkB, h]
theorem lnkB_of3 (h : (F l).nx ≠ -1) : lnkB F n l f = true := by simp [lnkB, h]
theorem lnkB_of4 (h : fol F n f = true) : lnkB F n l f = true := by simp [lnkB, h]
theorem lnkB_rest (h1 : (F l).ow ≠ -1) (h2 : (F l).st = (F f).st) (h3 : (F l).nx = -1) (h4 : fol F n f = false) : lnkB F n l f = decide (l ∈ chL F n f) := by
  simp [lnkB, h1, h2, h3, h4]
end

end Go.Proofs.YtmhbbjbbckdlbaaDoor

namespace Go.Proofs.YtmhbbjbbckdlbaaDoor
open Go.RowKit
set_option maxRecDepth 100000
set_option linter.unusedVariables false

def LnkOut (s : Int) (nw : Nat) (wd : Nat → Int) (n : Nat) (F : Nat → Fr) (last f : Int) (w : World) (e : Ending) (w' : World) : Prop :=
  (∃ x : Int, lnkE s nw wd n F last f = x ∧ x ≠ 0 ∧ e = .returned (.tuple #[zSp, .int .i64 x]) ∧ Below w.heap.size w w') ∨
  (lnkE s nw wd n F last f = 0 ∧ ∃ (A1 : Option Addr) (c1 g c2 : Nat), e = .returned (.tuple #[.agg #[.int .i64 s, .slice A1 nw c1, .slice (some ⟨g, 0, none⟩) n c2], .int .i64 0]) ∧
    Own w' w.heap.size A1 nw c1 wd ∧ OwnT w' w.heap.size (some ⟨g, 0, none⟩) n c2 (link F last.toNat f) ∧ Below w.heap.size w w')
section
variable {s : Int} {nw : Nat} {wd : Nat → Int} {n : Nat} {F : Nat → Fr} {last f : Int} {w w' : World}
theorem lnk_bad (h : validB s nw wd n F = false) (hb : Below w.heap.size w w') : LnkOut s nw wd n F last f w (.returned (.tuple #[zSp, .int .i64 1])) w' :=
  .inl ⟨1, by unfold lnkE; rw [if_pos h], by decide, rfl, hb⟩
theorem lnk_out (h : validB s nw wd n F = true) (h2 : inB n last = false ∨ inB n f = false) (hb : Below w.heap.size w w') : LnkOut s nw wd n F last f w (.returned (.tuple #[zSp, .int .i64 2])) w' :=
  .inl ⟨2, by unfold lnkE; rw [if_neg (by simp [h]), if_pos h2], by decide, rfl, hb⟩
theorem lnk_state {l g : Nat} (h : validB s nw wd n F = true) (hl : l < n) (hg : g < n) (h2 : lnkB F n l g = true) (hb : Below w.heap.size w w') : LnkOut s nw wd n F l g w (.returned (.tuple #[zSp, .int .i64 5])) w' :=
  .inl ⟨5, by unfold lnkE; rw [if_neg (by simp [h]), if_neg (by simp [inB]; omega), Int.toNat_natCast, Int.toNat_natCast, if_pos h2], by decide, rfl, hb⟩
theorem lnk_ok {l g : Nat} (h : validB s nw wd n F = true) (hl : l < n) (hg : g < n) (h2 : lnkB F n l g = false) : lnkE s nw wd n F l g = 0 := by
  unfold lnkE; rw [if_neg (by simp [h]), if_neg (by simp [inB]; omega), Int.toNat_natCast, Int.toNat_natCast, if_neg (by rw [h2]; decide)]
end
theorem link_set {F : Nat → Fr} {l : Nat} {f : Int} : (fun j => if j = l then (⟨(F l).ow, (F l).st, f⟩ : Fr) else F j) = link F l f := rfl

end Go.Proofs.YtmhbbjbbckdlbaaDoor

namespace Go.Proofs.YtmhbbjbbckdlbaaDoor
open Go.RowKit
set_option maxRecDepth 100000
set_option linter.unusedVariables false

section
variable {F : Nat → Fr} {n : Nat}
theorem path_snoc : ∀ (q : Nat) (f : Int), (∀ i, i ≤ q → iter F i f ≠ -1) → path F (q + 1) f = path F q f ++ [(iter F q f).toNat]
  | 0, f, h => by
    have e : f ≠ -1 := by simpa only [iter] using h 0 (Nat.le_refl _)
    simp only [path, if_neg e, List.nil_append, iter]
  | q + 1, f, h => by
    have e : f ≠ -1 := by simpa only [iter] using h 0 (by omega)
    have ih := path_snoc q (F f.toNat).nx (fun i hi => by simpa only [iter, if_neg e] using h (i + 1) (by omega))
    rw [show path F (q + 1 + 1) f = f.toNat :: path F (q + 1) (F f.toNat).nx by simp only [path, if_neg e], ih]
    simp only [path, if_neg e, List.cons_append, iter]
theorem path_stop : ∀ (m M : Nat) (f : Int), m ≤ M → LenP F f m → path F M f = path F m f
  | 0, M, f, _, h => by
    have e : f = -1 := by simpa only [iter] using h.1
    subst e
    rw [path_none, path_none]
  | m + 1, 0, f, hm, _ => absurd hm (by omega)
  | m + 1, M + 1, f, hm, h => by
    have e : f ≠ -1 := by simpa only [iter] using h.2 0 (by omega)
    have ih := path_stop m M (F f.toNat).nx (by omega) ⟨by simpa only [iter, if_neg e] using h.1, fun i hi => by simpa only [iter, if_neg e] using h.2 (i + 1) (by omega)⟩
    simp only [path, if_neg e, ih]
/-- What the reference looks at first. -/
def bad0 (F : Nat → Fr) (l f : Nat) : Bool := (((((F l).ow == -1) || ((F f).ow == -1)) || ((F l).st != (F f).st)) || ((F l).nx != -1)) || ((f : Int) == (l : Int))
theorem bad0_all {l f : Nat} (h : FV F n) (hl : l < n) (hf : f < n) : (bad0 F l f || fol F n f || decide (l ∈ chL F n f)) = lnkB F n l f := by
  by_cases h1 : (F l).ow = -1
  · rw [lnkB_of1 h1]; simp [bad0, h1]
  · by_cases h2 : (F l).st = (F f).st
    · by_cases h3 : (F l).nx = -1
      · cases h4 : fol F n f with
        | true => rw [lnkB_of4 h4]; simp
        | false =>
          rw [lnkB_rest h1 h2 h3 h4]
          have h5 : (F f).ow ≠ -1 := by
            intro e
            have h6 := h.free hf e
            have h7 := stB_yes (ownB_yes (h.own hl h1)).1
            rw [h2, h6] at h7
            have : (frFree.st : Int) = -1 := rfl
            omega
          by_cases h8 : f = l
          · have h9 : l ∈ chL F n f := by
              rw [mem_chL h hf]
              exact ⟨0, by omega, by simp only [iter]; omega⟩
            simp [h9]
          · simp [bad0, h1, h2, h3, h5]
            omega
      · rw [lnkB_of3 h3]; simp [bad0, h3]
    · rw [lnkB_of2 h2]; simp [bad0, h2]
end

theorem lenP_inj {F : Nat → Fr} {p : Int} {m i j : Nat} (h : LenP F p m) (hij : i < j) (hj : j < m) : iter F i p ≠ iter F j p := by
  intro e
  have h1 : iter F (j + (m - j)) p = -1 := by rw [show j + (m - j) = m by omega]; exact h.1
  rw [iter_add, ← e, ← iter_add] at h1
  exact h.2 (i + (m - j)) (by omega) h1
theorem own_set1 {w : World} {base base' nw c n c2 g i : Nat} {A : Option Addr} {wd : Nat → Int} {F : Nat → Fr} (h : Own w base A nw c wd) (hT : OwnT w base' (some ⟨g, 0, none⟩) n c2 F) (u : Value) : Own (w.setCell ⟨g, i, none⟩ u) base A nw c wd := by
  rcases A with _ | y
  · obtain ⟨h2, h3, h4 | ⟨_, _, h4, _⟩⟩ := h
    · exact ⟨h2, h3, .inl h4⟩
    · cases h4
  · obtain ⟨h2, h3, h4 | ⟨x, cur, h4, h5⟩⟩ := h
    · cases h4.1
    · injection h4 with h4
      subst h4
      exact Own.apart (p := ⟨g, i, none⟩) ⟨h2, h3, .inr ⟨x, cur, rfl, h5⟩⟩ (own_apart ⟨h2, h3, .inr ⟨x, cur, rfl, h5⟩⟩ hT) _
/-- How many frames of a chain of m frames are still to come. -/
noncomputable def leftP (F : Nat → Fr) (n p m : Nat) (g : Int) : Nat := if g = -1 then 0 else m - (chL F n p).idxOf g.toNat
theorem leftP_end {F : Nat → Fr} {n p m : Nat} : leftP F n p m (-1) = 0 := if_pos rfl
theorem leftP_at {F : Nat → Fr} {n p m q : Nat} (h : FV F n) (hp : p < n) (hl : LenP F p m) (hq : q < m) : leftP F n p m (iter F q p) = m - q := by
  have h1 := h.nonneg hp (hl.2 q hq)
  have h2 := chL_index h hp hl hq (x := (iter F q p).toNat) (by omega) (fun i hi => by
    have h3 := lenP_inj hl hi hq
    omega)
  unfold leftP
  rw [if_neg (by omega), h2]

/-- Two boxes of frames, apart. -/
def TwoFr (R : World) (x y : Fr) (v u : Value) (W : World) : Prop := ∃ a b : Nat, v = .pointer (some ⟨a, 0, none⟩) ∧ u = .pointer (some ⟨b, 0, none⟩) ∧ Blk W a 82 #[.int .i64 x.ow, .int .i64 x.st, .int .i64 x.nx] ∧ Blk W b 82 #[.int .i64 y.ow, .int .i64 y.st, .int .i64 y.nx] ∧ Below R.heap.size R W

end Go.Proofs.YtmhbbjbbckdlbaaDoor
