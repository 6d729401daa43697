/-
  Drop of package bump and of the reference of layer 9 for every raw space and every increment; what Alloc leaves; the laws' own pick, twisted, awake. (Made by mkdrp-s9.py.)
-/
import Derived.Test.YthcfcciemjkilaaBal
import Derived.Test.YthcfcciemjkilaaMWords
import Derived.Deep.RegionWith
import Derived.Deep.CutBlock
import Derived.Deep.RegionHeld3
import Derived.Deep.DeepCutAuto
namespace Go.Proofs.Ythcfcciemjkilaa
open Go.RowKit
set_option maxRecDepth 100000
set_option linter.unusedVariables false

/-- The error of Drop. -/
noncomputable def drpE (s : Int) (nw : Nat) (wd : Nat → Int) (n : Nat) (F : Nat → Fr) (sq bt fi la wo : Int) : Int :=
  if incB s nw wd n F sq bt fi la wo = false then 1 else if wo = 0 then 5 else giveE s nw wd n F sq
/-- What Drop answers. -/
def DropX (s : Int) (nw : Nat) (wd : Nat → Int) (n : Nat) (F : Nat → Fr) (sq bt fi la wo : Int) (w : World) (e : Ending) (w' : World) : Prop :=
  (∃ x : Int, drpE s nw wd n F sq bt fi la wo = x ∧ x ≠ 0 ∧ e = .returned (.tuple #[zSp9, .int .i64 x]) ∧ Below w.heap.size w w') ∨
  (drpE s nw wd n F sq bt fi la wo = 0 ∧ ∃ (A1 : Option Addr) (c1 g c2 : Nat), e = .returned (.tuple #[.agg #[.int .i64 s, .slice A1 nw c1, .slice (some ⟨g, 0, none⟩) n c2], .int .i64 0]) ∧
    Own w' w.heap.size A1 nw c1 (giveW wd F sq s.toNat n) ∧ OwnT w' w.heap.size (some ⟨g, 0, none⟩) n c2 (giveF F sq n) ∧ Below w.heap.size w w')
section
variable {s : Int} {nw n : Nat} {wd : Nat → Int} {F : Nat → Fr} {sq bt fi la wo : Int} {w w' : World}
theorem drop_bad (h : incB s nw wd n F sq bt fi la wo = false) (hb : Below w.heap.size w w') : DropX s nw wd n F sq bt fi la wo w (.returned (.tuple #[zSp9, .int .i64 1])) w' :=
  .inl ⟨1, by unfold drpE; rw [if_pos h], by decide, rfl, hb⟩
theorem drop_none (h : incB s nw wd n F sq bt fi la wo = true) (h0 : wo = 0) (hb : Below w.heap.size w w') : DropX s nw wd n F sq bt fi la wo w (.returned (.tuple #[zSp9, .int .i64 5])) w' :=
  .inl ⟨5, by unfold drpE; rw [if_neg (by rw [h]; decide), if_pos h0], by decide, rfl, hb⟩
theorem drpE_give (h : incB s nw wd n F sq bt fi la wo = true) (h0 : wo ≠ 0) : drpE s nw wd n F sq bt fi la wo = giveE s nw wd n F sq := by
  unfold drpE; rw [if_neg (by rw [h]; decide), if_neg h0]
end

/-- Some increment, and nothing that was there has turned. -/
def SomeInc (w : World) (e : Ending) (w' : World) : Prop := ∃ j0 j1 j2 j3 j4 : Int, e = .returned (.agg #[.int .i64 j0, .int .i64 j1, .int .i64 j2, .int .i64 j3, .int .i64 j4]) ∧ Below w.heap.size w w'

/-- What is known where Alloc gives a space. -/
theorem allE_zero {k nw n : Nat} {wd : Nat → Int} {F : Nat → Fr} {sq bt fi la wo d : Int} (h : allE k nw wd n F sq bt fi la wo d = 0) : incB k nw wd n F sq bt fi la wo = true ∧ 1 ≤ d ∧ d ≤ 48 ∧ ¬ (wo = 0 ∧ 0 < cntO F sq n) ∧ moreK k wo.toNat d.toNat ≤ freeN F n := by
  unfold allE at h
  rw [Int.toNat_natCast] at h
  split at h
  · cases h
  · rename_i h1
    split at h
    · cases h
    · rename_i h2
      split at h
      · cases h
      · rename_i h3
        refine ⟨?_, by omega, by omega, h2, by omega⟩
        cases e : incB k nw wd n F sq bt fi la wo
        · exact absurd (.inl e) h1
        · rfl
/-- Behind Alloc the space is valid, and the increment fits it. -/
theorem all_valid {k nw n : Nat} {wd : Nat → Int} {F : Nat → Fr} {sq bt fi la wo d : Int} (h : allE k nw wd n F sq bt fi la wo d = 0) :
    ∃ W D : Nat, wo = W ∧ d = D ∧ 1 ≤ D ∧ D ≤ 48 ∧ ValidP k nw wd n F ∧ ValidP k nw wd n (allG k n F sq bt fi la wo d).F ∧ FitsQ k n nw (allG k n F sq bt fi la wo d).F sq bt (allG k n F sq bt fi la wo d).fi (allG k n F sq bt fi la wo d).la ((W + D : Nat) : Int) ∧
      Grown_ F n k sq (bt * 4294967296 + sq) (ceilV W k) (ceilV (W + D) k) (allG k n F sq bt fi la wo d).fi (allG k n F sq bt fi la wo d).la (allG k n F sq bt fi la wo d).F := by
  obtain ⟨hi, h1, h2, h3, h4⟩ := allE_zero h
  obtain ⟨D, rfl⟩ : ∃ D : Nat, d = D := ⟨d.toNat, by omega⟩
  rw [Int.toNat_natCast] at h4
  obtain ⟨W, rfl, hg⟩ := allG_grown hi h4
  obtain ⟨hv, hfq⟩ := incB_yes hi
  rw [Int.toNat_natCast] at hfq
  have hvN : ValidP k nw wd n (allG k n F sq bt fi la W D).F := ValidP.mk_ hv.1 hv.2.1 hv.2.2.1 hg.1 (hv.zr.mono (fun f _ h => hg.2.2.1 f h))
  have hcnt : cntO F sq n = ceilV W k := by
    rcases Nat.eq_zero_or_pos W with h0 | h0
    · subst h0
      rw [ceilV_zero]
      rcases Nat.eq_zero_or_pos (cntO F sq n) with h5 | h5
      · exact h5
      · exact absurd ⟨rfl, h5⟩ h3
    · have := hfq.2 (by omega)
      rw [Int.toNat_natCast] at this
      omega
  have hcn := hg.2.2.2.2.2
  have hnew : cntO (allG k n F sq bt fi la W D).F sq n = ceilV (W + D) k := by omega
  have hle := cntO_le (allG k n F sq bt fi la W D).F sq n
  have hcov := ceilV_cover (W + D) k
  have hnw : nw = n * 2 ^ k := by have := hv.2.2.1; rw [Int.toNat_natCast] at this; exact this
  have hmul : ceilV (W + D) k * 2 ^ k ≤ n * 2 ^ k := Nat.mul_le_mul_right _ (by omega)
  obtain ⟨⟨f1, f2, f3, f4, _⟩, _⟩ := hfq
  exact ⟨W, D, rfl, rfl, by omega, by omega, hv, hvN, ⟨⟨f1, f2, f3, f4, W + D, rfl, by omega, hg.2.1, fun h => by omega⟩, fun _ => by rw [Int.toNat_natCast, hnew]⟩, hg⟩
/-- An increment without words fits every space. -/
theorem fits_new {k n nw : Nat} {F : Nat → Fr} {sq bt : Int} (h0 : 0 ≤ sq) (h1 : sq ≤ 4294967295) (h2 : 0 ≤ bt) (h3 : bt < 4) : FitsQ k n nw F sq bt (-1) (-1) 0 :=
  ⟨⟨h0, h1, h2, h3, 0, rfl, by omega, .inl ⟨ceilV_zero k, rfl⟩, fun _ => ⟨rfl, rfl⟩⟩, fun h => by omega⟩
end Go.Proofs.Ythcfcciemjkilaa
