/-
  What is true of each preset: it is valid, may be printed, and is complete but for two.
-/
import Derived.Test.YtnoeefbipdpeaaaPAwk
import Derived.Test.YtnoeefbipdpeaaaCRcp
namespace Go.Proofs.Ytnoeefbipdpeaaa
open Go.RowKit
set_option maxRecDepth 100000
set_option linter.unusedVariables false

theorem okP_share {p : Int} (h : okP p) : ∃ k : Nat, k ≤ 100 ∧ Sh.pcF p = Sh.pctF k ∧ 0 < Sh.pctF k ∧ Sh.pctF k ≤ 4607182418800017408 := by
  obtain ⟨h1, h2⟩ := h
  obtain ⟨k, rfl⟩ := Int.eq_ofNat_of_zero_le (show 0 ≤ p by omega)
  have := pct_share_all ⟨k, by omega⟩ (by show 1 ≤ k; omega)
  refine ⟨k, by omega, ?_, this⟩
  unfold Sh.pcF
  rw [if_pos (by omega), Int.toNat_natCast]
theorem pre_chk {i : Nat} (hi : i < 6) {p : Int} (hp : okP p) : chk (preN i) (preR (Sh.pcF p) i) (preF i) = 0 := by
  obtain ⟨k, _, e, h1, h2⟩ := okP_share hp
  rw [e]
  refine pre_ok hi h1 h2 ?_
  rcases (by omega : i = 0 ∨ i = 1 ∨ i = 2 ∨ i = 3 ∨ i = 4 ∨ i = 5) with rfl | rfl | rfl | rfl | rfl | rfl <;> simp [preF]
theorem pre_wf {i : Nat} (hi : i < 6) {p : Int} (hp : okP p) : WfR (preR (Sh.pcF p) i) := wf_of_rules fun j r h => (chk_ok (pre_chk hi hp)).2.2.2.1 j r h
def preS (k : Nat) : Nat → List Pr
  | 0 => [⟨0, 0, 0, 0⟩]
  | 1 => [⟨0, 0, 0, 1⟩, ⟨0, 0, 0, 1⟩]
  | 2 => [⟨k, 1, 0, 1⟩, ⟨0, 0, 0, 1⟩]
  | 3 => [⟨k, 0, 1, 0⟩]
  | 4 => [⟨k, 0, 1, 1⟩, ⟨k, 0, 1, 1⟩]
  | _ => [⟨k, 0, 1, 1⟩, ⟨k, 0, 1, 2⟩, ⟨0, 0, 0, 2⟩]
theorem pre_mk (k : Nat) {i : Nat} (hi : i < 6) : preR (Sh.pctF k) i = mkR (preS k i) := by
  rcases (by omega : i = 0 ∨ i = 1 ∨ i = 2 ∨ i = 3 ∨ i = 4 ∨ i = 5) with rfl | rfl | rfl | rfl | rfl | rfl <;> simp [preR, preS, mkR, pct_zero]
theorem pre_prOk {k : Nat} (hk : k ≤ 100) {i : Nat} (hi : i < 6) : ∀ r ∈ preS k i, PrOk r := by
  rcases (by omega : i = 0 ∨ i = 1 ∨ i = 2 ∨ i = 3 ∨ i = 4 ∨ i = 5) with rfl | rfl | rfl | rfl | rfl | rfl <;> simp [preS, PrOk, hk]
theorem pre_prt {i : Nat} (hi : i < 6) {p : Int} (hp : okP p) : prtE (preN i) (preR (Sh.pcF p) i) (preF i) = 0 ∧ 0 < (prtL (preN i) (preR (Sh.pcF p) i) (preF i)).length := by
  have hc := pre_chk hi hp
  obtain ⟨k, hk, e, h1, h2⟩ := okP_share hp
  rw [e] at hc ⊢
  unfold prtE prtL
  rw [if_pos hc, if_pos hc, pre_mk k hi, prR_mkR (pre_prOk hk hi)]
  refine ⟨rfl, ?_⟩
  simp only [textL, List.length_append, tFull]
  simp
  omega
theorem pre_cpl {i : Nat} (hi : i < 6) {p : Int} (hp : okP p) : cplB (preN i) (preR (Sh.pcF p) i) (preF i) = decide (i ≠ 3 ∧ i ≠ 4) := by
  have hc := pre_chk hi hp
  obtain ⟨k, hk, e, h1, h2⟩ := okP_share hp
  unfold cplB
  rw [hc, e]
  generalize Sh.pctF k = x at *
  rcases (by omega : i = 0 ∨ i = 1 ∨ i = 2 ∨ i = 3 ∨ i = 4 ∨ i = 5) with rfl | rfl | rfl | rfl | rfl | rfl <;> simp [lastS, preR] <;> omega
end Go.Proofs.Ytnoeefbipdpeaaa
