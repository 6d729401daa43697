/-
  Complete and Cap of package config.
-/
import Derived.Test.YtnoeefbipdpeaaaCChk
namespace Go.Proofs.Ytnoeefbipdpeaaa
open Go.RowKit
set_option maxRecDepth 100000
set_option linter.unusedVariables false

theorem chk_last {s : ByteArray} {R : List Rl} {f : Int} (h : chk s R f = 0) : 0 < R.length ∧ lastS R ≤ 4607182418800017408 := by
  obtain ⟨_, h1, _, h2, _⟩ := chk_ok h
  exact ⟨h1, lastS_ok h1 h2⟩

theorem cap_no {s : ByteArray} {R : List Rl} {f b n : Int} (h : ¬ (chk s R f = 0 ∧ 0 ≤ b ∧ b < R.length)) : capK s R f b n = 0 ∧ capE s R f b n = 1 := by
  unfold capK capE
  rw [if_neg h, if_neg h]
  exact ⟨rfl, rfl⟩
theorem cap_yes {s : ByteArray} {R : List Rl} {f n : Int} {k : Nat} {r : Rl} (h : chk s R f = 0) (hr : R[k]? = some r) : capK s R f k n = Sh.frK r.s n ∧ capE s R f k n = Sh.frE r.s n := by
  have hk := gt_lt hr
  unfold capK capE
  rw [if_pos ⟨h, by omega, by omega⟩, if_pos ⟨h, by omega, by omega⟩, Int.toNat_natCast, hr]
  exact ⟨rfl, rfl⟩

end Go.Proofs.Ytnoeefbipdpeaaa
