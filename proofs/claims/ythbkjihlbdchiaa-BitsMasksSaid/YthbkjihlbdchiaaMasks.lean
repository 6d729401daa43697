/-
  BitsMasks: for every v and width the law about masks returns true. No conditions.
-/
import Derived.Test.YthbkjihlbdchiaaRows
import Derived.Test.YthbkjihlbdchiaaWalks
import Derived.WalkKit
import Derived.WalkLawsBesides
import Derived.Laws.Shifts
import Derived.LoopTactic
import Derived.Lib.Hide
import Derived.ProofKit
import Derived.OpenShut
namespace Go.Proofs.Ythbkjihlbdchiaa
set_option linter.unusedVariables false
open Go.ChangeShapes Go.WideShapes Go.ChangeAt Go.RowKit

/-- the same memory, behind draws -/
def Drawn (W w : World) : Prop := ∃ n, w = W.drewN n
theorem Drawn.refl (W : World) : Drawn W W := ⟨0, rfl⟩
theorem Drawn.more {W w : World} (h : Drawn W w) (n : Nat) : Drawn W (w.drewN n) := by
  obtain ⟨m, rfl⟩ := h; exact ⟨m + n, World.drewN_drewN _ _ _⟩
theorem Drawn.cell {W w : World} (h : Drawn W w) {a : Addr} {v : Value} (c : W.cell? a = some v) : w.cell? a = some v := by
  obtain ⟨m, rfl⟩ := h; exact c
theorem Drawn.grown {W w V : World} (h : Drawn W w) (g : Grown V W) : Grown V w := by
  obtain ⟨m, rfl⟩ := h; exact g

theorem awake_any (w : World) :
    Calls Try.prog 14 #[] w fun e w' => e = .returned (.bool true) ∧ w = w' := by
  have e1 : putZ 255 4 8 0 = 15 := by decide
  have e2 : fitsB 0 8 = true := by decide
  have e3 : ceilZ 17 3 = 3 := by decide
  go_enter Try.func14, Try.ntmps14
  go_wp2_with (first | (go_at_call 17; refine (put_yes _ _ _ _ (by omega) (by omega) (by omega) e2 _).mono ?_; rintro e w' ⟨rfl, rfl⟩) | (go_at_call 21; refine (ceil_any _ _ _).mono ?_; rintro e w' ⟨rfl, rfl⟩))
  go_ret
  exact ⟨ret_bool rfl, rfl⟩

theorem walkMasks (a0 : Int) (a1 : Int) (w0 : (Lit.int .u64 a0).wf = true) (w1 : (Lit.int .i64 a1).wf = true) (w : World) :
    Calls Try.prog 3 #[.int .u64 a0, .int .i64 a1] w fun e w' => e = .returned (.bool true) ∧ Grown w w' := by
  obtain ⟨l1, u1⟩ := bounds_i64 w1
  have m1 := Int.emod_nonneg a1 (show (70 : Int) ≠ 0 by decide)
  have m2 := Int.emod_lt_of_pos a1 (show (0 : Int) < 70 by decide)
  have m3 := Int.emod_nonneg a1 (show (64 : Int) ≠ 0 by decide)
  have m4 := Int.emod_lt_of_pos a1 (show (0 : Int) < 64 by decide)
  go_enter Try.func3, Try.ntmps3
  go_wp2_with (go_at_call 9; refine (mod_any _ _ (by omega) (by omega) l1 u1 _).mono ?_; rintro e w' ⟨rfl, rfl⟩)
  go_loop [13] (fun i => ∃ j : Nat, j ≤ 2 ∧ i = .int .i64 j) (fun i => 2 - (intOf i).toNat)
  case atStart => exact ⟨0, Nat.zero_le _, rfl⟩
  case round =>
    obtain ⟨j, hj, rfl⟩ := hrel
    have hj' : j = 0 ∨ j = 1 ∨ j = 2 := by omega
    rcases hj' with rfl | rfl | rfl
    · go_wp2_with (first | (go_at_call 9; refine (mod_any _ _ (by omega) (by omega) l1 u1 _).mono ?_; rintro e w' ⟨rfl, rfl⟩) | (go_at_call 10; refine (mask_any _ (by omega) (by omega) _).mono ?_; rintro e w' ⟨rfl, rfl⟩) | (go_at_call 11; refine (refMask_any _ (by omega) (by omega) _).mono ?_; rintro e w' ⟨rfl, rfl⟩) | (go_at_call 12; refine (fits_any _ _ (by omega) (by omega) _).mono ?_; rintro e w' ⟨rfl, rfl⟩) | (go_at_call 13; refine (refFits_any _ _ (by omega) (by omega) _).mono ?_; rintro e w' ⟨rfl, rfl⟩))
      go_round
      case rel => exact ⟨1, by omega, rfl⟩
      case measure => simp [intOf]
    · go_wp2_with (first | (go_at_call 9; refine (mod_any _ _ (by omega) (by omega) l1 u1 _).mono ?_; rintro e w' ⟨rfl, rfl⟩) | (go_at_call 10; refine (mask_any _ (by omega) (by omega) _).mono ?_; rintro e w' ⟨rfl, rfl⟩) | (go_at_call 11; refine (refMask_any _ (by omega) (by omega) _).mono ?_; rintro e w' ⟨rfl, rfl⟩) | (go_at_call 12; refine (fits_any _ _ (by omega) (by omega) _).mono ?_; rintro e w' ⟨rfl, rfl⟩) | (go_at_call 13; refine (refFits_any _ _ (by omega) (by omega) _).mono ?_; rintro e w' ⟨rfl, rfl⟩))
      go_round
      case rel => exact ⟨2, by omega, rfl⟩
      case measure => simp [intOf]
    · go_wp2_with (go_at_call 14; refine (awake_any _).mono ?_; rintro e w' ⟨rfl, rfl⟩)
      go_ret
      exact ⟨rfl, (Grown.refl _).alloc _ _⟩
end Go.Proofs.Ythbkjihlbdchiaa
