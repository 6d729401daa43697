/-
  Contracts of package frame: sizes, addresses, pairs.
-/
import Derived.Test.YtpjhgdgdckndeaaDoorMem
import Derived.WalkKit
import Derived.WalkLawsBesides
import Derived.Deep.QuietTactic
import Derived.BigQuiet
import Derived.Deep.RegionHeld3
import Derived.Outline
import Derived.LoopTactic
import Derived.Lib.Hide
namespace Go.Proofs.YtpjhgdgdckndeaaDoor
open Go.RowKit
set_option linter.unusedVariables false

theorem ret_i64 {a b : Int} (h : a = b) : Ending.returned (.int .i64 a) = Ending.returned (.int .i64 b) := by rw [h]
theorem ret_bool {a b : Bool} (h : a = b) : Ending.returned (.bool a) = Ending.returned (.bool b) := by rw [h]

theorem isShift_any (s : Int) (w : World) :
    Calls Tryd.prog 45 #[.int .i64 s] w fun e w' => e = .returned (.bool (shB s)) ∧ w = w' := by
  by_cases h1 : 3 ≤ s
  · by_cases h2 : s ≤ 8
    · go_enter Tryd.func45, Tryd.ntmps45
      go_wp2
      go_ret
      exact ⟨ret_bool (by simp [shB]; omega), rfl⟩
    · go_enter Tryd.func45, Tryd.ntmps45
      go_wp2
      go_ret
      exact ⟨ret_bool (by simp [shB]; omega), rfl⟩
  · go_enter Tryd.func45, Tryd.ntmps45
    go_wp2
    go_ret
    exact ⟨ret_bool (by simp [shB]; omega), rfl⟩

theorem pw_pos (k : Nat) : 0 < (2 : Int) ^ k := Int.pow_pos (by decide)
theorem pw_bd {k : Nat} (h : k ≤ 8) : (2 : Int) ^ k ≤ 256 := by
  rcases k with _|_|_|_|_|_|_|_|_|k
  all_goals first | decide | omega

/-- Whether a space has numbers: a permitted shift and at most 64 frames. -/
def numB (s : Int) (n : Nat) : Bool := shB s && decide (n ≤ 64)

theorem isFrame_any (A : Option Addr) (n c : Nat) (f : Int) (w : World) :
    Calls Tryd.prog 60 #[.slice A n c, .int .i64 f] w fun e w' => e = .returned (.bool (inB n f)) ∧ w = w' := by
  by_cases h1 : 0 ≤ f
  · by_cases h2 : f < (n : Int)
    · go_enter Tryd.func60, Tryd.ntmps60
      go_wp2
      go_ret
      exact ⟨ret_bool (by simp [inB, h1, h2]), rfl⟩
    · go_enter Tryd.func60, Tryd.ntmps60
      go_wp2
      go_ret
      exact ⟨ret_bool (by simp [inB]; omega), rfl⟩
  · go_enter Tryd.func60, Tryd.ntmps60
    go_wp2
    go_ret
    exact ⟨ret_bool (by simp [inB]; omega), rfl⟩
end Go.Proofs.YtpjhgdgdckndeaaDoor
