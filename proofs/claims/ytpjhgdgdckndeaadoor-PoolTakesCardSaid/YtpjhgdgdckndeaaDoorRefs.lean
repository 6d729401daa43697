/-
  Contracts of the reference of layer 3: sizes, addresses, pairs.
-/
import Derived.Test.YtpjhgdgdckndeaaDoorUn
namespace Go.Proofs.YtpjhgdgdckndeaaDoor
open Go.RowKit
set_option linter.unusedVariables false

theorem and_low' (a : Int) (k : Nat) (h0 : 0 ≤ a) (h1 : a ≤ 9223372036854775807) (hk : k ≤ 8) : bits .and .i64 a (2 ^ k - 1) = a % 2 ^ k := by
  have h := and_low a k h0 h1 hk
  have p0 := pw_pos k
  have p1 := pw_bd hk
  rw [IntWalk.i64_in _ (by omega)] at h
  exact h

theorem refShift_any (s : Int) (w : World) :
    Calls Tryd.prog 40 #[.int .i64 s] w fun e w' => e = .returned (.bool (shB s)) ∧ w = w' := by
  by_cases h1 : 3 ≤ s
  · by_cases h2 : s ≤ 8
    · go_enter Tryd.func40, Tryd.ntmps40
      go_wp2
      go_ret
      exact ⟨ret_bool (by simp [shB]; omega), rfl⟩
    · go_enter Tryd.func40, Tryd.ntmps40
      go_wp2
      go_ret
      exact ⟨ret_bool (by simp [shB]; omega), rfl⟩
  · go_enter Tryd.func40, Tryd.ntmps40
    go_wp2
    go_ret
    exact ⟨ret_bool (by simp [shB]; omega), rfl⟩

def sizeV (s : Int) : Int := if shB s then 2 ^ s.toNat else 0

end Go.Proofs.YtpjhgdgdckndeaaDoor
