/-
  Contracts of the reference of layer 3: sizes, addresses, pairs.
-/
import Derived.Test.YtpbcpobbjoopnaaUn
namespace Go.Proofs.Ytpbcpobbjoopnaa
open Go.RowKit
set_option linter.unusedVariables false

theorem and_low' (a : Int) (k : Nat) (h0 : 0 ≤ a) (h1 : a ≤ 9223372036854775807) (hk : k ≤ 8) : bits .and .i64 a (2 ^ k - 1) = a % 2 ^ k := by
  have h := and_low a k h0 h1 hk
  have p0 := pw_pos k
  have p1 := pw_bd hk
  rw [IntWalk.i64_in _ (by omega)] at h
  exact h

theorem refShift_any (s : Int) (w : World) :
    Calls Try.prog 44 #[.int .i64 s] w fun e w' => e = .returned (.bool (shB s)) ∧ w = w' := by
  by_cases h1 : 3 ≤ s
  · by_cases h2 : s ≤ 8
    · go_enter Try.func44, Try.ntmps44
      go_wp2
      go_ret
      exact ⟨ret_bool (by simp [shB]; omega), rfl⟩
    · go_enter Try.func44, Try.ntmps44
      go_wp2
      go_ret
      exact ⟨ret_bool (by simp [shB]; omega), rfl⟩
  · go_enter Try.func44, Try.ntmps44
    go_wp2
    go_ret
    exact ⟨ret_bool (by simp [shB]; omega), rfl⟩

def sizeV (s : Int) : Int := if shB s then 2 ^ s.toNat else 0

theorem size_any (s : Int) (V1 V2 : Value) (w : World) :
    Calls Try.prog 41 #[.agg #[.int .i64 s, V1, V2]] w fun e w' => e = .returned (.int .i64 (sizeV s)) ∧ Below w.heap.size w w' := by
  rcases hs : shB s with _ | _
  · have e1 : sizeV s = 0 := by simp [sizeV, hs]
    rw [e1]
    exact size_no s V1 V2 w hs
  · obtain ⟨h1, h2⟩ := shB_yes hs
    have e1 : sizeV s = 2 ^ s.toNat := by simp [sizeV, hs]
    rw [e1]
    have h := size_yes s.toNat V1 V2 w (by omega) (by omega)
    rw [Int.toNat_of_nonneg (by omega)] at h
    exact h

end Go.Proofs.Ytpbcpobbjoopnaa
