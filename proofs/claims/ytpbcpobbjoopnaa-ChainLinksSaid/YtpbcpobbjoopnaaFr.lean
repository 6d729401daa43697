/-
  Contracts of package frame: sizes, addresses, pairs.
-/
import Derived.Test.YtpbcpobbjoopnaaMem
import Derived.WalkKit
import Derived.WalkLawsBesides
import Derived.Deep.QuietTactic
import Derived.BigQuiet
import Derived.Deep.RegionHeld3
import Derived.Outline
import Derived.LoopTactic
import Derived.Lib.Hide
namespace Go.Proofs.Ytpbcpobbjoopnaa
open Go.RowKit
set_option linter.unusedVariables false

theorem ret_i64 {a b : Int} (h : a = b) : Ending.returned (.int .i64 a) = Ending.returned (.int .i64 b) := by rw [h]
theorem ret_bool {a b : Bool} (h : a = b) : Ending.returned (.bool a) = Ending.returned (.bool b) := by rw [h]

theorem isShift_any (s : Int) (w : World) :
    Calls Try.prog 49 #[.int .i64 s] w fun e w' => e = .returned (.bool (shB s)) ∧ w = w' := by
  by_cases h1 : 3 ≤ s
  · by_cases h2 : s ≤ 8
    · go_enter Try.func49, Try.ntmps49
      go_wp2
      go_ret
      exact ⟨ret_bool (by simp [shB]; omega), rfl⟩
    · go_enter Try.func49, Try.ntmps49
      go_wp2
      go_ret
      exact ⟨ret_bool (by simp [shB]; omega), rfl⟩
  · go_enter Try.func49, Try.ntmps49
    go_wp2
    go_ret
    exact ⟨ret_bool (by simp [shB]; omega), rfl⟩

theorem pw_pos (k : Nat) : 0 < (2 : Int) ^ k := Int.pow_pos (by decide)
theorem pw_bd {k : Nat} (h : k ≤ 8) : (2 : Int) ^ k ≤ 256 := by
  rcases k with _|_|_|_|_|_|_|_|_|k
  all_goals first | decide | omega

theorem size_yes (k : Nat) (V1 V2 : Value) (w : World) (h1 : 3 ≤ k) (h2 : k ≤ 8) :
    Calls Try.prog 41 #[.agg #[.int .i64 k, V1, V2]] w fun e w' => e = .returned (.int .i64 (2 ^ k)) ∧ Below w.heap.size w w' := by
  have h : shB k = true := by simp [shB]; omega
  have H := Lib.hid h
  have p0 := pw_pos k
  have p1 := pw_bd h2
  clear h
  go_enter Try.func41, Try.ntmps41
  go_wp2_with (go_at_call 49; refine (isShift_any _ _).mono ?_; rintro e w' ⟨rfl, rfl⟩; rw [H.out])
  go_ret
  exact ⟨rfl, (Below.refl _ _).alloc (Nat.le_refl _) _⟩

theorem size_no (s : Int) (V1 V2 : Value) (w : World) (h : shB s = false) :
    Calls Try.prog 41 #[.agg #[.int .i64 s, V1, V2]] w fun e w' => e = .returned (.int .i64 0) ∧ Below w.heap.size w w' := by
  have H := Lib.hid h
  clear h
  go_enter Try.func41, Try.ntmps41
  go_wp2_with (go_at_call 49; refine (isShift_any _ _).mono ?_; rintro e w' ⟨rfl, rfl⟩; rw [H.out])
  go_ret
  exact ⟨rfl, (Below.refl _ _).alloc (Nat.le_refl _) _⟩

/-- Whether a space has numbers: a permitted shift and at most 64 frames. -/
def numB (s : Int) (n : Nat) : Bool := shB s && decide (n ≤ 64)

theorem hasNumbers_any (s : Int) (V1 : Value) (A : Option Addr) (n c : Nat) (w : World) :
    Calls Try.prog 58 #[.agg #[.int .i64 s, V1, .slice A n c]] w fun e w' => e = .returned (.bool (numB s n)) ∧ Below w.heap.size w w' := by
  rcases hs : shB s with _ | _
  · have H := Lib.hid hs
    clear hs
    go_enter Try.func58, Try.ntmps58
    go_wp2_with (go_at_call 49; refine (isShift_any _ _).mono ?_; rintro e w' ⟨rfl, rfl⟩; rw [H.out])
    go_ret
    exact ⟨ret_bool (by simp [numB, H.out]), (Below.refl _ _).alloc (Nat.le_refl _) _⟩
  · have H := Lib.hid hs
    clear hs
    by_cases hn : (n : Int) ≤ 64
    · go_enter Try.func58, Try.ntmps58
      go_wp2_with (go_at_call 49; refine (isShift_any _ _).mono ?_; rintro e w' ⟨rfl, rfl⟩; rw [H.out])
      go_ret
      exact ⟨ret_bool (by simp [numB, H.out]; omega), (Below.refl _ _).alloc (Nat.le_refl _) _⟩
    · have hn' : 64 < (n : Int) := by omega
      clear hn
      go_enter Try.func58, Try.ntmps58
      go_wp2_with (go_at_call 49; refine (isShift_any _ _).mono ?_; rintro e w' ⟨rfl, rfl⟩; rw [H.out])
      go_ret
      exact ⟨ret_bool (by simp [numB, H.out]; omega), (Below.refl _ _).alloc (Nat.le_refl _) _⟩

theorem isFrame_any (A : Option Addr) (n c : Nat) (f : Int) (w : World) :
    Calls Try.prog 59 #[.slice A n c, .int .i64 f] w fun e w' => e = .returned (.bool (inB n f)) ∧ w = w' := by
  by_cases h1 : 0 ≤ f
  · by_cases h2 : f < (n : Int)
    · go_enter Try.func59, Try.ntmps59
      go_wp2
      go_ret
      exact ⟨ret_bool (by simp [inB, h1, h2]), rfl⟩
    · go_enter Try.func59, Try.ntmps59
      go_wp2
      go_ret
      exact ⟨ret_bool (by simp [inB]; omega), rfl⟩
  · go_enter Try.func59, Try.ntmps59
    go_wp2
    go_ret
    exact ⟨ret_bool (by simp [inB]; omega), rfl⟩
end Go.Proofs.Ytpbcpobbjoopnaa
