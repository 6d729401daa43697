/-
  Contracts of the reference of layer 2, of Mod, of Make.
-/
import Derived.Test.YthecjlglcnpniaaOps
import Derived.Deep.QuietTactic
import Derived.BigQuiet
import Derived.Deep.OwnRows
namespace Go.Proofs.Ythecjlglcnpniaa
open Go.RowKit
set_option linter.unusedVariables false

theorem ret_i64 {a b : Int} (h : a = b) : Ending.returned (.int .i64 a) = Ending.returned (.int .i64 b) := by rw [h]
theorem mod_pos {v n : Int} (h : 0 ≤ v) : v.tmod n = v % n := Int.tmod_eq_emod_of_nonneg h
theorem mod_neg {v n : Int} (h : v < 0) (hn : 1 ≤ n) : v.tmod n = if v % n = 0 then 0 else v % n - n := by
  have e : v.tmod n = -((-v) % n) := by
    rw [← Int.tmod_eq_emod_of_nonneg (by omega : 0 ≤ -v), Int.neg_tmod, Int.neg_neg]
  rw [e, Int.neg_emod]
  split <;> split <;> first | omega | (rename_i a b; exfalso; first | exact b (Int.emod_eq_zero_of_dvd a) | exact a (Int.dvd_of_emod_eq_zero b)) | skip
  all_goals (have := Int.natAbs_of_nonneg (by omega : 0 ≤ n); omega)

theorem mod_neg_lo {v n : Int} (h : v < 0) (hn : 1 ≤ n) : -n < v.tmod n := by
  have := Int.emod_nonneg v (show n ≠ 0 by omega)
  rw [mod_neg h hn]; split <;> omega
theorem mod_neg_hi {v n : Int} (h : v < 0) (hn : 1 ≤ n) : v.tmod n ≤ 0 := by
  have := Int.emod_lt_of_pos v (show 0 < n by omega)
  rw [mod_neg h hn]; split <;> omega
theorem mod_end0 {v n : Int} (h : v < 0) (hn : 1 ≤ n) (ht : 0 ≤ v.tmod n) : v.tmod n = v % n := by
  have := Int.emod_lt_of_pos v (show 0 < n by omega)
  rw [mod_neg h hn] at ht ⊢; split at ht <;> split <;> omega
theorem mod_end1 {v n : Int} (h : v < 0) (hn : 1 ≤ n) (ht : v.tmod n < 0) : v.tmod n + n = v % n := by
  rw [mod_neg h hn] at ht ⊢; split at ht <;> split <;> omega

theorem mod_any (v n : Int) (hn : 1 ≤ n) (hn' : n ≤ 9223372036854775807) (h0 : -9223372036854775808 ≤ v) (h1 : v ≤ 9223372036854775807) (w : World) :
    Calls Try.prog 8 #[.int .i64 v, .int .i64 n] w fun e w' => e = .returned (.int .i64 (v % n)) ∧ w = w' := by
  by_cases h : 0 ≤ v
  · have := Int.emod_nonneg v (show n ≠ 0 by omega)
    go_enter Try.func8, Try.ntmps8
    go_wp2
    go_ret
    exact ⟨ret_i64 rfl, rfl⟩
  · have h' : v < 0 := by omega
    have t0 := mod_neg_lo h' hn
    have t1 := mod_neg_hi h' hn
    by_cases ht : 0 ≤ v.tmod n
    · go_enter Try.func8, Try.ntmps8
      go_wp2
      go_ret
      exact ⟨ret_i64 (mod_end0 h' hn ht), rfl⟩
    · have ht' : v.tmod n < 0 := by omega
      go_enter Try.func8, Try.ntmps8
      go_wp2
      go_ret
      exact ⟨ret_i64 (mod_end1 h' hn ht'), rfl⟩


/-- Whether k words from a on do not all exist (k at least 0). -/
theorem outside_yes (A : Option Addr) (n c : Nat) (a k : Int) (w : World) (h0 : 0 ≤ k) (h : a < 0 ∨ n - a < k) (hc : n ≤ c) (hm : c ≤ maxLen) (a0 : -9223372036854775808 ≤ a) (a1 : a ≤ 9223372036854775807) :
    Calls Try.prog 27 #[.slice A n c, .int .i64 a, .int .i64 k] w fun e w' => e = .returned (.bool true) ∧ w = w' := by
  unfold maxLen at hm
  by_cases h1 : a < 0
  · go_enter Try.func27, Try.ntmps27
    go_wp2
    go_ret
    exact ⟨rfl, rfl⟩
  · have h2 : (n : Int) - a < k := by omega
    have h3 : 0 ≤ a := by omega
    by_cases h4 : (n : Int) < a
    · go_enter Try.func27, Try.ntmps27
      go_wp2
      go_ret
      exact ⟨rfl, rfl⟩
    · go_enter Try.func27, Try.ntmps27
      go_wp2
      go_ret
      exact ⟨rfl, rfl⟩

theorem outside_no (A : Option Addr) (n c : Nat) (a k : Int) (w : World) (h0 : 0 ≤ k) (h1 : 0 ≤ a) (h2 : k ≤ n - a) (hc : n ≤ c) (hm : c ≤ maxLen) :
    Calls Try.prog 27 #[.slice A n c, .int .i64 a, .int .i64 k] w fun e w' => e = .returned (.bool false) ∧ w = w' := by
  unfold maxLen at hm
  have h3 : ¬ (n : Int) - a < k := by omega
  have h4 : ¬ (n : Int) < a := by omega
  have h5 : decide (a < 0) = false := by simp; omega
  go_enter Try.func27, Try.ntmps27
  go_wp2
  go_ret
  exact ⟨rfl, rfl⟩

theorem refRead_any (A : Option Addr) (n c : Nat) (f : Nat → Int) (a : Int) (w : World) (h : Arr w w.heap.size A n c f) :
    Calls Try.prog 13 #[.slice A n c, .int .i64 a] w (GivesWord (readV n f a) (readE n a) w) := by
  by_cases hc : a < 0 ∨ n ≤ a
  · have e1 : readV n f a = 0 := by unfold readV; rw [if_pos hc]
    have e2 : readE n a = 2 := by unfold readE; rw [if_pos hc]
    rw [e1, e2]
    clear e1 e2 h
    by_cases h1 : a < 0
    · clear hc
      go_enter Try.func13, Try.ntmps13
      go_wp2
      go_ret2
      exact ⟨rfl, Below.refl _ _⟩
    · have h2 : (n : Int) ≤ a := by omega
      clear hc
      go_enter Try.func13, Try.ntmps13
      go_wp2
      go_ret2
      exact ⟨rfl, Below.refl _ _⟩
  · have e1 : readV n f a = f a.toNat := by unfold readV; rw [if_neg hc]
    have e2 : readE n a = 0 := by unfold readE; rw [if_neg hc]
    rw [e1, e2]
    have h1 : 0 ≤ a := by omega
    have h2 : a < n := by omega
    obtain ⟨b, o, rfl, hb, hcell⟩ := h.at_ a.toNat (by omega)
    have h3 : ¬ (n : Int) ≤ a := by omega
    have h4 : ¬ a < 0 := by omega
    have h5 : 0 ≤ a ∧ a < n := ⟨h1, h2⟩
    clear e1 e2 h hc
    go_enter Try.func13, Try.ntmps13
    go_wp2
    go_ret2
    exact ⟨rfl, Below.refl _ _⟩
end Go.Proofs.Ythecjlglcnpniaa
