/-
  Contract of Mod; what the readings of arguments give.
-/
import Derived.Test.YtpbcpobbjoopnaaNew
namespace Go.Proofs.Ytpbcpobbjoopnaa
open Go.RowKit
set_option linter.unusedVariables false

theorem mod_pos {v n : Int} (h : 0 ≤ v) : v.tmod n = v % n := Int.tmod_eq_emod_of_nonneg h
theorem mod_neg {v n : Int} (h : v < 0) (hn : 1 ≤ n) : v.tmod n = if v % n = 0 then 0 else v % n - n := by
  have e : v.tmod n = -((-v) % n) := by
    rw [← Int.tmod_eq_emod_of_nonneg (by omega : 0 ≤ -v), Int.neg_tmod, Int.neg_neg]
  rw [e, Int.neg_emod]
  split <;> split <;> first | omega | (rename_i a b; exfalso; first | exact b (Int.emod_eq_zero_of_dvd a) | exact a (Int.dvd_of_emod_eq_zero b)) | skip
  all_goals (have := Int.natAbs_of_nonneg (by omega : 0 ≤ n); omega)

theorem mod_neg_lo {v n : Int} (h : v < 0) (hn : 1 ≤ n) : -n < v.tmod n := by
  have := Int.emod_nonneg v (show n ≠ 0 by omega)
  rw [mod_neg h hn]; split <;> omega
theorem mod_neg_hi {v n : Int} (h : v < 0) (hn : 1 ≤ n) : v.tmod n ≤ 0 := by
  have := Int.emod_lt_of_pos v (show 0 < n by omega)
  rw [mod_neg h hn]; split <;> omega
theorem mod_end0 {v n : Int} (h : v < 0) (hn : 1 ≤ n) (ht : 0 ≤ v.tmod n) : v.tmod n = v % n := by
  have := Int.emod_lt_of_pos v (show 0 < n by omega)
  rw [mod_neg h hn] at ht ⊢; split at ht <;> split <;> omega
theorem mod_end1 {v n : Int} (h : v < 0) (hn : 1 ≤ n) (ht : v.tmod n < 0) : v.tmod n + n = v % n := by
  rw [mod_neg h hn] at ht ⊢; split at ht <;> split <;> omega

theorem mod_any (v n : Int) (hn : 1 ≤ n) (hn' : n ≤ 9223372036854775807) (h0 : -9223372036854775808 ≤ v) (h1 : v ≤ 9223372036854775807) (w : World) :
    Calls Try.prog 14 #[.int .i64 v, .int .i64 n] w fun e w' => e = .returned (.int .i64 (v % n)) ∧ w = w' := by
  by_cases h : 0 ≤ v
  · have := Int.emod_nonneg v (show n ≠ 0 by omega)
    go_enter Try.func14, Try.ntmps14
    go_wp2
    go_ret
    exact ⟨ret_i64 rfl, rfl⟩
  · have h' : v < 0 := by omega
    have t0 := mod_neg_lo h' hn
    have t1 := mod_neg_hi h' hn
    by_cases ht : 0 ≤ v.tmod n
    · go_enter Try.func14, Try.ntmps14
      go_wp2
      go_ret
      exact ⟨ret_i64 (mod_end0 h' hn ht), rfl⟩
    · have ht' : v.tmod n < 0 := by omega
      go_enter Try.func14, Try.ntmps14
      go_wp2
      go_ret
      exact ⟨ret_i64 (mod_end1 h' hn ht'), rfl⟩



theorem bounds_i64 {a : Int} (h : (Lit.int .i64 a).wf = true) : -9223372036854775808 ≤ a ∧ a ≤ 9223372036854775807 := by
  have hmin : IntKind.i64.min = -9223372036854775808 := rfl
  have hmax : IntKind.i64.max = 9223372036854775807 := rfl
  simp only [Lit.wf, Bool.and_eq_true, decide_eq_true_eq, hmin, hmax] at h
  exact h


end Go.Proofs.Ytpbcpobbjoopnaa
