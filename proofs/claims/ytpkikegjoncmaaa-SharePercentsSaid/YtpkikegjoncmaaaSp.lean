/-
  Contracts of layer 6, continued: percentages and ratios; the numbers that the statements draw.
-/
import Derived.Test.YtpkikegjoncmaaaSw
namespace Go.Proofs.Ytpkikegjoncmaaa
open Go.RowKit (wrap32 wrap64 intOf)
set_option linter.unusedVariables false
set_option maxRecDepth 100000

theorem isTerm_any (a : Int) (w : World) : Calls Try.prog 31 #[.int .i64 a] w fun e w' => e = .returned (.bool (decide (0 ≤ a ∧ a ≤ 1099511627776))) ∧ w = w' := by
  by_cases h0 : 0 ≤ a
  · by_cases h1 : a ≤ 1099511627776
    · rw [decide_eq_true ⟨h0, h1⟩]
      go_enter Try.func31, Try.ntmps31
      go_wp2
      all_goals (go_ret; refine ⟨ret_bool ?_, rfl⟩; first | rfl | simp [*])
    · rw [decide_eq_false (by omega)]
      go_enter Try.func31, Try.ntmps31
      go_wp2
      all_goals (go_ret; refine ⟨ret_bool ?_, rfl⟩; first | rfl | simp [*])
  · rw [decide_eq_false (by omega)]
    go_enter Try.func31, Try.ntmps31
    go_wp2
    all_goals (go_ret; refine ⟨ret_bool ?_, rfl⟩; first | rfl | simp [*])

/-- A percentage as a number. -/
def pctF (n : Nat) : Nat := (Ieee.double.div (floatOfInt .f64 (n : Int)) 4636737291354636288).getD 0
theorem pct_all : ∀ n : Fin 101, floatBits .quo .f64 (floatOfInt .f64 ((n : Nat) : Int)) 4636737291354636288 = some (pctF n) := by decide +kernel
theorem pct_is {n : Nat} (h : n ≤ 100) : floatBits .quo .f64 (floatOfInt .f64 (n : Int)) 4636737291354636288 = some (pctF n) := pct_all ⟨n, by omega⟩
theorem pct_lt {n : Nat} (h : n ≤ 100) : pctF n < 18446744073709551616 := by
  have := floatBits_wf (pct_is h)
  simpa [Lit.wf] using this
/-- What Percent says: the number, and the error. -/
def pcF (p : Int) : Nat := if 0 ≤ p ∧ p ≤ 100 then pctF p.toNat else 0
def pcE (p : Int) : Int := if 0 ≤ p ∧ p ≤ 100 then 0 else 1
theorem pcF_lt (p : Int) : pcF p < 18446744073709551616 := by
  unfold pcF; split
  · exact pct_lt (by omega)
  · decide
theorem percent_any (p : Int) (h0 : -9223372036854775808 ≤ p) (h1 : p ≤ 9223372036854775807) (w : World) : Calls Try.prog 17 #[.int .i64 p] w fun e w' => e = .returned (.tuple #[.float .f64 (pcF p), .int .i64 (pcE p)]) ∧ w = w' := by
  unfold pcF pcE
  by_cases h : 0 ≤ p ∧ p ≤ 100
  · rw [if_pos h, if_pos h]
    obtain ⟨k, rfl⟩ := Int.eq_ofNat_of_zero_le h.1
    rw [Int.toNat_natCast]
    have hop : ∀ t w, (binOp .quo t (.float .f64 (floatOfInt .f64 (k : Int))) (.float .f64 4636737291354636288)).run Try.prog w = .ok (.float .f64 (pctF k)) w := fun t w => run_float_arith w .quo t .f64 _ _ _ (pct_is (by omega))
    obtain ⟨h2, h3⟩ := h
    generalize pctF k = z at *
    go_enter Try.func17, Try.ntmps17
    go_wp2_with (simp only [hop])
    all_goals (go_ret2; exact ⟨rfl, rfl⟩)
  · rw [if_neg h, if_neg h]
    go_enter Try.func17, Try.ntmps17
    go_wp2
    all_goals (go_ret2; exact ⟨rfl, rfl⟩)
theorem refPercent_any (p : Int) (h0 : -9223372036854775808 ≤ p) (h1 : p ≤ 9223372036854775807) (w : World) : Calls Try.prog 18 #[.int .i64 p] w fun e w' => e = .returned (.tuple #[.float .f64 (pcF p), .int .i64 (pcE p)]) ∧ w = w' := by
  unfold pcF pcE
  by_cases h : 0 ≤ p ∧ p ≤ 100
  · rw [if_pos h, if_pos h]
    obtain ⟨k, rfl⟩ := Int.eq_ofNat_of_zero_le h.1
    rw [Int.toNat_natCast]
    have hop : ∀ t w, (binOp .quo t (.float .f64 (floatOfInt .f64 (k : Int))) (.float .f64 4636737291354636288)).run Try.prog w = .ok (.float .f64 (pctF k)) w := fun t w => run_float_arith w .quo t .f64 _ _ _ (pct_is (by omega))
    obtain ⟨h2, h3⟩ := h
    generalize pctF k = z at *
    go_enter Try.func18, Try.ntmps18
    go_wp2_with (simp only [hop])
    all_goals (go_ret2; exact ⟨rfl, rfl⟩)
  · rw [if_neg h, if_neg h]
    go_enter Try.func18, Try.ntmps18
    go_wp2
    all_goals (go_ret2; exact ⟨rfl, rfl⟩)
end Go.Proofs.Ytpkikegjoncmaaa
