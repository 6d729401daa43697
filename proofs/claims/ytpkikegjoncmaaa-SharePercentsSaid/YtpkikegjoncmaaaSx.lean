/-
  Contracts of layer 6, continued: the reference's order; Frames on both sides.
-/
import Derived.Test.YtpkikegjoncmaaaSw
namespace Go.Proofs.Ytpkikegjoncmaaa
open Go.RowKit (wrap32 wrap64 intOf)
set_option linter.unusedVariables false
set_option maxRecDepth 100000

theorem refRank_num (x : Nat) (h : nanF x = false) (w : World) : Calls Try.prog 33 #[.float .f64 x] w fun e w' => e = .returned (.int .i64 0) ∧ w = w' := by
  have := refRank_any x w; rw [h] at this; exact this
theorem refRank_nan (x : Nat) (h : nanF x = true) (w : World) : Calls Try.prog 33 #[.float .f64 x] w fun e w' => e = .returned (.int .i64 1) ∧ w = w' := by
  have := refRank_any x w; rw [h] at this; exact this
theorem sign_yes (x : Nat) (h : 9223372036854775808 ≤ x) (hx : x < 18446744073709551616) (w : World) : Calls Try.prog 34 #[.float .f64 x] w fun e w' => e = .returned (.bool true) ∧ w = w' := by
  have := signbit_any x hx w; rw [decide_eq_true h] at this; exact this
theorem sign_no (x : Nat) (h : x < 9223372036854775808) (w : World) : Calls Try.prog 34 #[.float .f64 x] w fun e w' => e = .returned (.bool false) ∧ w = w' := by
  have := signbit_any x (by omega) w; rw [decide_eq_false (by omega)] at this; exact this

theorem refOrder_any (x y : Nat) (hx : x < 18446744073709551616) (hy : y < 18446744073709551616) (w : World) : Calls Try.prog 27 #[.float .f64 x, .float .f64 y] w fun e w' => e = .returned (.int .i64 (ordF x y)) ∧ w = w' := by
  cases hn : nanF x <;> cases hm : nanF y
  · have key : ∀ c : Int, ((FloatKind.f64.format.order x y = some .lt ∧ c = -1) ∨ (FloatKind.f64.format.order x y = some .gt ∧ c = 1) ∨ (FloatKind.f64.format.order x y = some .eq ∧ (9223372036854775808 ≤ x ∧ y < 9223372036854775808 ∧ c = -1 ∨ x < 9223372036854775808 ∧ 9223372036854775808 ≤ y ∧ c = 1 ∨ x < 9223372036854775808 ∧ y < 9223372036854775808 ∧ c = 0 ∨ 9223372036854775808 ≤ x ∧ 9223372036854775808 ≤ y ∧ c = 0))) → Calls Try.prog 27 #[.float .f64 x, .float .f64 y] w fun e w' => e = .returned (.int .i64 c) ∧ w = w' := by
      intro c hc
      rcases hc with ⟨h, rfl⟩ | ⟨h, rfl⟩ | ⟨h, hc⟩
      · go_enter Try.func27, Try.ntmps27
        go_wp2_with (go_at_call 33; refine (refRank_num _ (by assumption) _).mono ?_; rintro e w' ⟨rfl, rfl⟩)
        all_goals (go_ret; exact ⟨ret_i64 rfl, rfl⟩)
      · go_enter Try.func27, Try.ntmps27
        go_wp2_with (go_at_call 33; refine (refRank_num _ (by assumption) _).mono ?_; rintro e w' ⟨rfl, rfl⟩)
        all_goals (go_ret; exact ⟨ret_i64 rfl, rfl⟩)
      · rcases hc with ⟨a, b, rfl⟩ | ⟨a, b, rfl⟩ | ⟨a, b, rfl⟩ | ⟨a, b, rfl⟩
        all_goals (
          go_enter Try.func27, Try.ntmps27
          go_wp2_with (first | (go_at_call 33; refine (refRank_num _ (by assumption) _).mono ?_; rintro e w' ⟨rfl, rfl⟩) | (go_at_call 34; (first | refine (sign_yes _ (by assumption) (by assumption) _).mono ?_ | refine (sign_no _ (by assumption) _).mono ?_); rintro e w' ⟨rfl, rfl⟩))
          all_goals (go_ret; exact ⟨ret_i64 rfl, rfl⟩))
    refine key _ ?_
    rcases Int.lt_trichotomy (keyF x) (keyF y) with h | h | h
    · exact .inl ⟨fo_lt hn hm h, ord_lt_is (ord_lt_rk hx hy hn hm h)⟩
    · refine .inr (.inr ⟨fo_eq hn hm h, ?_⟩)
      rcases ord_eq_rk hx hy hn hm h with ⟨a, b, r⟩ | ⟨a, b, r⟩ | ⟨a, b, r⟩ | ⟨a, b, r⟩
      · exact .inr (.inr (.inl ⟨a, b, ord_eq_is r⟩))
      · exact .inr (.inr (.inr ⟨a, b, ord_eq_is r⟩))
      · exact .inl ⟨a, b, ord_lt_is r⟩
      · exact .inr (.inl ⟨a, b, ord_gt_is r⟩)
    · exact .inr (.inl ⟨fo_gt hn hm h, ord_gt_is (ord_lt_rk hy hx hm hn h)⟩)
  · rw [ord_lt_is (by rw [rk_nan hm]; exact rk_num hx hn)]
    go_enter Try.func27, Try.ntmps27
    go_wp2_with (go_at_call 33; (first | refine (refRank_num _ (by assumption) _).mono ?_ | refine (refRank_nan _ (by assumption) _).mono ?_); rintro e w' ⟨rfl, rfl⟩)
    all_goals (go_ret; exact ⟨ret_i64 rfl, rfl⟩)
  · rw [ord_gt_is (by rw [rk_nan hn]; exact rk_num hy hm)]
    go_enter Try.func27, Try.ntmps27
    go_wp2_with (go_at_call 33; (first | refine (refRank_num _ (by assumption) _).mono ?_ | refine (refRank_nan _ (by assumption) _).mono ?_); rintro e w' ⟨rfl, rfl⟩)
    all_goals (go_ret; exact ⟨ret_i64 rfl, rfl⟩)
  · rw [ord_eq_is (by rw [rk_nan hn, rk_nan hm])]
    go_enter Try.func27, Try.ntmps27
    go_wp2_with (go_at_call 33; refine (refRank_nan _ (by assumption) _).mono ?_; rintro e w' ⟨rfl, rfl⟩)
    all_goals (go_ret; exact ⟨ret_i64 rfl, rfl⟩)
theorem same_any (x y : Nat) (hx : x < 18446744073709551616) (hy : y < 18446744073709551616) (w : World) : Calls Try.prog 22 #[.float .f64 x, .float .f64 y] w fun e w' => e = .returned (.bool (ordF x y == 0)) ∧ w = w' := by
  go_enter Try.func22, Try.ntmps22
  go_wp2_with fail
  refine (refOrder_any x y hx hy _).mono ?_
  rintro e w' ⟨rfl, rfl⟩
  go_wp2
  all_goals (go_ret; exact ⟨ret_bool rfl, rfl⟩)
end Go.Proofs.Ytpkikegjoncmaaa
