/-
  Contracts of layer 6: what each function of package share and of its reference returns; no call changes the world.
-/
import Derived.Test.YtpkikegjoncmaaaRows
import Derived.Test.YtpkikegjoncmaaaShare
import Derived.Laws.Shifts
import Derived.Laws.Externs
import Derived.LoopTactic
import Derived.Lib.Hide
namespace Go.Proofs.Ytpkikegjoncmaaa
open Go.RowKit (wrap32 wrap64 intOf)
set_option linter.unusedVariables false
set_option maxRecDepth 100000

theorem ret_u64 {a b : Int} (h : a = b) : Ending.returned (.int .u64 a) = Ending.returned (.int .u64 b) := by rw [h]
theorem ret_i64 {a b : Int} (h : a = b) : Ending.returned (.int .i64 a) = Ending.returned (.int .i64 b) := by rw [h]
theorem ret_bool {a b : Bool} (h : a = b) : Ending.returned (.bool a) = Ending.returned (.bool b) := by rw [h]
theorem ret_f64 {a b : Nat} (h : a = b) : Ending.returned (.float .f64 a) = Ending.returned (.float .f64 b) := by rw [h]
theorem ret_pr {a b c d : Int} (h : a = b) (k : c = d) : Ending.returned (.tuple #[.int .i64 a, .int .i64 c]) = Ending.returned (.tuple #[.int .i64 b, .int .i64 d]) := by rw [h, k]

/-- The bits of a number, and the number with given bits. -/
theorem run_bits (x : Nat) (w : World) : (callFunc 19 #[.float .f64 x]).run Try.prog w = .ok (.value (.int .u64 x)) w := by
  rw [run_callFunc_extern Try.func19 (by kernel_rfl) (by kernel_rfl) (by kernel_rfl) (e := Extern.MathFloatBits.float64bits) (by kernel_rfl)]
  rfl
theorem run_frombits (x : Int) (w : World) : (callFunc 10 #[.int .u64 x]).run Try.prog w = .ok (.value (.float .f64 x.toNat)) w := by
  rw [run_callFunc_extern Try.func10 (by kernel_rfl) (by kernel_rfl) (by kernel_rfl) (e := Extern.MathFloatBits.float64frombits) (by kernel_rfl)]
  rfl

theorem fmt_eq : FloatKind.f64.format = Ieee.double := rfl
/-- The three ways in which a word stands to another one. -/
theorem fo_lt {x y : Nat} (h1 : nanF x = false) (h2 : nanF y = false) (h : keyF x < keyF y) : FloatKind.f64.format.order x y = some .lt := by
  rw [fmt_eq, order_key (nanF_no h1) (nanF_no h2)]
  show some (compareOfLessAndEq _ _) = _
  unfold compareOfLessAndEq; rw [if_pos h]
theorem fo_eq {x y : Nat} (h1 : nanF x = false) (h2 : nanF y = false) (h : keyF x = keyF y) : FloatKind.f64.format.order x y = some .eq := by
  rw [fmt_eq, order_key (nanF_no h1) (nanF_no h2)]
  show some (compareOfLessAndEq _ _) = _
  unfold compareOfLessAndEq; rw [if_neg (by omega), if_pos h]
theorem fo_gt {x y : Nat} (h1 : nanF x = false) (h2 : nanF y = false) (h : keyF y < keyF x) : FloatKind.f64.format.order x y = some .gt := by
  rw [fmt_eq, order_key (nanF_no h1) (nanF_no h2)]
  show some (compareOfLessAndEq _ _) = _
  unfold compareOfLessAndEq; rw [if_neg (by omega), if_neg (by omega)]
theorem fo_nan {x y : Nat} (h : nanF x = true ∨ nanF y = true) : FloatKind.f64.format.order x y = none := by
  rw [fmt_eq]
  rcases h with h | h
  · exact order_nan (.inl (nanF_yes h))
  · exact order_nan (.inr (nanF_yes h))
/-- How a word stands to 0 and to 1. -/
theorem fo_zero {x : Nat} (h : 0 < x) (h' : x ≤ 4607182418800017408) : FloatKind.f64.format.order x 0 = some .gt :=
  fo_gt (by rw [nan_small (by omega)]; exact decide_eq_false (by omega)) (by rw [nan_small (by omega)]; exact decide_eq_false (by omega)) (by rw [key_small (by omega), key_small (by omega)]; omega)
theorem fo_zero_ne {x : Nat} (h : 4607182418800017408 < x) (hx : x < 18446744073709551616) : (FloatKind.f64.format.order x 0 = some .gt ∧ FloatKind.f64.format.order x 4607182418800017408 = some .gt) ∨ FloatKind.f64.format.order x 0 = some .lt ∨ FloatKind.f64.format.order x 0 = some .eq ∨ FloatKind.f64.format.order x 0 = none := by
  cases hn : nanF x
  · have z0 : nanF 0 = false := by rw [nan_small (by omega)]; exact decide_eq_false (by omega)
    have z1 : nanF 4607182418800017408 = false := by rw [nan_small (by omega)]; exact decide_eq_false (by omega)
    rcases Nat.lt_or_ge x 9223372036854775808 with a | a
    · exact .inl ⟨fo_gt hn z0 (by rw [key_small a, key_small (by omega)]; omega), fo_gt hn z1 (by rw [key_small a, key_small (by omega)]; omega)⟩
    · rcases Nat.lt_or_ge 9223372036854775808 x with b | b
      · exact .inr (.inl (fo_lt hn z0 (by rw [key_big a hx, key_small (by omega)]; omega)))
      · exact .inr (.inr (.inl (fo_eq hn z0 (by rw [key_big a hx, key_small (by omega)]; omega))))
  · exact .inr (.inr (.inr (fo_nan (.inl hn))))
theorem fo_one {x : Nat} (h' : x ≤ 4607182418800017408) : FloatKind.f64.format.order x 4607182418800017408 = some .lt ∨ FloatKind.f64.format.order x 4607182418800017408 = some .eq := by
  have z0 : nanF x = false := by rw [nan_small (by omega)]; exact decide_eq_false (by omega)
  have z1 : nanF 4607182418800017408 = false := by rw [nan_small (by omega)]; exact decide_eq_false (by omega)
  rcases Nat.lt_or_ge x 4607182418800017408 with a | a
  · exact .inl (fo_lt z0 z1 (by rw [key_small (by omega), key_small (by omega)]; omega))
  · exact .inr (fo_eq z0 z1 (by rw [key_small (by omega), key_small (by omega)]; omega))

theorem okF_yes {x : Nat} (h : x ≤ 4607182418800017408) : okF x = true := decide_eq_true h
theorem okF_no {x : Nat} (h : 4607182418800017408 < x) : okF x = false := decide_eq_false (by omega)

theorem valid_any (x : Nat) (hx : x < 18446744073709551616) (w : World) : Calls Try.prog 11 #[.float .f64 x] w fun e w' => e = .returned (.bool (okF x)) ∧ w = w' := by
  have hb := run_bits x
  by_cases h0 : x = 0
  · subst h0
    go_enter Try.func11, Try.ntmps11
    go_wp2
    all_goals (go_ret; exact ⟨ret_bool rfl, rfl⟩)
  · have hk : ¬ ((x : Int) = 0) := by omega
    by_cases h : x ≤ 4607182418800017408
    · have e0 := fo_zero (by omega) h
      rw [okF_yes h]
      rcases fo_one h with e1 | e1
      all_goals (
        go_enter Try.func11, Try.ntmps11
        go_wp2
        all_goals (go_ret; refine ⟨ret_bool ?_, rfl⟩; simp))
    · rw [okF_no (by omega)]
      rcases fo_zero_ne (by omega) hx with ⟨e0, e1⟩ | e0 | e0 | e0
      all_goals (
        go_enter Try.func11, Try.ntmps11
        go_wp2
        all_goals (go_ret; refine ⟨ret_bool ?_, rfl⟩; simp [*]))
theorem refValid_any (x : Nat) (hx : x < 18446744073709551616) (w : World) : Calls Try.prog 12 #[.float .f64 x] w fun e w' => e = .returned (.bool (okF x)) ∧ w = w' := by
  have hb := run_bits x
  by_cases h0 : x = 0
  · subst h0
    go_enter Try.func12, Try.ntmps12
    go_wp2
    all_goals (go_ret; exact ⟨ret_bool rfl, rfl⟩)
  · have hk : ¬ ((x : Int) = 0) := by omega
    by_cases h : x ≤ 4607182418800017408
    · have e0 := fo_zero (by omega) h
      rw [okF_yes h]
      rcases fo_one h with e1 | e1
      all_goals (
        go_enter Try.func12, Try.ntmps12
        go_wp2
        all_goals (go_ret; refine ⟨ret_bool ?_, rfl⟩; simp))
    · rw [okF_no (by omega)]
      rcases fo_zero_ne (by omega) hx with ⟨e0, e1⟩ | e0 | e0 | e0
      all_goals (
        go_enter Try.func12, Try.ntmps12
        go_wp2
        all_goals (go_ret; refine ⟨ret_bool ?_, rfl⟩; simp [*]))

theorem rank_any (x : Nat) (hx : x < 18446744073709551616) (w : World) : Calls Try.prog 32 #[.float .f64 x] w fun e w' => e = .returned (.int .u64 (rkF x)) ∧ w = w' := by
  have hb := run_bits x
  have ha := and_sign hx
  cases hn : nanF x
  · have e0 := fo_eq hn hn rfl
    unfold rkF
    rw [hn]
    simp only [Bool.false_eq_true, if_false]
    by_cases h : x < 9223372036854775808
    · rw [if_pos h] at ha ⊢
      have ho := or_sign h
      go_enter Try.func32, Try.ntmps32
      go_wp2
      all_goals (go_ret; refine ⟨ret_u64 ?_, rfl⟩; omega)
    · rw [if_neg h] at ha ⊢
      go_enter Try.func32, Try.ntmps32
      go_wp2
      all_goals (go_ret; refine ⟨ret_u64 ?_, rfl⟩; exact xor_max hx)
  · have e0 := fo_nan (.inl hn) (y := x)
    rw [rk_nan hn]
    go_enter Try.func32, Try.ntmps32
    go_wp2
    all_goals (go_ret; exact ⟨ret_u64 rfl, rfl⟩)
theorem order_any (x y : Nat) (hx : x < 18446744073709551616) (hy : y < 18446744073709551616) (w : World) : Calls Try.prog 26 #[.float .f64 x, .float .f64 y] w fun e w' => e = .returned (.int .i64 (ordF x y)) ∧ w = w' := by
  have key : ∀ c : Int, ordF x y = c → ((rkF x < rkF y ∧ c = -1) ∨ (rkF y < rkF x ∧ c = 1) ∨ (rkF x = rkF y ∧ c = 0)) → Calls Try.prog 26 #[.float .f64 x, .float .f64 y] w fun e w' => e = .returned (.int .i64 c) ∧ w = w' := by
    intro c hc h
    clear hc
    have r1 := rank_any x hx w
    have r2 := rank_any y hy w
    generalize rkF x = p at *
    generalize rkF y = q at *
    rcases h with ⟨h, rfl⟩ | ⟨h, rfl⟩ | ⟨h, rfl⟩
    all_goals (
      go_enter Try.func26, Try.ntmps26
      go_wp2_with fail
      refine r1.mono ?_
      rintro e w' ⟨rfl, rfl⟩
      go_wp2_with fail
      refine r2.mono ?_
      rintro e w' ⟨rfl, rfl⟩
      clear r1 r2
      go_wp2
      all_goals (go_ret; exact ⟨ret_i64 rfl, rfl⟩))
  refine key _ rfl ?_
  rcases Nat.lt_trichotomy (rkF x) (rkF y) with h | h | h
  · exact .inl ⟨h, ord_lt_is h⟩
  · exact .inr (.inr ⟨h, ord_eq_is h⟩)
  · exact .inr (.inl ⟨h, ord_gt_is h⟩)
theorem refRank_any (x : Nat) (w : World) : Calls Try.prog 33 #[.float .f64 x] w fun e w' => e = .returned (.int .i64 (if nanF x then 1 else 0)) ∧ w = w' := by
  cases hn : nanF x
  · have e0 := fo_eq hn hn rfl
    go_enter Try.func33, Try.ntmps33
    go_wp2
    all_goals (go_ret; exact ⟨ret_i64 rfl, rfl⟩)
  · have e0 := fo_nan (.inl hn) (y := x)
    go_enter Try.func33, Try.ntmps33
    go_wp2
    all_goals (go_ret; exact ⟨ret_i64 rfl, rfl⟩)
theorem signbit_any (x : Nat) (hx : x < 18446744073709551616) (w : World) : Calls Try.prog 34 #[.float .f64 x] w fun e w' => e = .returned (.bool (decide (9223372036854775808 ≤ x))) ∧ w = w' := by
  have hb := run_bits x
  by_cases h : 9223372036854775808 ≤ x
  · rw [decide_eq_true h]
    go_enter Try.func34, Try.ntmps34
    go_wp2
    all_goals (go_ret; refine ⟨ret_bool ?_, rfl⟩; exact decide_eq_true (by unfold wrap64; omega))
  · rw [decide_eq_false h]
    go_enter Try.func34, Try.ntmps34
    go_wp2
    all_goals (go_ret; refine ⟨ret_bool ?_, rfl⟩; exact decide_eq_false (by omega))
end Go.Proofs.Ytpkikegjoncmaaa
