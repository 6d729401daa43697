/-
  Ratios: a quotient, or some word that is no number where there is none. What Ratio leaves on both sides.
-/
import Derived.Test.YtpkikegjoncmaaaSPercents
import Derived.Deep.RegionHeld3
import Derived.Laws.NewFold
namespace Go.Proofs.Ytpkikegjoncmaaa
open Go.RowKit (wrap32 wrap64 intOf)
open Go.RowKit
set_option linter.unusedVariables false
set_option maxRecDepth 100000

/-- The word that an operation without an answer leaves. -/
def noneF (x y : Nat) (w : World) : Nat := (Question.nanBits .f64 x y).cut (w.tape w.drawn (.nanBits .f64 x y))
theorem noneF_nan (x y : Nat) (w : World) : nanF (noneF x y w) = true ∧ noneF x y w < 18446744073709551616 := by
  unfold noneF
  generalize w.tape w.drawn (.nanBits .f64 x y) = t
  show nanF ((t % 2) * 2 ^ 63 + 0x7ff0000000000000 + 1 + (t / 2) % (2 ^ 52 - 1)) = true ∧ (t % 2) * 2 ^ 63 + 0x7ff0000000000000 + 1 + (t / 2) % (2 ^ 52 - 1) < 18446744073709551616
  have q0 : (t / 2) % (2 ^ 52 - 1) < 4503599627370495 := Nat.mod_lt _ (by decide)
  have s0 : t % 2 = 0 ∨ t % 2 = 1 := by omega
  generalize (t / 2) % (2 ^ 52 - 1) = q at *
  generalize t % 2 = s at *
  rcases s0 with rfl | rfl
  all_goals (
    constructor
    · unfold nanF rgF infF
      exact decide_eq_true (by omega)
    · omega)
theorem run_quo_none (t : TypeId) (x y : Nat) (h : floatBits .quo .f64 x y = none) (w : World) : (binOp .quo t (.float .f64 x) (.float .f64 y)).run Try.prog w = .ok (.float .f64 (noneF x y w)) w.drew := by
  unfold floatBits at h
  simp only at h
  simp [binOp, Op.floatArith, h, noneF, Question.forced]

/-- What Ratio says of a and b. -/
def IsRat (a b : Int) (r : Nat) : Prop := r < 18446744073709551616 ∧ (((¬ (0 ≤ a ∧ a ≤ 1099511627776) ∨ ¬ (0 ≤ b ∧ b ≤ 1099511627776)) ∧ r = 13830554455654793216) ∨
  ((0 ≤ a ∧ a ≤ 1099511627776) ∧ (0 ≤ b ∧ b ≤ 1099511627776) ∧ floatBits .quo .f64 (floatOfInt .f64 a) (floatOfInt .f64 b) = some r) ∨
  ((0 ≤ a ∧ a ≤ 1099511627776) ∧ (0 ≤ b ∧ b ≤ 1099511627776) ∧ floatBits .quo .f64 (floatOfInt .f64 a) (floatOfInt .f64 b) = none ∧ nanF r = true))
theorem IsRat.same {a b : Int} {r s : Nat} (h : IsRat a b r) (g : IsRat a b s) : ordF r s = 0 := by
  apply ord_eq_is
  rcases h with ⟨_, ⟨h1, rfl⟩ | ⟨h1, h2, h3⟩ | ⟨h1, h2, h3, h4⟩⟩
  · rcases g with ⟨_, ⟨g1, rfl⟩ | ⟨g1, g2, g3⟩ | ⟨g1, g2, g3, g4⟩⟩
    · rfl
    · exfalso; omega
    · exfalso; omega
  · rcases g with ⟨_, ⟨g1, rfl⟩ | ⟨g1, g2, g3⟩ | ⟨g1, g2, g3, g4⟩⟩
    · exfalso; omega
    · rw [h3] at g3; cases g3; rfl
    · rw [h3] at g3; cases g3
  · rcases g with ⟨_, ⟨g1, rfl⟩ | ⟨g1, g2, g3⟩ | ⟨g1, g2, g3, g4⟩⟩
    · exfalso; omega
    · rw [h3] at g3; cases g3
    · rw [rk_nan h4, rk_nan g4]
def RatOut (a b : Int) (e : Ending) (w w' : World) : Prop := ∃ (r m : Nat), e = .returned (.float .f64 r) ∧ w' = w.drewN m ∧ IsRat a b r
theorem term_yes (a : Int) (h0 : 0 ≤ a) (h1 : a ≤ 1099511627776) (w : World) : Calls Try.prog 31 #[.int .i64 a] w fun e w' => e = .returned (.bool true) ∧ w = w' := by
  have := isTerm_any a w; rw [decide_eq_true ⟨h0, h1⟩] at this; exact this
theorem term_no (a : Int) (h : ¬ (0 ≤ a ∧ a ≤ 1099511627776)) (w : World) : Calls Try.prog 31 #[.int .i64 a] w fun e w' => e = .returned (.bool false) ∧ w = w' := by
  have := isTerm_any a w; rw [decide_eq_false h] at this; exact this

theorem ratio_any (a b : Int) (w : World) : Calls Try.prog 23 #[.int .i64 a, .int .i64 b] w fun e w' => RatOut a b e w w' := by
  by_cases h1 : 0 ≤ a ∧ a ≤ 1099511627776
  · by_cases h2 : 0 ≤ b ∧ b ≤ 1099511627776
    · cases hq : floatBits .quo .f64 (floatOfInt .f64 a) (floatOfInt .f64 b) with
      | none =>
        have hop := fun t => run_quo_none t _ _ hq
        have t1 := term_yes a h1.1 h1.2
        have t2 := term_yes b h2.1 h2.2
        go_enter Try.func23, Try.ntmps23
        go_wp2_with fail
        refine (t1 _).mono ?_
        rintro e w' ⟨rfl, rfl⟩
        go_wp2_with fail
        refine (t2 _).mono ?_
        rintro e w' ⟨rfl, rfl⟩
        go_wp2
        go_ret
        exact ⟨_, 1, rfl, rfl, (noneF_nan _ _ _).2, .inr (.inr ⟨h1, h2, hq, (noneF_nan _ _ _).1⟩)⟩
      | some r =>
        have hop : ∀ t w, (binOp .quo t (.float .f64 (floatOfInt .f64 a)) (.float .f64 (floatOfInt .f64 b))).run Try.prog w = .ok (.float .f64 r) w := fun t w => run_float_arith w .quo t .f64 _ _ _ hq
        have hr : r < 18446744073709551616 := by
          have := floatBits_wf hq
          simpa [Lit.wf] using this
        have t1 := term_yes a h1.1 h1.2
        have t2 := term_yes b h2.1 h2.2
        go_enter Try.func23, Try.ntmps23
        go_wp2_with fail
        refine (t1 _).mono ?_
        rintro e w' ⟨rfl, rfl⟩
        go_wp2_with fail
        refine (t2 _).mono ?_
        rintro e w' ⟨rfl, rfl⟩
        go_wp2
        go_ret
        exact ⟨_, 0, rfl, rfl, hr, .inr (.inl ⟨h1, h2, hq⟩)⟩
    · have t1 := term_yes a h1.1 h1.2
      have t2 := term_no b h2
      go_enter Try.func23, Try.ntmps23
      go_wp2_with fail
      refine (t1 _).mono ?_
      rintro e w' ⟨rfl, rfl⟩
      go_wp2_with fail
      refine (t2 _).mono ?_
      rintro e w' ⟨rfl, rfl⟩
      go_wp2
      go_ret
      exact ⟨_, 0, rfl, rfl, by decide, .inl ⟨.inr h2, rfl⟩⟩
  · have t1 := term_no a h1
    go_enter Try.func23, Try.ntmps23
    go_wp2_with fail
    refine (t1 _).mono ?_
    rintro e w' ⟨rfl, rfl⟩
    go_wp2
    go_ret
    exact ⟨_, 0, rfl, rfl, by decide, .inl ⟨.inl h1, rfl⟩⟩
theorem refRatio_any (a b : Int) (w : World) : Calls Try.prog 24 #[.int .i64 a, .int .i64 b] w fun e w' => RatOut a b e w w' := by
  by_cases h1 : 0 ≤ a ∧ a ≤ 1099511627776
  · by_cases h2 : 0 ≤ b ∧ b ≤ 1099511627776
    · cases hq : floatBits .quo .f64 (floatOfInt .f64 a) (floatOfInt .f64 b) with
      | none =>
        have hop := fun t => run_quo_none t _ _ hq
        have s1 := h1.1
        have s2 := h1.2
        have s3 := h2.1
        have s4 := h2.2
        go_enter Try.func24, Try.ntmps24
        go_wp2
        go_ret
        exact ⟨_, 1, rfl, rfl, (noneF_nan _ _ _).2, .inr (.inr ⟨h1, h2, hq, (noneF_nan _ _ _).1⟩)⟩
      | some r =>
        have hop : ∀ t w, (binOp .quo t (.float .f64 (floatOfInt .f64 a)) (.float .f64 (floatOfInt .f64 b))).run Try.prog w = .ok (.float .f64 r) w := fun t w => run_float_arith w .quo t .f64 _ _ _ hq
        have hr : r < 18446744073709551616 := by
          have := floatBits_wf hq
          simpa [Lit.wf] using this
        have s1 := h1.1
        have s2 := h1.2
        have s3 := h2.1
        have s4 := h2.2
        go_enter Try.func24, Try.ntmps24
        go_wp2
        go_ret
        exact ⟨_, 0, rfl, rfl, hr, .inr (.inl ⟨h1, h2, hq⟩)⟩
    · have s1 := h1.1
      have s2 := h1.2
      go_enter Try.func24, Try.ntmps24
      go_wp2
      all_goals (go_ret; exact ⟨_, 0, rfl, rfl, by decide, .inl ⟨.inr h2, rfl⟩⟩)
  · go_enter Try.func24, Try.ntmps24
    go_wp2
    all_goals (go_ret; exact ⟨_, 0, rfl, rfl, by decide, .inl ⟨.inl h1, rfl⟩⟩)
end Go.Proofs.Ytpkikegjoncmaaa
