/-
  The walk of ShareGrows. No conditions.
-/
import Derived.Test.YtpkikegjoncmaaaSExact
namespace Go.Proofs.Ytpkikegjoncmaaa
open Go.RowKit (wrap32 wrap64 intOf)
open Go.RowKit
set_option linter.unusedVariables false
set_option maxRecDepth 100000

theorem fo_share {x y : Nat} (h : x ≤ y) (hy : y ≤ 4607182418800017408) : FloatKind.f64.format.order x y = some .lt ∨ (x = y ∧ FloatKind.f64.format.order x y = some .eq) := by
  have z0 : nanF x = false := by rw [nan_small (by omega)]; exact decide_eq_false (by omega)
  have z1 : nanF y = false := by rw [nan_small (by omega)]; exact decide_eq_false (by omega)
  rcases Nat.lt_or_ge x y with a | a
  · exact .inl (fo_lt z0 z1 (by rw [key_small (by omega), key_small (by omega)]; omega))
  · exact .inr ⟨by omega, fo_eq z0 z1 (by rw [key_small (by omega), key_small (by omega)]; omega)⟩
theorem fo_share' {x y : Nat} (h : y ≤ x) (hx : x ≤ 4607182418800017408) : FloatKind.f64.format.order x y = some .gt ∨ (x = y ∧ FloatKind.f64.format.order x y = some .eq) := by
  have z0 : nanF x = false := by rw [nan_small (by omega)]; exact decide_eq_false (by omega)
  have z1 : nanF y = false := by rw [nan_small (by omega)]; exact decide_eq_false (by omega)
  rcases Nat.lt_or_ge y x with a | a
  · exact .inl (fo_gt z0 z1 (by rw [key_small (by omega), key_small (by omega)]; omega))
  · exact .inr ⟨by omega, fo_eq z0 z1 (by rw [key_small (by omega), key_small (by omega)]; omega)⟩
/-- The least and the greatest of two shares. -/
theorem run_min_le {x y : Nat} (h : x ≤ y) (hy : y ≤ 4607182418800017408) (ts : Array TypeId) (t : TypeId) (w : World) : (Builtin.min_ ts t #[.float .f64 x, .float .f64 y]).run Try.prog w = .ok (.float .f64 x) w := by
  rcases fo_share h hy with e | ⟨rfl, e⟩ <;> simp [Builtin.min_, Builtin.min2, e]
theorem run_min_ge {x y : Nat} (h : y ≤ x) (hx : x ≤ 4607182418800017408) (ts : Array TypeId) (t : TypeId) (w : World) : (Builtin.min_ ts t #[.float .f64 x, .float .f64 y]).run Try.prog w = .ok (.float .f64 y) w := by
  rcases fo_share' h hx with e | ⟨rfl, e⟩ <;> simp [Builtin.min_, Builtin.min2, e]
theorem run_max_le {x y : Nat} (h : x ≤ y) (hy : y ≤ 4607182418800017408) (ts : Array TypeId) (t : TypeId) (w : World) : (Builtin.max_ ts t #[.float .f64 x, .float .f64 y]).run Try.prog w = .ok (.float .f64 y) w := by
  rcases fo_share h hy with e | ⟨rfl, e⟩ <;> simp [Builtin.max_, Builtin.max2, e]
theorem run_max_ge {x y : Nat} (h : y ≤ x) (hx : x ≤ 4607182418800017408) (ts : Array TypeId) (t : TypeId) (w : World) : (Builtin.max_ ts t #[.float .f64 x, .float .f64 y]).run Try.prog w = .ok (.float .f64 x) w := by
  rcases fo_share' h hx with e | ⟨rfl, e⟩ <;> simp [Builtin.max_, Builtin.max2, e]
theorem fo_zz : FloatKind.f64.format.order 0 0 = some .eq := by decide
theorem valid_yes (x : Nat) (hx : x ≤ 4607182418800017408) (w : World) : Calls Try.prog 11 #[.float .f64 x] w fun e w' => e = .returned (.bool true) ∧ w = w' := by
  have := valid_any x (by omega) w; rw [okF_yes hx] at this; exact this
theorem valid_no (x : Nat) (hx : x < 18446744073709551616) (h : 4607182418800017408 < x) (w : World) : Calls Try.prog 11 #[.float .f64 x] w fun e w' => e = .returned (.bool false) ∧ w = w' := by
  have := valid_any x hx w; rw [okF_no h] at this; exact this
theorem frames_in (x : Nat) (n : Int) (hx : x ≤ 4607182418800017408) (n0 : 1 ≤ n) (n1 : n ≤ 64) (w : World) : Calls Try.prog 14 #[.float .f64 x, .int .i64 n] w fun e w' => e = .returned (.tuple #[.int .i64 (frK x n), .int .i64 0]) ∧ w = w' := by
  have := frames_any x n (by omega) w; rw [frE_in hx n0 n1] at this; exact this
theorem frames_one (n : Int) (n0 : 1 ≤ n) (n1 : n ≤ 64) (w : World) : Calls Try.prog 14 #[.float .f64 4607182418800017408, .int .i64 n] w fun e w' => e = .returned (.tuple #[.int .i64 n, .int .i64 0]) ∧ w = w' := by
  have := frames_in 4607182418800017408 n (by omega) n0 n1 w; rw [fr_one n0 n1] at this; exact this

set_option maxHeartbeats 3200000 in
theorem walkGrows (a0 a1 a2 a3 a4 a5 : Int) (w0 : (Lit.int .u64 a0).wf = true) (w1 : (Lit.int .u64 a1).wf = true) (w2 : (Lit.int .i64 a2).wf = true) (w3 : (Lit.int .i64 a3).wf = true) (w4 : (Lit.int .i64 a4).wf = true) (w5 : (Lit.int .i64 a5).wf = true) (w : World) :
    Calls Try.prog 8 #[.int .u64 a0, .int .u64 a1, .int .i64 a2, .int .i64 a3, .int .i64 a4, .int .i64 a5] w fun e w' => e = .returned (.bool true) ∧ Grown w w' := by
  obtain ⟨l0, u0⟩ := bounds_u64 w0
  obtain ⟨l1, u1⟩ := bounds_u64 w1
  obtain ⟨l2, u2⟩ := bounds_i64 w2
  obtain ⟨l3, u3⟩ := bounds_i64 w3
  obtain ⟨l4, u4⟩ := bounds_i64 w4
  obtain ⟨l5, u5⟩ := bounds_i64 w5
  clear w0 w1 w2 w3 w4 w5
  obtain ⟨u, rfl⟩ := Int.eq_ofNat_of_zero_le l0
  obtain ⟨v, rfl⟩ := Int.eq_ofNat_of_zero_le l1
  have c1 := number_any u a2 (by omega) l2 u2
  have c2 := number_any v a3 (by omega) l3 u3
  have hx := numF_lt (v := u) a2 (by omega)
  have hy := numF_lt (v := v) a3 (by omega)
  generalize numF u a2 = x at *
  generalize numF v a3 = y at *
  go_enter Try.func8, Try.ntmps8
  go_wp2_with fail
  refine (c1 _).mono ?_
  rintro e wa ⟨rfl, hs1⟩
  go_wp2_with fail
  refine (c2 _).mono ?_
  rintro e wb ⟨rfl, hs2⟩
  have HS := Lib.hid (hs1.trans hs2)
  clear hs1 hs2 c1 c2
  by_cases h1 : 4607182418800017408 < x
  · go_wp2_with (first | (go_at_call 11; (first | refine (valid_no _ (by assumption) (by assumption) _).mono ?_ | refine (valid_yes _ (by assumption) _).mono ?_); rintro e w' ⟨rfl, rfl⟩) | (go_at_call 16; refine (awake_any _).mono ?_; rintro e w' ⟨rfl, rfl⟩))
    all_goals (go_ret; exact ⟨rfl, HS.out.2⟩)
  · have h1' : x ≤ 4607182418800017408 := by omega
    clear h1
    by_cases h2 : 4607182418800017408 < y
    · go_wp2_with (first | (go_at_call 11; (first | refine (valid_no _ (by assumption) (by assumption) _).mono ?_ | refine (valid_yes _ (by assumption) _).mono ?_); rintro e w' ⟨rfl, rfl⟩) | (go_at_call 16; refine (awake_any _).mono ?_; rintro e w' ⟨rfl, rfl⟩))
      all_goals (go_ret; exact ⟨rfl, HS.out.2⟩)
    · have h2' : y ≤ 4607182418800017408 := by omega
      clear h2
      have z0 := fo_zz
      by_cases h3 : x = 0
      · subst h3
        go_wp2_with (first | (go_at_call 11; (first | refine (valid_yes _ (by assumption) _).mono ?_); rintro e w' ⟨rfl, rfl⟩) | (go_at_call 16; refine (awake_any _).mono ?_; rintro e w' ⟨rfl, rfl⟩))
        all_goals (go_ret; exact ⟨rfl, HS.out.2⟩)
      · have e1 := fo_zero (x := x) (by omega) h1'
        by_cases h4 : y = 0
        · subst h4
          go_wp2_with (first | (go_at_call 11; (first | refine (valid_yes _ (by assumption) _).mono ?_); rintro e w' ⟨rfl, rfl⟩) | (go_at_call 16; refine (awake_any _).mono ?_; rintro e w' ⟨rfl, rfl⟩))
          all_goals (go_ret; exact ⟨rfl, HS.out.2⟩)
        · have e2 := fo_zero (x := y) (by omega) h2'
          have m0 := Int.emod_nonneg a4 (show (64 : Int) ≠ 0 by decide)
          have m1 := Int.emod_lt_of_pos a4 (show (0 : Int) < 64 by decide)
          have n0 := Int.emod_nonneg a5 (show (64 : Int) ≠ 0 by decide)
          have n1 := Int.emod_lt_of_pos a5 (show (0 : Int) < 64 by decide)
          have d1 := mod_any a4 64 (by decide) (by decide) l4 u4
          have d2 := mod_any a5 64 (by decide) (by decide) l5 u5
          generalize a4 % 64 = a at *
          generalize a5 % 64 = b at *
          have f1 := frames_one (1 + a) (by omega) (by omega)
          have key : ∀ (x0 x1 : Nat) (c0 c1 : Int), x0 ≤ x1 → x0 ≠ 0 → x1 ≤ 4607182418800017408 → 1 ≤ c0 → c0 ≤ c1 → c1 ≤ 64 → ∃ p q : Int, 1 ≤ p ∧ p ≤ q ∧ (∀ w, Calls Try.prog 14 #[.float .f64 x0, .int .i64 c0] w fun e w' => e = .returned (.tuple #[.int .i64 p, .int .i64 0]) ∧ w = w') ∧ (∀ w, Calls Try.prog 14 #[.float .f64 x1, .int .i64 c1] w fun e w' => e = .returned (.tuple #[.int .i64 q, .int .i64 0]) ∧ w = w') := by
            intro x0 x1 c0 c1 t0 t1 t2 t3 t4 t5
            obtain ⟨r1, r2⟩ := fr_mono t0 t1 t2 t3 t4 t5
            exact ⟨_, _, r1, r2, frames_in x0 c0 (by omega) t3 (by omega), frames_in x1 c1 t2 (by omega) t5⟩
          rcases Nat.le_total x y with hxy | hxy <;> rcases Int.lt_trichotomy a b with hab | rfl | hab
          · have t1 := run_min_le hxy h2'
            have t2 := run_max_le hxy h2'
            obtain ⟨p, q, p1, pq, g1, g2⟩ := key x y (1 + a) (1 + b) hxy (by omega) h2' (by omega) (by omega) (by omega)
            clear key
            go_wp2_with (go_at_call 11; refine (valid_yes _ (by assumption) _).mono ?_; rintro e w' ⟨rfl, rfl⟩)
            refine (d1 _).mono ?_
            rintro e w' ⟨rfl, rfl⟩
            go_wp2_with fail
            refine (d2 _).mono ?_
            rintro e w' ⟨rfl, rfl⟩
            go_wp2_with fail
            refine (g1 _).mono ?_
            rintro e w' ⟨rfl, rfl⟩
            go_wp2_with fail
            refine (g2 _).mono ?_
            rintro e w' ⟨rfl, rfl⟩
            go_wp2_with fail
            refine (f1 _).mono ?_
            rintro e w' ⟨rfl, rfl⟩
            clear d1 d2 g1 g2 f1 t1 t2
            go_wp2_with (go_at_call 16; refine (awake_any _).mono ?_; rintro e w' ⟨rfl, rfl⟩)
            all_goals (go_ret; exact ⟨rfl, HS.out.2⟩)
          · have t1 := run_min_le hxy h2'
            have t2 := run_max_le hxy h2'
            obtain ⟨p, q, p1, pq, g1, g2⟩ := key x y (1 + a) (1 + a) hxy (by omega) h2' (by omega) (by omega) (by omega)
            clear key
            go_wp2_with (go_at_call 11; refine (valid_yes _ (by assumption) _).mono ?_; rintro e w' ⟨rfl, rfl⟩)
            refine (d1 _).mono ?_
            rintro e w' ⟨rfl, rfl⟩
            go_wp2_with fail
            refine (d2 _).mono ?_
            rintro e w' ⟨rfl, rfl⟩
            go_wp2_with fail
            refine (g1 _).mono ?_
            rintro e w' ⟨rfl, rfl⟩
            go_wp2_with fail
            refine (g2 _).mono ?_
            rintro e w' ⟨rfl, rfl⟩
            go_wp2_with fail
            refine (f1 _).mono ?_
            rintro e w' ⟨rfl, rfl⟩
            clear d1 d2 g1 g2 f1 t1 t2
            go_wp2_with (go_at_call 16; refine (awake_any _).mono ?_; rintro e w' ⟨rfl, rfl⟩)
            all_goals (go_ret; exact ⟨rfl, HS.out.2⟩)
          · have t1 := run_min_le hxy h2'
            have t2 := run_max_le hxy h2'
            obtain ⟨p, q, p1, pq, g1, g2⟩ := key x y (1 + b) (1 + a) hxy (by omega) h2' (by omega) (by omega) (by omega)
            clear key
            go_wp2_with (go_at_call 11; refine (valid_yes _ (by assumption) _).mono ?_; rintro e w' ⟨rfl, rfl⟩)
            refine (d1 _).mono ?_
            rintro e w' ⟨rfl, rfl⟩
            go_wp2_with fail
            refine (d2 _).mono ?_
            rintro e w' ⟨rfl, rfl⟩
            go_wp2_with fail
            refine (g1 _).mono ?_
            rintro e w' ⟨rfl, rfl⟩
            go_wp2_with fail
            refine (g2 _).mono ?_
            rintro e w' ⟨rfl, rfl⟩
            go_wp2_with fail
            refine (f1 _).mono ?_
            rintro e w' ⟨rfl, rfl⟩
            clear d1 d2 g1 g2 f1 t1 t2
            go_wp2_with (go_at_call 16; refine (awake_any _).mono ?_; rintro e w' ⟨rfl, rfl⟩)
            all_goals (go_ret; exact ⟨rfl, HS.out.2⟩)
          · have t1 := run_min_ge hxy h1'
            have t2 := run_max_ge hxy h1'
            obtain ⟨p, q, p1, pq, g1, g2⟩ := key y x (1 + a) (1 + b) hxy (by omega) h1' (by omega) (by omega) (by omega)
            clear key
            go_wp2_with (go_at_call 11; refine (valid_yes _ (by assumption) _).mono ?_; rintro e w' ⟨rfl, rfl⟩)
            refine (d1 _).mono ?_
            rintro e w' ⟨rfl, rfl⟩
            go_wp2_with fail
            refine (d2 _).mono ?_
            rintro e w' ⟨rfl, rfl⟩
            go_wp2_with fail
            refine (g1 _).mono ?_
            rintro e w' ⟨rfl, rfl⟩
            go_wp2_with fail
            refine (g2 _).mono ?_
            rintro e w' ⟨rfl, rfl⟩
            go_wp2_with fail
            refine (f1 _).mono ?_
            rintro e w' ⟨rfl, rfl⟩
            clear d1 d2 g1 g2 f1 t1 t2
            go_wp2_with (go_at_call 16; refine (awake_any _).mono ?_; rintro e w' ⟨rfl, rfl⟩)
            all_goals (go_ret; exact ⟨rfl, HS.out.2⟩)
          · have t1 := run_min_ge hxy h1'
            have t2 := run_max_ge hxy h1'
            obtain ⟨p, q, p1, pq, g1, g2⟩ := key y x (1 + a) (1 + a) hxy (by omega) h1' (by omega) (by omega) (by omega)
            clear key
            go_wp2_with (go_at_call 11; refine (valid_yes _ (by assumption) _).mono ?_; rintro e w' ⟨rfl, rfl⟩)
            refine (d1 _).mono ?_
            rintro e w' ⟨rfl, rfl⟩
            go_wp2_with fail
            refine (d2 _).mono ?_
            rintro e w' ⟨rfl, rfl⟩
            go_wp2_with fail
            refine (g1 _).mono ?_
            rintro e w' ⟨rfl, rfl⟩
            go_wp2_with fail
            refine (g2 _).mono ?_
            rintro e w' ⟨rfl, rfl⟩
            go_wp2_with fail
            refine (f1 _).mono ?_
            rintro e w' ⟨rfl, rfl⟩
            clear d1 d2 g1 g2 f1 t1 t2
            go_wp2_with (go_at_call 16; refine (awake_any _).mono ?_; rintro e w' ⟨rfl, rfl⟩)
            all_goals (go_ret; exact ⟨rfl, HS.out.2⟩)
          · have t1 := run_min_ge hxy h1'
            have t2 := run_max_ge hxy h1'
            obtain ⟨p, q, p1, pq, g1, g2⟩ := key y x (1 + b) (1 + a) hxy (by omega) h1' (by omega) (by omega) (by omega)
            clear key
            go_wp2_with (go_at_call 11; refine (valid_yes _ (by assumption) _).mono ?_; rintro e w' ⟨rfl, rfl⟩)
            refine (d1 _).mono ?_
            rintro e w' ⟨rfl, rfl⟩
            go_wp2_with fail
            refine (d2 _).mono ?_
            rintro e w' ⟨rfl, rfl⟩
            go_wp2_with fail
            refine (g1 _).mono ?_
            rintro e w' ⟨rfl, rfl⟩
            go_wp2_with fail
            refine (g2 _).mono ?_
            rintro e w' ⟨rfl, rfl⟩
            go_wp2_with fail
            refine (f1 _).mono ?_
            rintro e w' ⟨rfl, rfl⟩
            clear d1 d2 g1 g2 f1 t1 t2
            go_wp2_with (go_at_call 16; refine (awake_any _).mono ?_; rintro e w' ⟨rfl, rfl⟩)
            all_goals (go_ret; exact ⟨rfl, HS.out.2⟩)
end Go.Proofs.Ytpkikegjoncmaaa
