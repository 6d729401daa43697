/-
  The walk of HeaderApart. No conditions.
-/
import Derived.Test.YtplifmmabfjfoaaHw
namespace Go.Proofs.Ytplifmmabfjfoaa
open Go.RowKit (wrap32 wrap64 intOf)
open Go.RowKit
set_option linter.unusedVariables false
set_option maxRecDepth 100000

set_option maxHeartbeats 3200000 in
theorem walkApart (a0 a1 a2 a3 a4 a5 : Int) (w0 : (Lit.int .i64 a0).wf = true) (w1 : (Lit.int .i64 a1).wf = true) (w2 : (Lit.int .i64 a2).wf = true) (w3 : (Lit.int .i64 a3).wf = true) (w4 : (Lit.int .i64 a4).wf = true) (w5 : (Lit.int .i64 a5).wf = true) (w : World) :
    Calls Try.prog 6 #[.int .i64 a0, .int .i64 a1, .int .i64 a2, .int .i64 a3, .int .i64 a4, .int .i64 a5] w fun e w' => e = .returned (.bool true) ∧ Grown w w' := by
  obtain ⟨l0, u0⟩ := bounds_i64 w0
  obtain ⟨l1, u1⟩ := bounds_i64 w1
  obtain ⟨l2, u2⟩ := bounds_i64 w2
  obtain ⟨l3, u3⟩ := bounds_i64 w3
  obtain ⟨l4, u4⟩ := bounds_i64 w4
  obtain ⟨l5, u5⟩ := bounds_i64 w5
  clear w0 w1 w2 w3 w4 w5
  have m0 := mod_any a0 16 (by decide) (by decide) l0 u0
  have m1 := mod_any a1 33 (by decide) (by decide) l1 u1
  have m2 := mod_any a2 16 (by decide) (by decide) l2 u2
  have m3 := mod_any a3 33 (by decide) (by decide) l3 u3
  have m4 := mod_any a4 16384 (by decide) (by decide) l4 u4
  have m5 := mod_any a5 16384 (by decide) (by decide) l5 u5
  obtain ⟨p, hp⟩ : ∃ x, x = a0 % 16 := ⟨_, rfl⟩
  obtain ⟨q, hq⟩ : ∃ x, x = a1 % 33 := ⟨_, rfl⟩
  obtain ⟨r, hr⟩ : ∃ x, x = a2 % 16 := ⟨_, rfl⟩
  obtain ⟨s, hs⟩ : ∃ x, x = a3 % 33 := ⟨_, rfl⟩
  obtain ⟨t, ht⟩ : ∃ x, x = a4 % 16384 := ⟨_, rfl⟩
  obtain ⟨u, hu⟩ : ∃ x, x = a5 % 16384 := ⟨_, rfl⟩
  rw [← hp] at m0
  rw [← hq] at m1
  rw [← hr] at m2
  rw [← hs] at m3
  rw [← ht] at m4
  rw [← hu] at m5
  have p0 : 0 ≤ p ∧ p ≤ 15 ∧ 0 ≤ q ∧ q ≤ 32 := by omega
  have r0 : 0 ≤ r ∧ r ≤ 15 ∧ 0 ≤ s ∧ s ≤ 32 := by omega
  have t0 : 0 ≤ t ∧ t < 16384 := by omega
  have u0 : 0 ≤ u ∧ u < 16384 := by omega
  clear hp hq hr hs ht hu
  have k1 := live_any p q (by omega) (by omega) (by omega) (by omega)
  have k2 := live_any r s (by omega) (by omega) (by omega) (by omega)
  have k3 := fwd_any t (by omega) (by omega)
  have k4 := fwd_any u (by omega) (by omega)
  rw [(live_in p0).1, (live_in p0).2] at k1
  rw [(live_in r0).1, (live_in r0).2] at k2
  rw [(fwd_in t0).1, (fwd_in t0).2] at k3
  rw [(fwd_in u0).1, (fwd_in u0).2] at k4
  obtain ⟨V, hV⟩ : ∃ x, x = (1 + p + q) * 256 + p * 2 := ⟨_, rfl⟩
  obtain ⟨U, hU⟩ : ∃ x, x = (1 + r + s) * 256 + r * 2 := ⟨_, rfl⟩
  obtain ⟨M, hM⟩ : ∃ x, x = 2 * t + 1 := ⟨_, rfl⟩
  obtain ⟨N, hN⟩ : ∃ x, x = 2 * u + 1 := ⟨_, rfl⟩
  rw [← hV] at k1
  rw [← hU] at k2
  rw [← hM] at k3
  rw [← hN] at k4
  have hVM : ¬ V = M := by omega
  have hV0 : ¬ V = 0 := by omega
  have hM0 : ¬ M = 0 := by omega
  have hx : (M == N) = (t == u) := by
    by_cases h : t = u
    · rw [beq_iff_eq.2 h, beq_iff_eq.2 (by omega)]
    · rw [beq_eq_false_iff_ne.2 h, beq_eq_false_iff_ne.2 (by omega)]
  have hc : ((p == r) = true ∧ (V == U) = (q == s)) ∨ ((p == r) = false ∧ (V == U) = false) := by
    by_cases h : p = r
    · refine .inl ⟨beq_iff_eq.2 h, ?_⟩
      by_cases h' : q = s
      · rw [beq_iff_eq.2 h', beq_iff_eq.2 (by omega)]
      · rw [beq_eq_false_iff_ne.2 h', beq_eq_false_iff_ne.2 (by omega)]
    · exact .inr ⟨beq_eq_false_iff_ne.2 h, beq_eq_false_iff_ne.2 (by omega)⟩
  clear hV hU hM hN p0 r0 t0 u0 l0 l1 l2 l3 l4 l5 u1 u2 u3 u4 u5
  rcases hc with ⟨hc1, hc2⟩ | ⟨hc1, hc2⟩
  all_goals (
    go_enter Try.func6, Try.ntmps6
    go_wp2_with fail
    refine (m0 _).mono ?_
    rintro e w' ⟨rfl, rfl⟩
    go_wp2_with fail
    refine (m1 _).mono ?_
    rintro e w' ⟨rfl, rfl⟩
    go_wp2_with fail
    refine (m2 _).mono ?_
    rintro e w' ⟨rfl, rfl⟩
    go_wp2_with fail
    refine (m3 _).mono ?_
    rintro e w' ⟨rfl, rfl⟩
    go_wp2_with fail
    refine (m4 _).mono ?_
    rintro e w' ⟨rfl, rfl⟩
    go_wp2_with fail
    refine (m5 _).mono ?_
    rintro e w' ⟨rfl, rfl⟩
    go_wp2_with fail
    refine (k1 _).mono ?_
    rintro e w' ⟨rfl, rfl⟩
    go_wp2_with fail
    refine (k2 _).mono ?_
    rintro e w' ⟨rfl, rfl⟩
    go_wp2_with fail
    refine (k3 _).mono ?_
    rintro e w' ⟨rfl, rfl⟩
    go_wp2_with fail
    refine (k4 _).mono ?_
    rintro e w' ⟨rfl, rfl⟩
    go_wp2_with fail
    refine (awake7_any _).mono ?_
    rintro e w' ⟨rfl, rfl⟩
    go_wp2_with fail
    go_ret
    exact ⟨ret_bool (by first | rfl | (simp [hVM, hV0, hM0]; done) | (simp [hVM, hV0, hM0]; omega)), Grown.refl _⟩)
end Go.Proofs.Ytplifmmabfjfoaa
