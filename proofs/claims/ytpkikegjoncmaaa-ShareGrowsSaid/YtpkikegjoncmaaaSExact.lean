/-
  The walk of ShareExact. No conditions.
-/
import Derived.Test.YtpkikegjoncmaaaSn
namespace Go.Proofs.Ytpkikegjoncmaaa
open Go.RowKit (wrap32 wrap64 intOf)
open Go.RowKit
set_option linter.unusedVariables false
set_option maxRecDepth 100000

theorem bounds_u64 {a : Int} (h : (Lit.int .u64 a).wf = true) : 0 ≤ a ∧ a ≤ 18446744073709551615 := by
  have hmin : IntKind.u64.min = 0 := rfl
  have hmax : IntKind.u64.max = 18446744073709551615 := rfl
  simp only [Lit.wf, Bool.and_eq_true, decide_eq_true_eq, hmin, hmax] at h
  exact h

theorem run_shr {P e : Nat} (h : P < 1152921504606846976) (he : e ≤ 14) (w : World) : (Op.shift .shr .u64 (P : Int) .u64 (-(1008 + (e : Int) - 1075))).run Try.prog w = .ok (.int .u64 ((P / 2 ^ (67 - e) : Nat) : Int)) w := by
  unfold Op.shift
  rw [if_neg (by omega), show (-(1008 + (e : Int) - 1075)).toNat = 67 - e by omega, show IntKind.u64.bits = 64 from rfl]
  show Result.ok _ _ = _
  congr 2
  rw [Int.fdiv_eq_ediv_of_nonneg _ (by exact Int.le_of_lt (Int.pow_pos (by decide)))]
  by_cases h1 : 67 - e ≤ 64
  · rw [show min (67 - e) 64 = 67 - e by omega]; simp
  · rw [show min (67 - e) 64 = 64 by omega, div_big h (by omega)]; omega

theorem walkExact (a0 a1 : Int) (w0 : (Lit.int .u64 a0).wf = true) (w1 : (Lit.int .i64 a1).wf = true) (w : World) :
    Calls Try.prog 7 #[.int .u64 a0, .int .i64 a1] w fun e w' => e = .returned (.bool true) ∧ Grown w w' := by
  obtain ⟨l0, u0⟩ := bounds_u64 w0
  obtain ⟨l1, u1⟩ := bounds_i64 w1
  clear w0 w1
  obtain ⟨v, rfl⟩ := Int.eq_ofNat_of_zero_le l0
  have m0 := Int.emod_nonneg a1 (show (64 : Int) ≠ 0 by decide)
  have m1 := Int.emod_lt_of_pos a1 (show (0 : Int) < 64 by decide)
  have hv : v < 18446744073709551616 := by omega
  have ea := and_low hv
  have ea : bits .and .u64 (v : Int) 15 = (v : Int) % 16 := by rw [ea]; omega
  obtain ⟨e, he⟩ : ∃ e, e = v % 16 % 15 := ⟨_, rfl⟩
  have he1 : e ≤ 14 := by omega
  have hm : ∀ w, Calls Try.prog 13 #[.int .i64 ((v : Int) % 16), .int .i64 15] w fun r w' => r = .returned (.int .i64 (e : Int)) ∧ w = w' := by
    intro w
    have := mod_any ((v : Int) % 16) 15 (by decide) (by decide) (by omega) (by omega) w
    rw [show (v : Int) % 16 % 15 = (e : Int) by omega] at this
    exact this
  clear he
  have eo := or_exp (c := 1008 + e) hv (by omega)
  obtain ⟨x, hx⟩ : ∃ x, x = v / 4096 + 4503599627370496 * (1008 + e) := ⟨_, rfl⟩
  rw [← hx] at eo
  have x1 : x / 4503599627370496 = 1008 + e := by omega
  have x2 : x ≤ 4607182418800017407 := by omega
  have x3 : ¬ x < 4503599627370496 := by omega
  have eo : bits .or .u64 ((v : Int) / 4096) ((1008 + (e : Int)) * 4503599627370496) = (x : Int) := by
    rw [← eo]; congr 1; omega
  have hb := run_frombits (x : Int)
  rw [Int.toNat_natCast] at hb
  have hb2 := run_bits x
  have hlead := or_lead (Nat.mod_lt x (show 0 < 4503599627370496 by decide))
  have hfr := and_frac (show x < 18446744073709551616 by omega)
  have hx4 : (x : Int) / 4503599627370496 = 1008 + e := by omega
  have hme : mantF x = x % 4503599627370496 + 4503599627370496 := by unfold mantF; rw [if_neg x3]
  have hse : shF x = 67 - e := by unfold shF; rw [if_neg x3, x1]; omega
  rw [← hme] at hlead
  have hmant := mant_lt x
  have hfe := frE_in (x := x) (n := 1 + a1 % 64) (by omega) (by omega) (by omega)
  have hfk := frK_in (x := x) (n := 1 + a1 % 64) (by omega) (by omega) (by omega) (by omega)
  obtain ⟨hk1, hk2⟩ := fr_le (x := x) (n := 1 + a1 % 64) (by omega) (by omega) (by omega) (by omega)
  have hf := frames_any x (1 + a1 % 64) (by omega)
  rw [hfe] at hf
  unfold prodF at hfk
  rw [hse] at hfk
  have hmod := mod_any a1 64 (by decide) (by decide) l1 u1
  generalize a1 % 64 = n at *
  obtain ⟨m, rfl⟩ : ∃ m : Nat, n = (m : Int) := ⟨n.toNat, by omega⟩
  rw [show (1 + (m : Int)).toNat = 1 + m by omega] at hfk
  generalize mantF x = M at *
  generalize frK x (1 + (m : Int)) = k at *
  have e2 : M * (1 + m) < 1152921504606846976 := by
    have := Nat.mul_le_mul (show M ≤ 9007199254740991 by omega) (show 1 + m ≤ 64 by omega)
    omega
  obtain ⟨P, hP⟩ : ∃ P, P = M * (1 + m) := ⟨_, rfl⟩
  have hp1 : (M : Int) * (1 + (m : Int)) = (P : Int) := by rw [hP]; simp
  rw [← hP] at hfk e2
  have hr : x % 4503599627370496 < 4503599627370496 := Nat.mod_lt _ (by decide)
  have hfr : bits .and .u64 (x : Int) 4503599627370495 = ((x % 4503599627370496 : Nat) : Int) := hfr
  generalize x % 4503599627370496 = r at *
  have hsh := run_shr e2 he1
  generalize P / 2 ^ (67 - e) = Z at *
  obtain ⟨d, hd⟩ : ∃ d, d = decide (Z > 1) := ⟨_, rfl⟩
  have hkz : ((1 < Z ∧ k = Z) ∨ (Z ≤ 1 ∧ k = 1)) := by
    split at hfk <;> omega
  clear hP hx x1 x3 hme hse hfe l1 u1 hfk hd d
  go_enter Try.func7, Try.ntmps7
  go_wp2_with fail
  refine (hm _).mono ?_
  rintro e w' ⟨rfl, rfl⟩
  go_wp2_with fail
  refine (hmod _).mono ?_
  rintro e w' ⟨rfl, rfl⟩
  go_wp2_with fail
  refine (hf _).mono ?_
  rintro e w' ⟨rfl, rfl⟩
  clear hm hmod hf
  rcases hkz with ⟨z1, rfl⟩ | ⟨z1, rfl⟩
  · go_wp2
    all_goals (go_ret; exact ⟨rfl, Grown.refl _⟩)
  · go_wp2
    all_goals (go_ret; exact ⟨rfl, Grown.refl _⟩)
end Go.Proofs.Ytpkikegjoncmaaa
