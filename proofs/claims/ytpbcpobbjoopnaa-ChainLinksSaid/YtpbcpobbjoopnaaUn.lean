/-
  Contracts: Unpair of package frame.
-/
import Derived.Test.YtpbcpobbjoopnaaOf
namespace Go.Proofs.Ytpbcpobbjoopnaa
open Go.RowKit
set_option linter.unusedVariables false

def unE (s : Int) (n : Nat) (p : Int) : Int := if numB s n = false then 1 else if p < 0 ∨ n * n ≤ p then 2 else 0
def unF (s : Int) (n : Nat) (p : Int) : Int := if unE s n p = 0 then p / n else 0
def unG (s : Int) (n : Nat) (p : Int) : Int := if unE s n p = 0 then p % n else 0

theorem sq_bd {n : Nat} (hn : n ≤ 64) : 0 ≤ (n : Int) * n ∧ (n : Int) * n ≤ 4096 := by
  have := Int.mul_nonneg (show (0 : Int) ≤ n by omega) (show (0 : Int) ≤ n by omega)
  have := Int.mul_le_mul (show (n : Int) ≤ 64 by omega) (show (n : Int) ≤ 64 by omega) (by omega) (by omega)
  omega

theorem or_bit (j q : Nat) (hj : j ≤ 6) (hq : q < 4096) : bits .or .i64 ((2 ^ (j + 1) * q : Nat) : Int) ((2 ^ j : Nat) : Int) = ((2 ^ (j + 1) * q + 2 ^ j : Nat) : Int) := by
  have h1 : 2 ^ j < 2 ^ (j + 1) := Nat.pow_lt_pow_of_lt (by decide) (by omega)
  have h2 : 2 ^ (j + 1) ≤ 128 := by
    have := Nat.pow_le_pow_right (show 0 < 2 by decide) (show j + 1 ≤ 7 by omega)
    omega
  have h3 : 2 ^ (j + 1) * q ≤ 128 * 4096 := Nat.mul_le_mul h2 (by omega)
  have hx : (2 ^ (j + 1) * q ||| 2 ^ j) = 2 ^ (j + 1) * q + 2 ^ j := (Nat.two_pow_add_eq_or_of_lt h1 q).symm
  show IntKind.i64.wrap ((BitVec.ofInt 64 ((2 ^ (j + 1) * q : Nat) : Int) ||| BitVec.ofInt 64 ((2 ^ j : Nat) : Int)).toNat : Int) = _
  rw [BitVec.toNat_or, ofInt_i64 _ (by omega), ofInt_i64 _ (by omega), hx, IntKind.wrap_i64]
  omega

/-- What holds of the parts of p before the bit 2 ^ j / 2 is looked at. -/
def UnAt (n : Nat) (p : Int) (f g b : Value) : Prop :=
  ∃ j q r : Nat, j ≤ 6 ∧ q < 4096 ∧ f = .int .i64 ((2 ^ j * q : Nat) : Int) ∧ g = .int .i64 r ∧ b = .int .i64 ((2 ^ j / 2 : Nat) : Int) ∧ r < 2 ^ j * n ∧ p = ((2 ^ j * q : Nat) : Int) * n + r

theorem UnAt.step0 {n j q r : Nat} {p : Int} (hj : j + 1 ≤ 6) (hq : q < 4096) (hr : r < 2 ^ (j + 1) * n) (hp : p = ((2 ^ (j + 1) * q : Nat) : Int) * n + r) (hlt : r < 2 ^ j * n) (hq2 : 2 * q < 4096) :
    UnAt n p (.int .i64 ((2 ^ (j + 1) * q : Nat) : Int)) (.int .i64 r) (.int .i64 ((2 ^ j / 2 : Nat) : Int)) := by
  refine ⟨j, 2 * q, r, by omega, hq2, ?_, rfl, rfl, hlt, ?_⟩
  · rw [Nat.pow_succ, Nat.mul_assoc]
  · rw [hp, Nat.pow_succ, Nat.mul_assoc]

theorem UnAt.step1 {n j q r : Nat} {p : Int} (hj : j + 1 ≤ 6) (hq : q < 4096) (hr : r < 2 ^ (j + 1) * n) (hp : p = ((2 ^ (j + 1) * q : Nat) : Int) * n + r) (hle : 2 ^ j * n ≤ r) (hq2 : 2 * q + 1 < 4096) :
    UnAt n p (.int .i64 ((2 ^ (j + 1) * q + 2 ^ j : Nat) : Int)) (.int .i64 ((r - 2 ^ j * n : Nat) : Int)) (.int .i64 ((2 ^ j / 2 : Nat) : Int)) := by
  have e : 2 ^ (j + 1) * q + 2 ^ j = 2 ^ j * (2 * q + 1) := by
    rw [Nat.pow_succ, Nat.mul_assoc, Nat.mul_add, Nat.mul_one]
  refine ⟨j, 2 * q + 1, r - 2 ^ j * n, by omega, hq2, by rw [e], rfl, rfl, ?_, ?_⟩
  · rw [Nat.pow_succ, Nat.mul_assoc] at hr
    have e2 : 2 ^ j * (2 * n) = 2 ^ j * n + 2 ^ j * n := by rw [Nat.two_mul, Nat.mul_add]
    omega
  · rw [hp, ← e]
    have h1 : ((r - 2 ^ j * n : Nat) : Int) = (r : Int) - ((2 ^ j * n : Nat) : Int) := by omega
    rw [h1]
    have h2 : ((2 ^ (j + 1) * q + 2 ^ j : Nat) : Int) * n = ((2 ^ (j + 1) * q : Nat) : Int) * n + ((2 ^ j * n : Nat) : Int) := by
      simp only [Int.natCast_add, Int.add_mul, Int.natCast_mul]
    rw [h2]
    omega

theorem UnAt.small {n j q r : Nat} {p : Int} (hp : p = ((2 ^ j * q : Nat) : Int) * n + r) (hn : n ≤ 64) (hn0 : 0 < n) (h : p < 4096) : q < 4096 ∧ 2 ^ j * q < 4096 := by
  have h1 : 2 ^ j * q ≤ 2 ^ j * q * n := Nat.le_mul_of_pos_right _ hn0
  have h2 : q ≤ 2 ^ j * q := Nat.le_mul_of_pos_left _ (Nat.two_pow_pos j)
  have h3 : ((2 ^ j * q : Nat) : Int) * n = ((2 ^ j * q * n : Nat) : Int) := by rw [Int.natCast_mul (2 ^ j * q) n]
  omega

end Go.Proofs.Ytpbcpobbjoopnaa
