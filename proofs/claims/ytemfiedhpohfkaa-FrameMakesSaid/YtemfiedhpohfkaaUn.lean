/-
  Contracts: Unpair of package frame.
-/
import Derived.Test.YtemfiedhpohfkaaOf
namespace Go.Proofs.Ytemfiedhpohfkaa
open Go.RowKit
set_option linter.unusedVariables false

def unE (s : Int) (n : Nat) (p : Int) : Int := if numB s n = false then 1 else if p < 0 ∨ n * n ≤ p then 2 else 0
def unF (s : Int) (n : Nat) (p : Int) : Int := if unE s n p = 0 then p / n else 0
def unG (s : Int) (n : Nat) (p : Int) : Int := if unE s n p = 0 then p % n else 0

theorem sq_bd {n : Nat} (hn : n ≤ 64) : 0 ≤ (n : Int) * n ∧ (n : Int) * n ≤ 4096 := by
  have := Int.mul_nonneg (show (0 : Int) ≤ n by omega) (show (0 : Int) ≤ n by omega)
  have := Int.mul_le_mul (show (n : Int) ≤ 64 by omega) (show (n : Int) ≤ 64 by omega) (by omega) (by omega)
  omega

theorem or_bit (j q : Nat) (hj : j ≤ 6) (hq : q < 4096) : bits .or .i64 ((2 ^ (j + 1) * q : Nat) : Int) ((2 ^ j : Nat) : Int) = ((2 ^ (j + 1) * q + 2 ^ j : Nat) : Int) := by
  have h1 : 2 ^ j < 2 ^ (j + 1) := Nat.pow_lt_pow_of_lt (by decide) (by omega)
  have h2 : 2 ^ (j + 1) ≤ 128 := by
    have := Nat.pow_le_pow_right (show 0 < 2 by decide) (show j + 1 ≤ 7 by omega)
    omega
  have h3 : 2 ^ (j + 1) * q ≤ 128 * 4096 := Nat.mul_le_mul h2 (by omega)
  have hx : (2 ^ (j + 1) * q ||| 2 ^ j) = 2 ^ (j + 1) * q + 2 ^ j := (Nat.two_pow_add_eq_or_of_lt h1 q).symm
  show IntKind.i64.wrap ((BitVec.ofInt 64 ((2 ^ (j + 1) * q : Nat) : Int) ||| BitVec.ofInt 64 ((2 ^ j : Nat) : Int)).toNat : Int) = _
  rw [BitVec.toNat_or, ofInt_i64 _ (by omega), ofInt_i64 _ (by omega), hx, IntKind.wrap_i64]
  omega

/-- What holds of the parts of p before the bit 2 ^ j / 2 is looked at. -/
def UnAt (n : Nat) (p : Int) (f g b : Value) : Prop :=
  ∃ j q r : Nat, j ≤ 6 ∧ q < 4096 ∧ f = .int .i64 ((2 ^ j * q : Nat) : Int) ∧ g = .int .i64 r ∧ b = .int .i64 ((2 ^ j / 2 : Nat) : Int) ∧ r < 2 ^ j * n ∧ p = ((2 ^ j * q : Nat) : Int) * n + r

theorem UnAt.step0 {n j q r : Nat} {p : Int} (hj : j + 1 ≤ 6) (hq : q < 4096) (hr : r < 2 ^ (j + 1) * n) (hp : p = ((2 ^ (j + 1) * q : Nat) : Int) * n + r) (hlt : r < 2 ^ j * n) (hq2 : 2 * q < 4096) :
    UnAt n p (.int .i64 ((2 ^ (j + 1) * q : Nat) : Int)) (.int .i64 r) (.int .i64 ((2 ^ j / 2 : Nat) : Int)) := by
  refine ⟨j, 2 * q, r, by omega, hq2, ?_, rfl, rfl, hlt, ?_⟩
  · rw [Nat.pow_succ, Nat.mul_assoc]
  · rw [hp, Nat.pow_succ, Nat.mul_assoc]

theorem UnAt.step1 {n j q r : Nat} {p : Int} (hj : j + 1 ≤ 6) (hq : q < 4096) (hr : r < 2 ^ (j + 1) * n) (hp : p = ((2 ^ (j + 1) * q : Nat) : Int) * n + r) (hle : 2 ^ j * n ≤ r) (hq2 : 2 * q + 1 < 4096) :
    UnAt n p (.int .i64 ((2 ^ (j + 1) * q + 2 ^ j : Nat) : Int)) (.int .i64 ((r - 2 ^ j * n : Nat) : Int)) (.int .i64 ((2 ^ j / 2 : Nat) : Int)) := by
  have e : 2 ^ (j + 1) * q + 2 ^ j = 2 ^ j * (2 * q + 1) := by
    rw [Nat.pow_succ, Nat.mul_assoc, Nat.mul_add, Nat.mul_one]
  refine ⟨j, 2 * q + 1, r - 2 ^ j * n, by omega, hq2, by rw [e], rfl, rfl, ?_, ?_⟩
  · rw [Nat.pow_succ, Nat.mul_assoc] at hr
    have e2 : 2 ^ j * (2 * n) = 2 ^ j * n + 2 ^ j * n := by rw [Nat.two_mul, Nat.mul_add]
    omega
  · rw [hp, ← e]
    have h1 : ((r - 2 ^ j * n : Nat) : Int) = (r : Int) - ((2 ^ j * n : Nat) : Int) := by omega
    rw [h1]
    have h2 : ((2 ^ (j + 1) * q + 2 ^ j : Nat) : Int) * n = ((2 ^ (j + 1) * q : Nat) : Int) * n + ((2 ^ j * n : Nat) : Int) := by
      simp only [Int.natCast_add, Int.add_mul, Int.natCast_mul]
    rw [h2]
    omega

theorem UnAt.small {n j q r : Nat} {p : Int} (hp : p = ((2 ^ j * q : Nat) : Int) * n + r) (hn : n ≤ 64) (hn0 : 0 < n) (h : p < 4096) : q < 4096 ∧ 2 ^ j * q < 4096 := by
  have h1 : 2 ^ j * q ≤ 2 ^ j * q * n := Nat.le_mul_of_pos_right _ hn0
  have h2 : q ≤ 2 ^ j * q := Nat.le_mul_of_pos_left _ (Nat.two_pow_pos j)
  have h3 : ((2 ^ j * q : Nat) : Int) * n = ((2 ^ j * q * n : Nat) : Int) := by rw [Int.natCast_mul (2 ^ j * q) n]
  omega

set_option maxHeartbeats 1000000 in
theorem unpair_any (s : Int) (V1 : Value) (A : Option Addr) (n c : Nat) (p : Int) (w : World) (a0 : -9223372036854775808 ≤ p) (a1 : p ≤ 9223372036854775807) :
    Calls Try.prog 26 #[.agg #[.int .i64 s, V1, .slice A n c], .int .i64 p] w (Gives3 (unF s n p) (unG s n p) (unE s n p) w) := by
  rcases hn : numB s n with _ | _
  · have e1 : unE s n p = 1 := by simp [unE, hn]
    have e2 : unF s n p = 0 := by simp [unF, e1]
    have e3 : unG s n p = 0 := by simp [unG, e1]
    rw [e1, e2, e3]
    have H := Lib.hid hn
    clear hn e1 e2 e3
    go_enter Try.func26, Try.ntmps26
    go_wp2_with (go_at_call 40; refine (hasNumbers_any _ _ _ _ _ _).mono ?_; rintro e w1 ⟨rfl, hb⟩; rw [H.out]; have HB := Lib.hid hb; clear hb)
    go_ret3
    exact ⟨rfl, below_box HB.out⟩
  · obtain ⟨k, rfl, k1, k2, n1⟩ := numB_yes hn
    obtain ⟨q0, q1⟩ := sq_bd n1
    by_cases h0 : p < 0
    · have e1 : unE k n p = 2 := by simp [unE, hn]; omega
      have e2 : unF k n p = 0 := by simp [unF, e1]
      have e3 : unG k n p = 0 := by simp [unG, e1]
      rw [e1, e2, e3]
      have H := Lib.hid hn
      clear hn e1 e2 e3
      go_enter Try.func26, Try.ntmps26
      go_wp2_with (go_at_call 40; refine (hasNumbers_any _ _ _ _ _ _).mono ?_; rintro e w1 ⟨rfl, hb⟩; rw [H.out]; obtain ⟨bc, bf⟩ := bcell hb; have HB := Lib.hid hb; clear hb)
      go_ret3
      exact ⟨rfl, below_box HB.out⟩
    · by_cases h2 : (n : Int) * n ≤ p
      · have e1 : unE k n p = 2 := by simp [unE, hn]; omega
        have e2 : unF k n p = 0 := by simp [unF, e1]
        have e3 : unG k n p = 0 := by simp [unG, e1]
        rw [e1, e2, e3]
        have H := Lib.hid hn
        clear hn e1 e2 e3
        go_enter Try.func26, Try.ntmps26
        go_wp2_with (go_at_call 40; refine (hasNumbers_any _ _ _ _ _ _).mono ?_; rintro e w1 ⟨rfl, hb⟩; rw [H.out]; obtain ⟨bc, bf⟩ := bcell hb; have HB := Lib.hid hb; clear hb)
        go_ret3
        exact ⟨rfl, below_box HB.out⟩
      · have e1 : unE k n p = 0 := by simp [unE, hn]; omega
        have e2 : unF k n p = p / n := by simp [unF, e1]
        have e3 : unG k n p = p % n := by simp [unG, e1]
        rw [e1, e2, e3]
        have n0 : 0 < n := by
          rcases Nat.eq_zero_or_pos n with rfl | h
          · simp at h2; omega
          · exact h
        have p4 : p < 4096 := by omega
        have start : UnAt n p (.int .i64 0) (.int .i64 p) (.int .i64 32) := by
          refine ⟨6, 0, p.toNat, by decide, by decide, by simp, ?_, by simp, ?_, ?_⟩
          · rw [Int.toNat_of_nonneg (by omega)]
          · have : (n : Int) * n ≤ 64 * n := Int.mul_le_mul_of_nonneg_right (by omega) (by omega)
            have h64 : (2 : Nat) ^ 6 = 64 := rfl
            rw [h64]
            omega
          · simp; omega
        have H := Lib.hid hn
        have ST := Lib.hid start
        clear hn e1 e2 e3 start
        go_enter Try.func26, Try.ntmps26
        go_wp2_with (go_at_call 40; refine (hasNumbers_any _ _ _ _ _ _).mono ?_; rintro e w1 ⟨rfl, hb⟩; rw [H.out]; obtain ⟨bc, bf⟩ := bcell hb; have HB := Lib.hid hb; clear hb)
        clear bc bf
        go_loop [8, 9, 10] (UnAt n p) (fun _ _ b => (intOf b).toNat)
        case atStart => exact ST.out
        case round =>
          obtain ⟨j, q, r, hj, hq, rfl, rfl, rfl, hr, hp⟩ := hrel
          obtain ⟨s1, s2⟩ := UnAt.small hp n1 n0 p4
          rcases j with _ | j
          · have hr0 : r < n := by simpa using hr
            have f1 : p / n = q := by
              rw [hp, show ((2 ^ 0 * q : Nat) : Int) = q by simp, Int.add_comm, Int.add_mul_ediv_right _ _ (by omega), Int.ediv_eq_zero_of_lt (by omega) (by omega)]
              omega
            have f2 : p % n = r := by
              rw [hp, Int.add_comm, Int.add_mul_emod_self_right, Int.emod_eq_of_lt (by omega) (by omega)]
            have F1 := Lib.hid f1
            have F2 := Lib.hid f2
            clear f1 f2 hp hr
            go_wp2
            go_ret3
            exact ⟨ret3 F1.out.symm F2.out.symm rfl, below_box HB.out⟩
          · have eb : 2 ^ (j + 1) / 2 = 2 ^ j := by rw [Nat.pow_succ]; omega
            have hor := or_bit j q (by omega) hq
            have r4 : r < 4096 := by
              have : 0 ≤ ((2 ^ (j + 1) * q : Nat) : Int) * n := Int.mul_nonneg (by omega) (by omega)
              omega
            have q4 : 2 * q < 4096 := by
              have h5 : 2 * q ≤ 2 ^ (j + 1) * q := Nat.mul_le_mul_right _ (by have := Nat.one_le_two_pow (n := j); rw [Nat.pow_succ]; omega)
              omega
            have st0 := fun h => UnAt.step0 (j := j) hj hq hr hp h
            have st1 := fun h => UnAt.step1 (j := j) hj hq hr hp h
            have b32 : 2 ^ j ≤ 32 := Nat.pow_le_pow_right (show 0 < 2 by decide) (show j ≤ 5 by omega)
            have b1 : 1 ≤ 2 ^ j := Nat.one_le_two_pow
            have hbn : 2 ^ j * n ≤ 32 * 64 := Nat.mul_le_mul b32 n1
            rw [eb]
            obtain ⟨b, hb⟩ : ∃ b, b = 2 ^ j := ⟨_, rfl⟩
            obtain ⟨Q, hQ⟩ : ∃ Q, Q = 2 ^ (j + 1) * q := ⟨_, rfl⟩
            rw [← hb] at b32 b1 hbn hor st0 st1 ⊢
            rw [← hQ] at hor st0 st1 s2 ⊢
            have B1 : ((b * n : Nat) : Int) = (b : Int) * n := Int.natCast_mul b n
            have B2 : 0 ≤ (b : Int) * n ∧ (b : Int) * n ≤ 2048 := by omega
            have Hor := Lib.hid hor
            have S0 := Lib.hid st0
            have S1 := Lib.hid st1
            have HB1 := Lib.hid B1
            clear hor st0 st1 B1 hb hQ eb hp hr ST
            by_cases ht : (b : Int) * n ≤ r
            · go_wp2
              have hw : (r : Int) - b * n = ((r - b * n : Nat) : Int) := by
                have := HB1.out
                omega
              rw [Hor.out, hw]
              refine ⟨?_, by simp [intOf]; omega⟩
              have := HB1.out
              have h3 := S1.out (by omega) (by omega)
              simpa using h3
            · go_wp2
              refine ⟨?_, by simp [intOf]; omega⟩
              have := HB1.out
              have h3 := S0.out (by omega) (by omega)
              simpa using h3
end Go.Proofs.Ytemfiedhpohfkaa
