/-
  Plain mathematics of headers: what Live, Forward and Decode answer, and how fields of words are sums. Nothing here speaks of the program.
-/
import Derived.Test.YtplifmmabfjfoaaBv
import Derived.WalkKit
namespace Go.Proofs.Ytplifmmabfjfoaa
set_option linter.unusedVariables false

/-- The answers of Live and of Forward. -/
def liveV (r d : Int) : Int := if 0 ≤ r ∧ r ≤ 15 ∧ 0 ≤ d ∧ d ≤ 32 then (1 + r + d) * 256 + r * 2 else 0
def liveE (r d : Int) : Int := if 0 ≤ r ∧ r ≤ 15 ∧ 0 ≤ d ∧ d ≤ 32 then 0 else 13
def fwdV (a : Int) : Int := if 0 ≤ a ∧ a < 16384 then 2 * a + 1 else 0
def fwdE (a : Int) : Int := if 0 ≤ a ∧ a < 16384 then 0 else 2
/-- Which words are headers, and what they say. -/
def isF (x : Int) : Bool := decide (x % 2 = 1 ∧ x / 2 < 16384)
def isL (x : Int) : Bool := decide (x % 2 = 0 ∧ x / 256 ≤ 48 ∧ x % 256 / 2 ≤ 15 ∧ 1 + x % 256 / 2 ≤ x / 256 ∧ x / 256 - 1 - x % 256 / 2 ≤ 32)
def decR (x : Int) : Int := if isL x then x % 256 / 2 else 0
def decD (x : Int) : Int := if isL x then x / 256 - 1 - x % 256 / 2 else 0
def decA (x : Int) : Int := if isF x then x / 2 else 0
def decE (x : Int) : Int := if isF x || isL x then 0 else 12

theorem isF_yes {x : Int} (h : x % 2 = 1) (h2 : x / 2 < 16384) : isF x = true := decide_eq_true ⟨h, h2⟩
theorem isF_even {x : Int} (h : x % 2 = 0) : isF x = false := decide_eq_false (by omega)
theorem isF_far {x : Int} (h : ¬ x / 2 < 16384) : isF x = false := decide_eq_false (by omega)
theorem isL_odd {x : Int} (h : x % 2 = 1) : isL x = false := decide_eq_false (by omega)
theorem isL_iff {x : Int} : isL x = true ↔ x % 2 = 0 ∧ x / 256 ≤ 48 ∧ x % 256 / 2 ≤ 15 ∧ 1 + x % 256 / 2 ≤ x / 256 ∧ x / 256 - 1 - x % 256 / 2 ≤ 32 := by
  unfold isL; exact decide_eq_true_iff
theorem isL_no {x : Int} (h : ¬ (x % 2 = 0 ∧ x / 256 ≤ 48 ∧ x % 256 / 2 ≤ 15 ∧ 1 + x % 256 / 2 ≤ x / 256 ∧ x / 256 - 1 - x % 256 / 2 ≤ 32)) : isL x = false := decide_eq_false h
theorem isF_iff {x : Int} : isF x = true ↔ x % 2 = 1 ∧ x / 2 < 16384 := by
  unfold isF; exact decide_eq_true_iff

theorem live_in {r d : Int} (h : 0 ≤ r ∧ r ≤ 15 ∧ 0 ≤ d ∧ d ≤ 32) : liveV r d = (1 + r + d) * 256 + r * 2 ∧ liveE r d = 0 := by
  unfold liveV liveE; rw [if_pos h, if_pos h]; exact ⟨rfl, rfl⟩
theorem live_out {r d : Int} (h : ¬ (0 ≤ r ∧ r ≤ 15 ∧ 0 ≤ d ∧ d ≤ 32)) : liveV r d = 0 ∧ liveE r d = 13 := by
  unfold liveV liveE; rw [if_neg h, if_neg h]; exact ⟨rfl, rfl⟩
theorem fwd_in {a : Int} (h : 0 ≤ a ∧ a < 16384) : fwdV a = 2 * a + 1 ∧ fwdE a = 0 := by
  unfold fwdV fwdE; rw [if_pos h, if_pos h]; exact ⟨rfl, rfl⟩
theorem fwd_out {a : Int} (h : ¬ (0 ≤ a ∧ a < 16384)) : fwdV a = 0 ∧ fwdE a = 2 := by
  unfold fwdV fwdE; rw [if_neg h, if_neg h]; exact ⟨rfl, rfl⟩

/-- What a header of an object says is what it was made of; the same of a forwarding one. -/
theorem dec_live {r d : Int} (h : 0 ≤ r ∧ r ≤ 15 ∧ 0 ≤ d ∧ d ≤ 32) : isF (liveV r d) = false ∧ isL (liveV r d) = true ∧ decR (liveV r d) = r ∧ decD (liveV r d) = d ∧ decE (liveV r d) = 0 := by
  have e := (live_in h).1
  have hl : isL (liveV r d) = true := isL_iff.2 (by
    have q : ((1 + r + d) * 256 + r * 2) / 256 = 1 + r + d := by omega
    have q2 : ((1 + r + d) * 256 + r * 2) % 256 = r * 2 := by omega
    rw [e, q, q2]; omega)
  have hf : isF (liveV r d) = false := isF_even (by rw [e]; omega)
  have q : ((1 + r + d) * 256 + r * 2) / 256 = 1 + r + d := by omega
  have q2 : ((1 + r + d) * 256 + r * 2) % 256 = r * 2 := by omega
  unfold decR decD decE
  rw [hl, hf, if_pos rfl, if_pos rfl, e, q, q2]
  refine ⟨rfl, rfl, by omega, by omega, rfl⟩
theorem dec_fwd {a : Int} (h : 0 ≤ a ∧ a < 16384) : isF (fwdV a) = true ∧ decA (fwdV a) = a ∧ decE (fwdV a) = 0 := by
  have e := (fwd_in h).1
  have hf : isF (fwdV a) = true := isF_iff.2 (by rw [e]; omega)
  unfold decA decE
  rw [hf, if_pos rfl, e]
  exact ⟨rfl, by omega, rfl⟩
/-- A word that is read is the one header for what it says. -/
theorem back_live {x : Int} (x0 : 0 ≤ x) (hf : isF x = false) (he : decE x = 0) : liveV (decR x) (decD x) = x ∧ liveE (decR x) (decD x) = 0 := by
  have hl : isL x = true := by
    unfold decE at he
    rw [hf] at he
    cases hl : isL x
    · rw [hl] at he; exact absurd he (by decide)
    · rfl
  have h := isL_iff.1 hl
  unfold decR decD
  rw [hl, if_pos rfl, if_pos rfl]
  have hi : 0 ≤ x % 256 / 2 ∧ x % 256 / 2 ≤ 15 ∧ 0 ≤ x / 256 - 1 - x % 256 / 2 ∧ x / 256 - 1 - x % 256 / 2 ≤ 32 := by omega
  rw [(live_in hi).1, (live_in hi).2]
  exact ⟨by omega, rfl⟩
theorem back_fwd {x : Int} (x0 : 0 ≤ x) (hf : isF x = true) : fwdV (decA x) = x ∧ fwdE (decA x) = 0 := by
  have h := isF_iff.1 hf
  unfold decA
  rw [hf, if_pos rfl]
  have hi : 0 ≤ x / 2 ∧ x / 2 < 16384 := by omega
  rw [(fwd_in hi).1, (fwd_in hi).2]
  exact ⟨by omega, rfl⟩

/-- The bits of a word that is a natural number. -/
theorem bit_nat {m : Nat} (i : Nat) (h : i < 64) : bit (m : Int) i = m.testBit i := by
  unfold bit bv
  rw [BitVec.ofInt_natCast, BitVec.getLsbD_ofNat, decide_eq_true h, Bool.true_and]
theorem fits_lt {x n : Nat} (h : x < 2 ^ n) : fitsB (x : Int) (n : Int) = true := by
  refine fits_bits.2 fun i hi hn => ?_
  rw [bit_nat i hi]
  exact Nat.testBit_lt_two_pow (Nat.lt_of_lt_of_le h (Nat.pow_le_pow_right (by decide) (by omega)))
/-- A field put above all bits is a sum. -/
theorem put_sum {v a n x : Nat} (hv : v < 2 ^ a) (hx : x < 2 ^ n) (h : 2 ^ a * x + v < 18446744073709551616) : putZ (v : Int) (a : Int) (n : Int) (x : Int) = ((2 ^ a * x + v : Nat) : Int) := by
  refine ext_bits (put_lo _ _ _ _) (put_hi _ _ _ _) (by omega) (by omega) fun i hi => ?_
  rw [bit_put (by omega) (fits_lt hx) i hi, bit_nat (m := 2 ^ a * x + v) i hi, Nat.testBit_two_pow_mul_add x hv, Int.toNat_natCast]
  by_cases h1 : i < a
  · rw [if_neg (by omega), if_pos h1, bit_nat i hi]
  · rw [if_neg h1]
    by_cases h2 : i < a + n
    · rw [if_pos (by omega), bit_nat _ (by omega)]
    · rw [if_neg (by omega), bit_nat i hi, Nat.testBit_lt_two_pow (Nat.lt_of_lt_of_le hv (Nat.pow_le_pow_right (by decide) (by omega))),
        Nat.testBit_lt_two_pow (Nat.lt_of_lt_of_le hx (Nat.pow_le_pow_right (by decide) (by omega)))]
theorem get_mod {v a n : Nat} (hv : v < 18446744073709551616) (hn : n ≤ 63) : getZ (v : Int) (a : Int) (n : Int) = ((v / 2 ^ a % 2 ^ n : Nat) : Int) := by
  have hb : v / 2 ^ a % 2 ^ n < 18446744073709551616 := Nat.lt_of_le_of_lt (Nat.mod_le _ _) (Nat.lt_of_le_of_lt (Nat.div_le_self _ _) hv)
  refine ext_bits (get_lo _ _ _) (get_hi _ _ _) (by omega) (by omega) fun i hi => ?_
  rw [bit_get (by omega) (by omega) i hi, bit_nat i hi, Nat.testBit_mod_two_pow, Nat.testBit_div_two_pow, Int.toNat_natCast]
  by_cases hk : a + i < 64
  · rw [bit_nat _ hk, Nat.add_comm]
    congr 1
    exact decide_eq_decide.2 (by omega)
  · rw [bit_big _ (by omega), Nat.testBit_lt_two_pow (show v < 2 ^ (i + a) from Nat.lt_of_lt_of_le hv (by
      have : 2 ^ 64 ≤ 2 ^ (i + a) := Nat.pow_le_pow_right (by decide) (by omega)
      omega))]
    simp

theorem put_refs {r : Int} (h0 : 0 ≤ r) (h1 : r ≤ 15) : putZ 0 1 7 r = r * 2 ∧ fitsB r 7 = true := by
  obtain ⟨m, rfl⟩ := Int.eq_ofNat_of_zero_le h0
  have := put_sum (v := 0) (a := 1) (n := 7) (x := m) (by decide) (show m < 128 by omega) (show 2 * m + 0 < _ by omega)
  exact ⟨this.trans (by omega), fits_lt (n := 7) (show m < 128 by omega)⟩
theorem put_size {r s : Int} (h0 : 0 ≤ r) (h1 : r ≤ 15) (h2 : 0 ≤ s) (h3 : s ≤ 48) : putZ (r * 2) 8 8 s = s * 256 + r * 2 ∧ fitsB s 8 = true := by
  obtain ⟨m, rfl⟩ := Int.eq_ofNat_of_zero_le h0
  obtain ⟨k, rfl⟩ := Int.eq_ofNat_of_zero_le h2
  have := put_sum (v := m * 2) (a := 8) (n := 8) (x := k) (show m * 2 < 256 by omega) (show k < 256 by omega) (show 256 * k + m * 2 < _ by omega)
  exact ⟨Eq.trans (by congr 1) (this.trans (by omega)), fits_lt (n := 8) (show k < 256 by omega)⟩
theorem put_addr {a : Int} (h0 : 0 ≤ a) (h1 : a < 16384) : putZ 1 1 32 a = 2 * a + 1 ∧ fitsB a 32 = true := by
  obtain ⟨m, rfl⟩ := Int.eq_ofNat_of_zero_le h0
  have := put_sum (v := 1) (a := 1) (n := 32) (x := m) (by decide) (show m < 4294967296 by omega) (show 2 * m + 1 < _ by omega)
  exact ⟨this.trans (by omega), fits_lt (n := 32) (show m < 4294967296 by omega)⟩
theorem put_mark : putZ 0 0 1 1 = 1 ∧ fitsB 1 1 = true := by decide
theorem get_mark {x : Int} (x0 : 0 ≤ x) (x1 : x < 18446744073709551616) : getZ x 0 1 = x % 2 := by
  obtain ⟨m, rfl⟩ := Int.eq_ofNat_of_zero_le x0
  exact (get_mod (v := m) (a := 0) (n := 1) (by omega) (by decide)).trans (by omega)
theorem get_refs {x : Int} (x0 : 0 ≤ x) (x1 : x < 18446744073709551616) : getZ x 1 7 = x % 256 / 2 := by
  obtain ⟨m, rfl⟩ := Int.eq_ofNat_of_zero_le x0
  exact (get_mod (v := m) (a := 1) (n := 7) (by omega) (by decide)).trans (by omega)
theorem get_size {x : Int} (x0 : 0 ≤ x) (x1 : x < 18446744073709551616) : getZ x 8 8 = x / 256 % 256 := by
  obtain ⟨m, rfl⟩ := Int.eq_ofNat_of_zero_le x0
  exact (get_mod (v := m) (a := 8) (n := 8) (by omega) (by decide)).trans (by omega)
theorem get_addr {x : Int} (x0 : 0 ≤ x) (x1 : x < 18446744073709551616) : getZ x 1 32 = x / 2 % 4294967296 := by
  obtain ⟨m, rfl⟩ := Int.eq_ofNat_of_zero_le x0
  exact (get_mod (v := m) (a := 1) (n := 32) (by omega) (by decide)).trans (by omega)
/-- Any result of a bit operation on words is a word. -/
theorem bits_u64 (op : BinOp) (x y : Int) : 0 ≤ bits op .u64 x y ∧ bits op .u64 x y < 18446744073709551616 := by
  have h : ∀ z : Int, 0 ≤ IntKind.u64.wrap z ∧ IntKind.u64.wrap z < 18446744073709551616 := by
    intro z; rw [IntKind.wrap_u64]; omega
  unfold bits
  split <;> exact h _
end Go.Proofs.Ytplifmmabfjfoaa
