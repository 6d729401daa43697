/-
  Plain mathematics for layer 1: masks, fields, powers of two. No Go in sight.
-/
import Derived.WalkKit
namespace Go.Proofs.Ytplifmmabfjfoaa
open Go.RowKit (wrap32 wrap64)

/-- the word with the lowest n bits set -/
def maskN (n : Nat) : Nat := 2 ^ min n 64 - 1
def maskZ (n : Int) : Int := (maskN n.toNat : Nat)

theorem pow_min_le (n : Nat) : 2 ^ min n 64 ≤ 18446744073709551616 := by
  have : 2 ^ min n 64 ≤ 2 ^ 64 := Nat.pow_le_pow_right (by decide) (Nat.min_le_right _ _)
  simpa using this

theorem maskN_lt (n : Nat) : maskN n < 18446744073709551616 := by
  have h := pow_min_le n
  have p : 0 < 2 ^ min n 64 := Nat.two_pow_pos _
  unfold maskN; omega

theorem maskZ_lo (n : Int) : 0 ≤ maskZ n := by unfold maskZ; omega
theorem maskZ_hi (n : Int) : maskZ n ≤ 18446744073709551615 := by
  have := maskN_lt n.toNat; unfold maskZ; omega

theorem maskZ_neg {n : Int} (h : n ≤ 0) : maskZ n = 0 := by
  have e : n.toNat = 0 := by omega
  unfold maskZ maskN; rw [e]; rfl

theorem maskZ_big {n : Int} (h : 64 ≤ n) : maskZ n = 18446744073709551615 := by
  have e : min n.toNat 64 = 64 := by omega
  unfold maskZ maskN; rw [e]; rfl

/-- 1 shifted and lowered by one, as words wrap -/
theorem maskZ_shift (n : Int) : (((1 * 2 ^ min n.toNat 64) % 18446744073709551616 : Int) - 1) % 18446744073709551616 = maskZ n := by
  have hp : ((2 : Int) ^ min n.toNat 64) = ((2 ^ min n.toNat 64 : Nat) : Int) := by simp
  have h := pow_min_le n.toNat
  have p : 0 < 2 ^ min n.toNat 64 := Nat.two_pow_pos _
  unfold maskZ maskN
  rw [hp]
  generalize 2 ^ min n.toNat 64 = x at *
  omega

theorem mask_walk (n : Int) : IntKind.u64.wrap (IntKind.u64.wrap (2 ^ min n.toNat 64) - 1) = maskZ n := by
  have h := maskZ_shift n
  rw [Int.one_mul] at h
  rw [IntKind.wrap_u64, IntKind.wrap_u64]; exact h

theorem mask_walk' (n : Int) (h : n < 64) : IntKind.u64.wrap (IntKind.u64.wrap (2 ^ n.toNat) - 1) = maskZ n := by
  rw [← mask_walk n, show min n.toNat 64 = n.toNat from by omega]

theorem ret_u64 {a b : Int} (h : a = b) : Ending.returned (.int .u64 a) = Ending.returned (.int .u64 b) := by rw [h]
theorem ret_i64 {a b : Int} (h : a = b) : Ending.returned (.int .i64 a) = Ending.returned (.int .i64 b) := by rw [h]
theorem ret_bool {a b : Bool} (h : a = b) : Ending.returned (.bool a) = Ending.returned (.bool b) := by rw [h]

/-- no bit beyond the lowest n -/
def fitsB (v n : Int) : Bool := bits .andNot .u64 v (maskZ n) == 0

/-- the field of n bits from bit a on, and the word with that field replaced -/
def getZ (v a n : Int) : Int := bits .and .u64 (v / 2 ^ a.toNat) (maskZ n)
def putZ (v a n x : Int) : Int := bits .or .u64 (bits .andNot .u64 v (IntKind.u64.wrap (maskZ n * 2 ^ a.toNat))) (IntKind.u64.wrap (x * 2 ^ a.toNat))
/-- n divided by 2^s, rounded up -/
def ceilZ (n s : Int) : Int := if 0 ≤ n ∧ n ≤ 1099511627776 ∧ 0 ≤ s ∧ s ≤ 20 then (n + 2 ^ s.toNat - 1) / 2 ^ s.toNat else 0
theorem ret_pair {a b : Int} (c : Int) (h : a = b) : Ending.returned (.tuple #[.int .u64 a, .int .i64 c]) = Ending.returned (.tuple #[.int .u64 b, .int .i64 c]) := by rw [h]

/-- the remainder from 0 on -/
theorem mod_pos {v n : Int} (h : 0 ≤ v) : v.tmod n = v % n := Int.tmod_eq_emod_of_nonneg h
theorem mod_neg {v n : Int} (h : v < 0) (hn : 1 ≤ n) : v.tmod n = if v % n = 0 then 0 else v % n - n := by
  have e : v.tmod n = -((-v) % n) := by
    rw [← Int.tmod_eq_emod_of_nonneg (by omega : 0 ≤ -v), Int.neg_tmod, Int.neg_neg]
  rw [e, Int.neg_emod]
  split <;> split <;> first | omega | (rename_i a b; exfalso; first | exact b (Int.emod_eq_zero_of_dvd a) | exact a (Int.dvd_of_emod_eq_zero b)) | skip
  all_goals (have := Int.natAbs_of_nonneg (by omega : 0 ≤ n); omega)

theorem mod_neg_lo {v n : Int} (h : v < 0) (hn : 1 ≤ n) : -n < v.tmod n := by
  have := Int.emod_nonneg v (show n ≠ 0 by omega)
  rw [mod_neg h hn]; split <;> omega
theorem mod_neg_hi {v n : Int} (h : v < 0) (hn : 1 ≤ n) : v.tmod n ≤ 0 := by
  have := Int.emod_lt_of_pos v (show 0 < n by omega)
  rw [mod_neg h hn]; split <;> omega
theorem mod_end0 {v n : Int} (h : v < 0) (hn : 1 ≤ n) (ht : 0 ≤ v.tmod n) : v.tmod n = v % n := by
  have := Int.emod_lt_of_pos v (show 0 < n by omega)
  rw [mod_neg h hn] at ht ⊢; split at ht <;> split <;> omega
theorem mod_end1 {v n : Int} (h : v < 0) (hn : 1 ≤ n) (ht : v.tmod n < 0) : v.tmod n + n = v % n := by
  rw [mod_neg h hn] at ht ⊢; split at ht <;> split <;> omega

theorem pow20 {s : Int} (h2 : 0 ≤ s) (h3 : s ≤ 20) : (1 : Int) ≤ 2 ^ s.toNat ∧ (2 : Int) ^ s.toNat ≤ 1048576 := by
  have hp : ((2 : Int) ^ s.toNat) = ((2 ^ s.toNat : Nat) : Int) := by simp
  have p : 0 < 2 ^ s.toNat := Nat.two_pow_pos _
  have h : 2 ^ s.toNat ≤ 2 ^ 20 := Nat.pow_le_pow_right (by decide) (by omega)
  rw [hp]; omega

theorem ceil_walk {n s : Int} (h0 : 0 ≤ n) (h1 : n ≤ 1099511627776) (h2 : 0 ≤ s) (h3 : s ≤ 20) : wrap64 (wrap64 (n + wrap64 (2 ^ s.toNat)) - 1) / 2 ^ s.toNat = ceilZ n s := by
  obtain ⟨a, b⟩ := pow20 h2 h3
  unfold ceilZ
  rw [if_pos ⟨h0, h1, h2, h3⟩]
  have e : wrap64 (wrap64 (n + wrap64 (2 ^ s.toNat)) - 1) = n + 2 ^ s.toNat - 1 := by
    generalize (2 : Int) ^ s.toNat = x at *
    unfold wrap64; omega
  rw [e]

/-- the exponent of a power of two, if it is one -/
def logO (n : Int) : Option Nat := if n = 2 ^ n.toNat.log2 ∧ n.toNat.log2 ≤ 62 then some n.toNat.log2 else none
def logV (n : Int) : Int := match logO n with | some k => k | none => 0
def logB (n : Int) : Bool := (logO n).isSome

theorem toNat_pow (k : Nat) : ((2 : Int) ^ k).toNat = 2 ^ k := by
  have hp : ((2 : Int) ^ k) = ((2 ^ k : Nat) : Int) := by simp
  rw [hp, Int.toNat_natCast]

theorem logO_pow {k : Nat} (h : k ≤ 62) : logO (2 ^ k) = some k := by
  unfold logO
  rw [toNat_pow, Nat.log2_two_pow, if_pos ⟨rfl, h⟩]

theorem logO_none {n : Int} (h : ∀ k : Nat, k ≤ 62 → n ≠ 2 ^ k) : logO n = none := by
  unfold logO
  rw [if_neg]
  exact fun ⟨e, hk⟩ => h _ hk e

theorem log_cases (n : Int) : (∃ k : Nat, k ≤ 62 ∧ n = 2 ^ k) ∨ (∀ k : Nat, k ≤ 62 → n ≠ 2 ^ k) := by
  by_cases h : ∃ k : Nat, k ≤ 62 ∧ n = 2 ^ k
  · exact .inl h
  · exact .inr fun k hk e => h ⟨k, hk, e⟩

theorem pow62 {k : Nat} (h : k ≤ 62) : (1 : Int) ≤ 2 ^ k ∧ (2 : Int) ^ k ≤ 4611686018427387904 := by
  have hp : ((2 : Int) ^ k) = ((2 ^ k : Nat) : Int) := by simp
  have p : 0 < 2 ^ k := Nat.two_pow_pos _
  have h : 2 ^ k ≤ 2 ^ 62 := Nat.pow_le_pow_right (by decide) h
  rw [hp]; omega

theorem ofInt_nat64 (a : Nat) (h : a < 18446744073709551616) : (BitVec.ofInt 64 (a : Int)).toNat = a := by
  rw [BitVec.ofInt_natCast, BitVec.toNat_ofNat]; exact Nat.mod_eq_of_lt (by omega)

theorem and_i64 (a b : Nat) (ha : a < 9223372036854775808) (hb : b < 9223372036854775808) : bits .and .i64 (a : Int) (b : Int) = ((a &&& b : Nat) : Int) := by
  have hx : a &&& b < 2 ^ 63 := Nat.and_lt_two_pow _ (by omega)
  show IntKind.i64.wrap ((BitVec.ofInt 64 (a : Int) &&& BitVec.ofInt 64 (b : Int)).toNat : Int) = _
  rw [BitVec.toNat_and, ofInt_nat64 a (by omega), ofInt_nat64 b (by omega), IntKind.wrap_i64]
  omega

/-- n and n - 1 share no bit exactly if n is a power of two -/
theorem and_pred (n : Nat) (h : 0 < n) : n &&& (n - 1) = 0 ↔ ∃ k, n = 2 ^ k := by
  rw [Nat.and_sub_one_eq_zero_iff_isPowerOfTwo (by omega)]
  rfl

theorem and_pred_eq {k : Nat} (h : k ≤ 62) : (bits .and .i64 ((2 : Int) ^ k) ((2 : Int) ^ k - 1) != 0) = false := by
  have hp : ((2 : Int) ^ k) = ((2 ^ k : Nat) : Int) := by simp
  have p : 0 < 2 ^ k := Nat.two_pow_pos _
  have h : 2 ^ k ≤ 2 ^ 62 := Nat.pow_le_pow_right (by decide) h
  have e : (((2 ^ k : Nat) : Int) - 1) = ((2 ^ k - 1 : Nat) : Int) := by omega
  rw [hp, e, and_i64 _ _ (by omega) (by omega), (and_pred _ p).2 ⟨k, rfl⟩]
  rfl

theorem and_pred_ne {n : Int} (h : 0 < n) (h1 : n ≤ 9223372036854775807) (hk : ∀ k : Nat, k ≤ 62 → n ≠ 2 ^ k) : (bits .and .i64 n (n - 1) != 0) = true := by
  obtain ⟨m, rfl⟩ := Int.eq_ofNat_of_zero_le (show 0 ≤ n by omega)
  have e : ((m : Int) - 1) = ((m - 1 : Nat) : Int) := by omega
  rw [e, and_i64 _ _ (by omega) (by omega), bne_iff_ne]
  intro h0
  obtain ⟨k, hm⟩ := (and_pred m (by omega)).1 (by exact_mod_cast h0)
  refine hk k ?_ (by rw [hm]; simp)
  by_cases hlt : k ≤ 62
  · exact hlt
  · have h : 2 ^ 63 ≤ 2 ^ k := Nat.pow_le_pow_right (by decide) (by omega)
    omega

theorem half_pow {k i : Nat} (h : i < k) : (2 : Int) ^ (k - i) / 2 = 2 ^ (k - (i + 1)) := by
  rw [show k - i = k - (i + 1) + 1 from by omega, Int.pow_succ]
  exact Int.mul_ediv_cancel _ (by decide)

theorem pow_big {k i : Nat} (h : i < k) : (1 : Int) < 2 ^ (k - i) := by
  have hp : ((2 : Int) ^ (k - i)) = ((2 ^ (k - i) : Nat) : Int) := by simp
  have h : 2 ^ 1 ≤ 2 ^ (k - i) := Nat.pow_le_pow_right (by decide) (by omega)
  rw [hp]; omega

theorem ret_kb {a b : Int} (c : Bool) (h : a = b) : Ending.returned (.tuple #[.int .i64 a, .bool c]) = Ending.returned (.tuple #[.int .i64 b, .bool c]) := by rw [h]
theorem val_i64 {a b : Int} (h : a = b) : Value.int .i64 a = Value.int .i64 b := by rw [h]

theorem wrap_pow {j : Nat} (h : j ≤ 62) : wrap64 ((2 : Int) ^ j) = 2 ^ j := by
  obtain ⟨a, b⟩ := pow62 h
  generalize (2 : Int) ^ j = x at *
  unfold wrap64; omega

theorem pow_ne {k j : Nat} (hk : k ≤ 62) (h : j < k) : ((2 : Int) ^ k == wrap64 (2 ^ j)) = false := by
  rw [wrap_pow (by omega), beq_eq_false_iff_ne]
  have hlt : 2 ^ j < 2 ^ k := Nat.pow_lt_pow_of_lt (by decide) h
  have h1 : ((2 : Int) ^ k) = ((2 ^ k : Nat) : Int) := by simp
  have h2 : ((2 : Int) ^ j) = ((2 ^ j : Nat) : Int) := by simp
  rw [h1, h2]; omega

end Go.Proofs.Ytplifmmabfjfoaa
