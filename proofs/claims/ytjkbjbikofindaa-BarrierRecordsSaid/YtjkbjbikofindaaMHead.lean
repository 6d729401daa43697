/-
  Merged: fields of words and headers (stages 1 and 7), in a namespace of their own.
-/
import Derived.WalkKit
import Derived.Test.YtjkbjbikofindaaRows
import Derived.WalkLawsBesides
import Derived.Laws.Shifts
import Derived.LoopTactic
import Derived.Lib.Hide
import Derived.ProofKit
import Derived.OpenShut
import Derived.Deep.QuietTactic
import Derived.BigQuiet
import Derived.WalkSmall
import Derived.OwnWalk
namespace Go.Proofs.Ytjkbjbikofindaa
namespace Hd
open Go.RowKit (wrap32 wrap64)

/-- the word with the lowest n bits set -/
def maskN (n : Nat) : Nat := 2 ^ min n 64 - 1
def maskZ (n : Int) : Int := (maskN n.toNat : Nat)

theorem pow_min_le (n : Nat) : 2 ^ min n 64 ≤ 18446744073709551616 := by
  have : 2 ^ min n 64 ≤ 2 ^ 64 := Nat.pow_le_pow_right (by decide) (Nat.min_le_right _ _)
  simpa using this

theorem maskN_lt (n : Nat) : maskN n < 18446744073709551616 := by
  have h := pow_min_le n
  have p : 0 < 2 ^ min n 64 := Nat.two_pow_pos _
  unfold maskN; omega

theorem maskZ_lo (n : Int) : 0 ≤ maskZ n := by unfold maskZ; omega
theorem maskZ_hi (n : Int) : maskZ n ≤ 18446744073709551615 := by
  have := maskN_lt n.toNat; unfold maskZ; omega

theorem maskZ_neg {n : Int} (h : n ≤ 0) : maskZ n = 0 := by
  have e : n.toNat = 0 := by omega
  unfold maskZ maskN; rw [e]; rfl

theorem maskZ_big {n : Int} (h : 64 ≤ n) : maskZ n = 18446744073709551615 := by
  have e : min n.toNat 64 = 64 := by omega
  unfold maskZ maskN; rw [e]; rfl

/-- 1 shifted and lowered by one, as words wrap -/
theorem maskZ_shift (n : Int) : (((1 * 2 ^ min n.toNat 64) % 18446744073709551616 : Int) - 1) % 18446744073709551616 = maskZ n := by
  have hp : ((2 : Int) ^ min n.toNat 64) = ((2 ^ min n.toNat 64 : Nat) : Int) := by simp
  have h := pow_min_le n.toNat
  have p : 0 < 2 ^ min n.toNat 64 := Nat.two_pow_pos _
  unfold maskZ maskN
  rw [hp]
  generalize 2 ^ min n.toNat 64 = x at *
  omega

theorem mask_walk (n : Int) : IntKind.u64.wrap (IntKind.u64.wrap (2 ^ min n.toNat 64) - 1) = maskZ n := by
  have h := maskZ_shift n
  rw [Int.one_mul] at h
  rw [IntKind.wrap_u64, IntKind.wrap_u64]; exact h

theorem mask_walk' (n : Int) (h : n < 64) : IntKind.u64.wrap (IntKind.u64.wrap (2 ^ n.toNat) - 1) = maskZ n := by
  rw [← mask_walk n, show min n.toNat 64 = n.toNat from by omega]

theorem ret_u64 {a b : Int} (h : a = b) : Ending.returned (.int .u64 a) = Ending.returned (.int .u64 b) := by rw [h]
theorem ret_i64 {a b : Int} (h : a = b) : Ending.returned (.int .i64 a) = Ending.returned (.int .i64 b) := by rw [h]
theorem ret_bool {a b : Bool} (h : a = b) : Ending.returned (.bool a) = Ending.returned (.bool b) := by rw [h]

/-- no bit beyond the lowest n -/
def fitsB (v n : Int) : Bool := bits .andNot .u64 v (maskZ n) == 0

/-- the field of n bits from bit a on, and the word with that field replaced -/
def getZ (v a n : Int) : Int := bits .and .u64 (v / 2 ^ a.toNat) (maskZ n)
def putZ (v a n x : Int) : Int := bits .or .u64 (bits .andNot .u64 v (IntKind.u64.wrap (maskZ n * 2 ^ a.toNat))) (IntKind.u64.wrap (x * 2 ^ a.toNat))
/-- n divided by 2^s, rounded up -/
def ceilZ (n s : Int) : Int := if 0 ≤ n ∧ n ≤ 1099511627776 ∧ 0 ≤ s ∧ s ≤ 20 then (n + 2 ^ s.toNat - 1) / 2 ^ s.toNat else 0
theorem ret_pair {a b : Int} (c : Int) (h : a = b) : Ending.returned (.tuple #[.int .u64 a, .int .i64 c]) = Ending.returned (.tuple #[.int .u64 b, .int .i64 c]) := by rw [h]

/-- the remainder from 0 on -/
theorem mod_pos {v n : Int} (h : 0 ≤ v) : v.tmod n = v % n := Int.tmod_eq_emod_of_nonneg h
theorem mod_neg {v n : Int} (h : v < 0) (hn : 1 ≤ n) : v.tmod n = if v % n = 0 then 0 else v % n - n := by
  have e : v.tmod n = -((-v) % n) := by
    rw [← Int.tmod_eq_emod_of_nonneg (by omega : 0 ≤ -v), Int.neg_tmod, Int.neg_neg]
  rw [e, Int.neg_emod]
  split <;> split <;> first | omega | (rename_i a b; exfalso; first | exact b (Int.emod_eq_zero_of_dvd a) | exact a (Int.dvd_of_emod_eq_zero b)) | skip
  all_goals (have := Int.natAbs_of_nonneg (by omega : 0 ≤ n); omega)

theorem mod_neg_lo {v n : Int} (h : v < 0) (hn : 1 ≤ n) : -n < v.tmod n := by
  have := Int.emod_nonneg v (show n ≠ 0 by omega)
  rw [mod_neg h hn]; split <;> omega
theorem mod_neg_hi {v n : Int} (h : v < 0) (hn : 1 ≤ n) : v.tmod n ≤ 0 := by
  have := Int.emod_lt_of_pos v (show 0 < n by omega)
  rw [mod_neg h hn]; split <;> omega
theorem mod_end0 {v n : Int} (h : v < 0) (hn : 1 ≤ n) (ht : 0 ≤ v.tmod n) : v.tmod n = v % n := by
  have := Int.emod_lt_of_pos v (show 0 < n by omega)
  rw [mod_neg h hn] at ht ⊢; split at ht <;> split <;> omega
theorem mod_end1 {v n : Int} (h : v < 0) (hn : 1 ≤ n) (ht : v.tmod n < 0) : v.tmod n + n = v % n := by
  rw [mod_neg h hn] at ht ⊢; split at ht <;> split <;> omega

theorem pow20 {s : Int} (h2 : 0 ≤ s) (h3 : s ≤ 20) : (1 : Int) ≤ 2 ^ s.toNat ∧ (2 : Int) ^ s.toNat ≤ 1048576 := by
  have hp : ((2 : Int) ^ s.toNat) = ((2 ^ s.toNat : Nat) : Int) := by simp
  have p : 0 < 2 ^ s.toNat := Nat.two_pow_pos _
  have h : 2 ^ s.toNat ≤ 2 ^ 20 := Nat.pow_le_pow_right (by decide) (by omega)
  rw [hp]; omega

theorem ceil_walk {n s : Int} (h0 : 0 ≤ n) (h1 : n ≤ 1099511627776) (h2 : 0 ≤ s) (h3 : s ≤ 20) : wrap64 (wrap64 (n + wrap64 (2 ^ s.toNat)) - 1) / 2 ^ s.toNat = ceilZ n s := by
  obtain ⟨a, b⟩ := pow20 h2 h3
  unfold ceilZ
  rw [if_pos ⟨h0, h1, h2, h3⟩]
  have e : wrap64 (wrap64 (n + wrap64 (2 ^ s.toNat)) - 1) = n + 2 ^ s.toNat - 1 := by
    generalize (2 : Int) ^ s.toNat = x at *
    unfold wrap64; omega
  rw [e]

/-- the exponent of a power of two, if it is one -/
def logO (n : Int) : Option Nat := if n = 2 ^ n.toNat.log2 ∧ n.toNat.log2 ≤ 62 then some n.toNat.log2 else none
def logV (n : Int) : Int := match logO n with | some k => k | none => 0
def logB (n : Int) : Bool := (logO n).isSome

theorem toNat_pow (k : Nat) : ((2 : Int) ^ k).toNat = 2 ^ k := by
  have hp : ((2 : Int) ^ k) = ((2 ^ k : Nat) : Int) := by simp
  rw [hp, Int.toNat_natCast]

theorem logO_pow {k : Nat} (h : k ≤ 62) : logO (2 ^ k) = some k := by
  unfold logO
  rw [toNat_pow, Nat.log2_two_pow, if_pos ⟨rfl, h⟩]

theorem logO_none {n : Int} (h : ∀ k : Nat, k ≤ 62 → n ≠ 2 ^ k) : logO n = none := by
  unfold logO
  rw [if_neg]
  exact fun ⟨e, hk⟩ => h _ hk e

theorem log_cases (n : Int) : (∃ k : Nat, k ≤ 62 ∧ n = 2 ^ k) ∨ (∀ k : Nat, k ≤ 62 → n ≠ 2 ^ k) := by
  by_cases h : ∃ k : Nat, k ≤ 62 ∧ n = 2 ^ k
  · exact .inl h
  · exact .inr fun k hk e => h ⟨k, hk, e⟩

theorem pow62 {k : Nat} (h : k ≤ 62) : (1 : Int) ≤ 2 ^ k ∧ (2 : Int) ^ k ≤ 4611686018427387904 := by
  have hp : ((2 : Int) ^ k) = ((2 ^ k : Nat) : Int) := by simp
  have p : 0 < 2 ^ k := Nat.two_pow_pos _
  have h : 2 ^ k ≤ 2 ^ 62 := Nat.pow_le_pow_right (by decide) h
  rw [hp]; omega

theorem ofInt_nat64 (a : Nat) (h : a < 18446744073709551616) : (BitVec.ofInt 64 (a : Int)).toNat = a := by
  rw [BitVec.ofInt_natCast, BitVec.toNat_ofNat]; exact Nat.mod_eq_of_lt (by omega)

theorem and_i64 (a b : Nat) (ha : a < 9223372036854775808) (hb : b < 9223372036854775808) : bits .and .i64 (a : Int) (b : Int) = ((a &&& b : Nat) : Int) := by
  have hx : a &&& b < 2 ^ 63 := Nat.and_lt_two_pow _ (by omega)
  show IntKind.i64.wrap ((BitVec.ofInt 64 (a : Int) &&& BitVec.ofInt 64 (b : Int)).toNat : Int) = _
  rw [BitVec.toNat_and, ofInt_nat64 a (by omega), ofInt_nat64 b (by omega), IntKind.wrap_i64]
  omega

/-- n and n - 1 share no bit exactly if n is a power of two -/
theorem and_pred (n : Nat) (h : 0 < n) : n &&& (n - 1) = 0 ↔ ∃ k, n = 2 ^ k := by
  rw [Nat.and_sub_one_eq_zero_iff_isPowerOfTwo (by omega)]
  rfl

theorem and_pred_eq {k : Nat} (h : k ≤ 62) : (bits .and .i64 ((2 : Int) ^ k) ((2 : Int) ^ k - 1) != 0) = false := by
  have hp : ((2 : Int) ^ k) = ((2 ^ k : Nat) : Int) := by simp
  have p : 0 < 2 ^ k := Nat.two_pow_pos _
  have h : 2 ^ k ≤ 2 ^ 62 := Nat.pow_le_pow_right (by decide) h
  have e : (((2 ^ k : Nat) : Int) - 1) = ((2 ^ k - 1 : Nat) : Int) := by omega
  rw [hp, e, and_i64 _ _ (by omega) (by omega), (and_pred _ p).2 ⟨k, rfl⟩]
  rfl

theorem and_pred_ne {n : Int} (h : 0 < n) (h1 : n ≤ 9223372036854775807) (hk : ∀ k : Nat, k ≤ 62 → n ≠ 2 ^ k) : (bits .and .i64 n (n - 1) != 0) = true := by
  obtain ⟨m, rfl⟩ := Int.eq_ofNat_of_zero_le (show 0 ≤ n by omega)
  have e : ((m : Int) - 1) = ((m - 1 : Nat) : Int) := by omega
  rw [e, and_i64 _ _ (by omega) (by omega), bne_iff_ne]
  intro h0
  obtain ⟨k, hm⟩ := (and_pred m (by omega)).1 (by exact_mod_cast h0)
  refine hk k ?_ (by rw [hm]; simp)
  by_cases hlt : k ≤ 62
  · exact hlt
  · have h : 2 ^ 63 ≤ 2 ^ k := Nat.pow_le_pow_right (by decide) (by omega)
    omega

theorem half_pow {k i : Nat} (h : i < k) : (2 : Int) ^ (k - i) / 2 = 2 ^ (k - (i + 1)) := by
  rw [show k - i = k - (i + 1) + 1 from by omega, Int.pow_succ]
  exact Int.mul_ediv_cancel _ (by decide)

theorem pow_big {k i : Nat} (h : i < k) : (1 : Int) < 2 ^ (k - i) := by
  have hp : ((2 : Int) ^ (k - i)) = ((2 ^ (k - i) : Nat) : Int) := by simp
  have h : 2 ^ 1 ≤ 2 ^ (k - i) := Nat.pow_le_pow_right (by decide) (by omega)
  rw [hp]; omega

theorem ret_kb {a b : Int} (c : Bool) (h : a = b) : Ending.returned (.tuple #[.int .i64 a, .bool c]) = Ending.returned (.tuple #[.int .i64 b, .bool c]) := by rw [h]
theorem val_i64 {a b : Int} (h : a = b) : Value.int .i64 a = Value.int .i64 b := by rw [h]

theorem wrap_pow {j : Nat} (h : j ≤ 62) : wrap64 ((2 : Int) ^ j) = 2 ^ j := by
  obtain ⟨a, b⟩ := pow62 h
  generalize (2 : Int) ^ j = x at *
  unfold wrap64; omega

theorem pow_ne {k j : Nat} (hk : k ≤ 62) (h : j < k) : ((2 : Int) ^ k == wrap64 (2 ^ j)) = false := by
  rw [wrap_pow (by omega), beq_eq_false_iff_ne]
  have hlt : 2 ^ j < 2 ^ k := Nat.pow_lt_pow_of_lt (by decide) h
  have h1 : ((2 : Int) ^ k) = ((2 ^ k : Nat) : Int) := by simp
  have h2 : ((2 : Int) ^ j) = ((2 ^ j : Nat) : Int) := by simp
  rw [h1, h2]; omega

end Hd
end Go.Proofs.Ytjkbjbikofindaa

namespace Go.Proofs.Ytjkbjbikofindaa
namespace Hd

/-- the bits of a word -/
def bv (z : Int) : BitVec 64 := BitVec.ofInt 64 z
def bit (z : Int) (i : Nat) : Bool := (bv z).getLsbD i

theorem bv_toNat (b : BitVec 64) : bv (b.toNat : Int) = b := by
  unfold bv; rw [BitVec.ofInt_natCast, BitVec.ofNat_toNat, BitVec.setWidth_eq]

theorem bits_u64_eq {b : BitVec 64} : IntKind.u64.wrap (b.toNat : Int) = b.toNat := by
  have := b.isLt
  rw [IntKind.wrap_u64]; omega

theorem and_eq (x y : Int) : bits .and .u64 x y = ((bv x &&& bv y).toNat : Int) := bits_u64_eq
theorem or_eq (x y : Int) : bits .or .u64 x y = ((bv x ||| bv y).toNat : Int) := bits_u64_eq
theorem andNot_eq (x y : Int) : bits .andNot .u64 x y = ((bv x &&& ~~~bv y).toNat : Int) := bits_u64_eq

theorem bv_and (x y : Int) : bv (bits .and .u64 x y) = bv x &&& bv y := by rw [and_eq, bv_toNat]
theorem bv_or (x y : Int) : bv (bits .or .u64 x y) = bv x ||| bv y := by rw [or_eq, bv_toNat]
theorem bv_andNot (x y : Int) : bv (bits .andNot .u64 x y) = bv x &&& ~~~bv y := by rw [andNot_eq, bv_toNat]

theorem and_lo (x y : Int) : 0 ≤ bits .and .u64 x y := by rw [and_eq]; omega
theorem and_hi (x y : Int) : bits .and .u64 x y < 18446744073709551616 := by rw [and_eq]; have := (bv x &&& bv y).isLt; omega
theorem or_lo (x y : Int) : 0 ≤ bits .or .u64 x y := by rw [or_eq]; omega
theorem or_hi (x y : Int) : bits .or .u64 x y < 18446744073709551616 := by rw [or_eq]; have := (bv x ||| bv y).isLt; omega

theorem bv_inj {x y : Int} (x0 : 0 ≤ x) (x1 : x < 18446744073709551616) (y0 : 0 ≤ y) (y1 : y < 18446744073709551616) (h : bv x = bv y) : x = y := by
  have h' := congrArg BitVec.toNat h
  unfold bv at h'
  rw [BitVec.toNat_ofInt, BitVec.toNat_ofInt] at h'
  have e : ((2 ^ 64 : Nat) : Int) = 18446744073709551616 := by decide
  rw [e] at h'; omega

theorem ext_bits {x y : Int} (x0 : 0 ≤ x) (x1 : x < 18446744073709551616) (y0 : 0 ≤ y) (y1 : y < 18446744073709551616) (h : ∀ i, i < 64 → bit x i = bit y i) : x = y :=
  bv_inj x0 x1 y0 y1 (BitVec.eq_of_getLsbD_eq h)

theorem bit_and (x y : Int) (i : Nat) : bit (bits .and .u64 x y) i = (bit x i && bit y i) := by unfold bit; rw [bv_and, BitVec.getLsbD_and]
theorem bit_or (x y : Int) (i : Nat) : bit (bits .or .u64 x y) i = (bit x i || bit y i) := by unfold bit; rw [bv_or, BitVec.getLsbD_or]
theorem bit_andNot (x y : Int) (i : Nat) (h : i < 64) : bit (bits .andNot .u64 x y) i = (bit x i && !bit y i) := by
  unfold bit; rw [bv_andNot, BitVec.getLsbD_and, BitVec.getLsbD_not]; simp [h]

theorem bit_big (x : Int) {i : Nat} (h : 64 ≤ i) : bit x i = false := by unfold bit; exact BitVec.getLsbD_of_ge _ _ h

theorem bv_shl (x : Int) (s : Nat) : bv (IntKind.u64.wrap (x * 2 ^ s)) = bv x <<< s := by
  apply BitVec.eq_of_toNat_eq
  unfold bv
  rw [BitVec.toNat_shiftLeft, BitVec.toNat_ofInt, BitVec.toNat_ofInt, IntKind.wrap_u64, Nat.shiftLeft_eq]
  have e : ((2 ^ 64 : Nat) : Int) = 18446744073709551616 := by decide
  have em : (x * 2 ^ s) % 18446744073709551616 = (x % 18446744073709551616 * 2 ^ s) % 18446744073709551616 := by
    rw [Int.mul_emod x, Int.mul_emod (x % 18446744073709551616) (2 ^ s), Int.emod_emod]
  rw [e, Int.emod_emod, em]
  have p : (0 : Int) ≤ x % 18446744073709551616 := Int.emod_nonneg _ (by decide)
  obtain ⟨m, hm⟩ := Int.eq_ofNat_of_zero_le p
  rw [hm, Int.toNat_natCast]
  have hp : ((2 : Int) ^ s) = ((2 ^ s : Nat) : Int) := by simp
  rw [hp, ← Int.natCast_mul]
  generalize m * 2 ^ s = q
  omega

theorem bv_shr {x : Int} (x0 : 0 ≤ x) (x1 : x < 18446744073709551616) (s : Nat) : bv (x / 2 ^ s) = bv x >>> s := by
  obtain ⟨m, rfl⟩ := Int.eq_ofNat_of_zero_le x0
  apply BitVec.eq_of_toNat_eq
  unfold bv
  have hp : ((2 : Int) ^ s) = ((2 ^ s : Nat) : Int) := by simp
  rw [hp, ← Int.natCast_ediv, BitVec.ofInt_natCast, BitVec.ofInt_natCast, BitVec.toNat_ushiftRight, BitVec.toNat_ofNat, BitVec.toNat_ofNat, Nat.shiftRight_eq_div_pow]
  have h : m / 2 ^ s ≤ m := Nat.div_le_self _ _
  rw [Nat.mod_eq_of_lt (show m < 2 ^ 64 by omega), Nat.mod_eq_of_lt (show m / 2 ^ s < 2 ^ 64 by omega)]

theorem bit_shl (x : Int) (s i : Nat) (h : i < 64) : bit (IntKind.u64.wrap (x * 2 ^ s)) i = (!decide (i < s) && bit x (i - s)) := by
  unfold bit; rw [bv_shl, BitVec.getLsbD_shiftLeft]; simp [h]

theorem bit_shr {x : Int} (x0 : 0 ≤ x) (x1 : x < 18446744073709551616) (s i : Nat) : bit (x / 2 ^ s) i = bit x (s + i) := by
  unfold bit; rw [bv_shr x0 x1, BitVec.getLsbD_ushiftRight]

theorem shr_lo {x : Int} (x0 : 0 ≤ x) (s : Nat) : 0 ≤ x / 2 ^ s := Int.ediv_nonneg x0 (Int.le_of_lt (Int.pow_pos (by decide)))
theorem shr_hi {x : Int} (x0 : 0 ≤ x) (x1 : x < 18446744073709551616) (s : Nat) : x / 2 ^ s < 18446744073709551616 := by
  have := Int.ediv_le_self (2 ^ s) x0
  omega
theorem shl_lo (x : Int) (s : Nat) : 0 ≤ IntKind.u64.wrap (x * 2 ^ s) := by rw [IntKind.wrap_u64]; omega
theorem shl_hi (x : Int) (s : Nat) : IntKind.u64.wrap (x * 2 ^ s) < 18446744073709551616 := by rw [IntKind.wrap_u64]; omega

theorem bit_mask (n : Int) (i : Nat) (h : i < 64) : bit (maskZ n) i = decide ((i : Int) < n) := by
  unfold bit bv maskZ maskN
  rw [BitVec.ofInt_natCast, BitVec.getLsbD_ofNat, Nat.testBit_two_pow_sub_one]
  have e : (i < min n.toNat 64) ↔ ((i : Int) < n) := by omega
  simp [h]; omega

theorem bit_zero (i : Nat) : bit 0 i = false := by unfold bit bv; simp

theorem bit_get {v a n : Int} (v0 : 0 ≤ v) (v1 : v < 18446744073709551616) (i : Nat) (h : i < 64) : bit (getZ v a n) i = (decide ((i : Int) < n) && bit v (a.toNat + i)) := by
  unfold getZ; rw [bit_and, bit_shr v0 v1, bit_mask _ _ h, Bool.and_comm]

theorem get_lo (v a n : Int) : 0 ≤ getZ v a n := and_lo _ _
theorem get_hi (v a n : Int) : getZ v a n < 18446744073709551616 := and_hi _ _
theorem put_lo (v a n x : Int) : 0 ≤ putZ v a n x := or_lo _ _
theorem put_hi (v a n x : Int) : putZ v a n x < 18446744073709551616 := or_hi _ _

theorem fits_bits {v n : Int} : fitsB v n = true ↔ ∀ i : Nat, i < 64 → n ≤ (i : Int) → bit v i = false := by
  unfold fitsB
  rw [beq_iff_eq]
  constructor
  · intro h i hi hn
    have e := bit_andNot v (maskZ n) i hi
    rw [h, bit_zero, bit_mask _ _ hi, decide_eq_false (by omega)] at e
    simpa using e.symm
  · intro h
    refine ext_bits (by rw [andNot_eq]; omega) (by rw [andNot_eq]; have := (bv v &&& ~~~bv (maskZ n)).isLt; omega) (by decide) (by decide) fun i hi => ?_
    rw [bit_andNot _ _ _ hi, bit_mask _ _ hi, bit_zero]
    by_cases hn : n ≤ (i : Int)
    · rw [h i hi hn]; rfl
    · rw [decide_eq_true (by omega)]; simp

theorem bit_put {v a n x : Int} (a0 : 0 ≤ a) (hf : fitsB x n = true) (i : Nat) (h : i < 64) :
    bit (putZ v a n x) i = if a ≤ (i : Int) ∧ (i : Int) < a + n then bit x (i - a.toNat) else bit v i := by
  unfold putZ
  rw [bit_or, bit_andNot _ _ _ h, bit_shl _ _ _ h, bit_shl _ _ _ h]
  by_cases h1 : i < a.toNat
  · rw [if_neg (by omega), decide_eq_true h1]; simp
  · rw [decide_eq_false h1]
    have hi : i - a.toNat < 64 := by omega
    rw [bit_mask _ _ hi]
    by_cases h2 : (i : Int) < a + n
    · rw [if_pos (by omega), decide_eq_true (by omega)]; simp
    · rw [if_neg (by omega), decide_eq_false (by omega), (fits_bits.1 hf) _ hi (by omega)]; simp

end Hd
end Go.Proofs.Ytjkbjbikofindaa

namespace Go.Proofs.Ytjkbjbikofindaa
namespace Hd
open Go.RowKit (wrap32 wrap64 intOf)

theorem mod_any (v n : Int) (hn : 1 ≤ n) (hn' : n ≤ 9223372036854775807) (h0 : -9223372036854775808 ≤ v) (h1 : v ≤ 9223372036854775807) (w : World) :
    Calls Try.prog 11 #[.int .i64 v, .int .i64 n] w fun e w' => e = .returned (.int .i64 (v % n)) ∧ w = w' := by
  by_cases h : 0 ≤ v
  · have := Int.emod_nonneg v (show n ≠ 0 by omega)
    go_enter Try.func11, Try.ntmps11
    go_wp2
    go_ret
    exact ⟨ret_i64 rfl, rfl⟩
  · have h' : v < 0 := by omega
    have t0 := mod_neg_lo h' hn
    have t1 := mod_neg_hi h' hn
    by_cases ht : 0 ≤ v.tmod n
    · go_enter Try.func11, Try.ntmps11
      go_wp2
      go_ret
      exact ⟨ret_i64 (mod_end0 h' hn ht), rfl⟩
    · have ht' : v.tmod n < 0 := by omega
      go_enter Try.func11, Try.ntmps11
      go_wp2
      go_ret
      exact ⟨ret_i64 (mod_end1 h' hn ht'), rfl⟩

theorem refCeil_no (n s : Int) (h : ¬ (0 ≤ n ∧ n ≤ 1099511627776 ∧ 0 ≤ s ∧ s ≤ 20)) (w : World) :
    Calls Try.prog 93 #[.int .i64 n, .int .i64 s] w fun e w' => e = .returned (.int .i64 (ceilZ n s)) ∧ w = w' := by
  have hz : ceilZ n s = 0 := by unfold ceilZ; rw [if_neg h]
  rw [hz]; clear hz
  go_enter Try.func93, Try.ntmps93
  go_wp2
  all_goals (go_ret; exact ⟨ret_i64 rfl, rfl⟩)

theorem refCeil_yes (n s : Int) (h0 : 0 ≤ n) (h1 : n ≤ 1099511627776) (h2 : 0 ≤ s) (h3 : s ≤ 20) (w : World) :
    Calls Try.prog 93 #[.int .i64 n, .int .i64 s] w fun e w' => e = .returned (.int .i64 (ceilZ n s)) ∧ w = w' := by
  go_enter Try.func93, Try.ntmps93
  go_wp2
  go_ret
  exact ⟨ret_i64 (ceil_walk h0 h1 h2 h3), rfl⟩

theorem refCeil_any (n s : Int) (w : World) :
    Calls Try.prog 93 #[.int .i64 n, .int .i64 s] w fun e w' => e = .returned (.int .i64 (ceilZ n s)) ∧ w = w' := by
  by_cases h : 0 ≤ n ∧ n ≤ 1099511627776 ∧ 0 ≤ s ∧ s ≤ 20
  · exact refCeil_yes n s h.1 h.2.1 h.2.2.1 h.2.2.2 w
  · exact refCeil_no n s h w

end Hd
end Go.Proofs.Ytjkbjbikofindaa

namespace Go.Proofs.Ytjkbjbikofindaa
namespace Hd
set_option linter.unusedVariables false
open Go.ChangeShapes Go.WideShapes Go.ChangeAt Go.RowKit

/-- the same memory, behind draws -/
def Drawn (W w : World) : Prop := ∃ n, w = W.drewN n
theorem Drawn.refl (W : World) : Drawn W W := ⟨0, rfl⟩
theorem Drawn.more {W w : World} (h : Drawn W w) (n : Nat) : Drawn W (w.drewN n) := by
  obtain ⟨m, rfl⟩ := h; exact ⟨m + n, World.drewN_drewN _ _ _⟩
theorem Drawn.cell {W w : World} (h : Drawn W w) {a : Addr} {v : Value} (c : W.cell? a = some v) : w.cell? a = some v := by
  obtain ⟨m, rfl⟩ := h; exact c
theorem Drawn.grown {W w V : World} (h : Drawn W w) (g : Grown V W) : Grown V w := by
  obtain ⟨m, rfl⟩ := h; exact g

end Hd
end Go.Proofs.Ytjkbjbikofindaa

namespace Go.Proofs.Ytjkbjbikofindaa
namespace Hd
set_option linter.unusedVariables false
open Go.ChangeShapes Go.WideShapes Go.ChangeAt Go.RowKit

def okF (a n : Int) : Bool := decide (0 ≤ a ∧ 0 ≤ n ∧ a + n ≤ 64)
def getV (v a n : Int) : Int := if okF a n then getZ v a n else 0
def getE (a n : Int) : Int := if okF a n then 0 else 1
def putV (v a n x : Int) : Int := if okF a n && fitsB x n then putZ v a n x else 0
def putE (a n x : Int) : Int := if okF a n then if fitsB x n then 0 else 3 else 1

/-- a quiet call, the caller's world on the left; behind another draw as well -/
theorem quietL {P : Program} {f : FuncId} {args : Array Value} {w : World} {n : Nat} {v : Value}
    (h : Calls P f args (w.drewN n) fun e w' => e = .returned v ∧ w.drewN n = w') : Calls P f args (w.drewN n) fun e w'' => e = .returned v ∧ ∃ m, w'' = w.drewN m :=
  h.mono fun _ _ ⟨he, hm⟩ => ⟨he, n, hm.symm⟩
theorem quietL2 {P : Program} {f : FuncId} {args : Array Value} {w : World} {a n : Nat} {v : Value}
    (h : Calls P f args (w.drewN (a + n)) fun e w' => e = .returned v ∧ w.drewN (a + n) = w') :
    Calls P f args (w.drewN (a + n)) fun e w'' => e = .returned v ∧ ∃ m, w'' = w.drewN (a + m) :=
  h.mono fun _ _ ⟨he, hm⟩ => ⟨he, n, hm.symm⟩

/-- a slice of slices of two numbers holds at place j a pair of numbers -/
def PairAt (W : World) (B j : Nat) : Prop := ∃ (b : Nat) (x y : Int), b < W.heap.size ∧ W.cell? ⟨B, j, none⟩ = some (.slice (some ⟨b, 0, none⟩) 2 2) ∧ W.cell? ⟨b, 0, none⟩ = some (.int .i64 x) ∧ W.cell? ⟨b, 1, none⟩ = some (.int .i64 y) ∧
  -9223372036854775808 ≤ x ∧ x ≤ 9223372036854775807 ∧ -9223372036854775808 ≤ y ∧ y ≤ 9223372036854775807

/-- the world has grown since W, and what was there in W is as it was -/
def Since (W w : World) : Prop := Below W.heap.size W w ∧ Grown W w
theorem Since.refl (W : World) : Since W W := ⟨Below.refl _ _, Grown.refl _⟩
theorem Since.cell {W w : World} (h : Since W w) {a : Addr} {v : Value} (ha : a.block < W.heap.size) (c : W.cell? a = some v) : w.cell? a = some v := by
  rw [h.1.cell ha]; exact c
theorem Since.size {W w : World} (h : Since W w) : W.heap.size ≤ w.heap.size := h.1.size
theorem Since.drewN {W w : World} (h : Since W w) (n : Nat) : Since W (w.drewN n) := ⟨below_drewN h.1 n, h.2⟩
theorem Since.alloc {W w : World} (h : Since W w) (c : Array Value) (t : TypeId) : Since W (w.alloc (.cells c t)) := ⟨h.1.alloc h.1.size _, h.2.alloc _ _⟩
theorem Since.grown {W w V : World} (h : Since W w) (g : Grown V W) : Grown V w :=
  ⟨World.keptBut_trans g.1 h.2.1, fun a => (h.2.2.1 a).trans (g.2.1 a), Nat.le_trans g.2.2 h.2.2.2⟩

theorem Drawn.since {W V w : World} (h : Drawn V w) (g : Since W V) : Since W w := by
  obtain ⟨m, rfl⟩ := h; exact g.drewN m
theorem cell_old {w : World} {a : Addr} {v : Value} (h : a.block < w.heap.size) (c : w.cell? a = some v) (o : Obj) : (w.alloc o).cell? a = some v := by
  rw [((Below.refl w.heap.size w).alloc (Nat.le_refl _) o).cell h]; exact c

/-- the world under a name -/
theorem world_named {R : World → Prop} {w : World} (h : ∀ V, V = w → R V) : R w := h _ rfl

end Hd
end Go.Proofs.Ytjkbjbikofindaa

namespace Go.Proofs.Ytjkbjbikofindaa
namespace Hd
set_option linter.unusedVariables false

/-- The answers of Live and of Forward. -/
def liveV (r d : Int) : Int := if 0 ≤ r ∧ r ≤ 15 ∧ 0 ≤ d ∧ d ≤ 32 then (1 + r + d) * 256 + r * 2 else 0
def liveE (r d : Int) : Int := if 0 ≤ r ∧ r ≤ 15 ∧ 0 ≤ d ∧ d ≤ 32 then 0 else 13
def fwdV (a : Int) : Int := if 0 ≤ a ∧ a < 16384 then 2 * a + 1 else 0
def fwdE (a : Int) : Int := if 0 ≤ a ∧ a < 16384 then 0 else 2
/-- Which words are headers, and what they say. -/
def isF (x : Int) : Bool := decide (x % 2 = 1 ∧ x / 2 < 16384)
def isL (x : Int) : Bool := decide (x % 2 = 0 ∧ x / 256 ≤ 48 ∧ x % 256 / 2 ≤ 15 ∧ 1 + x % 256 / 2 ≤ x / 256 ∧ x / 256 - 1 - x % 256 / 2 ≤ 32)
def decR (x : Int) : Int := if isL x then x % 256 / 2 else 0
def decD (x : Int) : Int := if isL x then x / 256 - 1 - x % 256 / 2 else 0
def decA (x : Int) : Int := if isF x then x / 2 else 0
def decE (x : Int) : Int := if isF x || isL x then 0 else 12

theorem isF_yes {x : Int} (h : x % 2 = 1) (h2 : x / 2 < 16384) : isF x = true := decide_eq_true ⟨h, h2⟩
theorem isF_even {x : Int} (h : x % 2 = 0) : isF x = false := decide_eq_false (by omega)
theorem isF_far {x : Int} (h : ¬ x / 2 < 16384) : isF x = false := decide_eq_false (by omega)
theorem isL_odd {x : Int} (h : x % 2 = 1) : isL x = false := decide_eq_false (by omega)
theorem isL_iff {x : Int} : isL x = true ↔ x % 2 = 0 ∧ x / 256 ≤ 48 ∧ x % 256 / 2 ≤ 15 ∧ 1 + x % 256 / 2 ≤ x / 256 ∧ x / 256 - 1 - x % 256 / 2 ≤ 32 := by
  unfold isL; exact decide_eq_true_iff
theorem isL_no {x : Int} (h : ¬ (x % 2 = 0 ∧ x / 256 ≤ 48 ∧ x % 256 / 2 ≤ 15 ∧ 1 + x % 256 / 2 ≤ x / 256 ∧ x / 256 - 1 - x % 256 / 2 ≤ 32)) : isL x = false := decide_eq_false h
theorem isF_iff {x : Int} : isF x = true ↔ x % 2 = 1 ∧ x / 2 < 16384 := by
  unfold isF; exact decide_eq_true_iff

theorem live_in {r d : Int} (h : 0 ≤ r ∧ r ≤ 15 ∧ 0 ≤ d ∧ d ≤ 32) : liveV r d = (1 + r + d) * 256 + r * 2 ∧ liveE r d = 0 := by
  unfold liveV liveE; rw [if_pos h, if_pos h]; exact ⟨rfl, rfl⟩
theorem live_out {r d : Int} (h : ¬ (0 ≤ r ∧ r ≤ 15 ∧ 0 ≤ d ∧ d ≤ 32)) : liveV r d = 0 ∧ liveE r d = 13 := by
  unfold liveV liveE; rw [if_neg h, if_neg h]; exact ⟨rfl, rfl⟩
theorem fwd_in {a : Int} (h : 0 ≤ a ∧ a < 16384) : fwdV a = 2 * a + 1 ∧ fwdE a = 0 := by
  unfold fwdV fwdE; rw [if_pos h, if_pos h]; exact ⟨rfl, rfl⟩
theorem fwd_out {a : Int} (h : ¬ (0 ≤ a ∧ a < 16384)) : fwdV a = 0 ∧ fwdE a = 2 := by
  unfold fwdV fwdE; rw [if_neg h, if_neg h]; exact ⟨rfl, rfl⟩

/-- What a header of an object says is what it was made of; the same of a forwarding one. -/
theorem dec_live {r d : Int} (h : 0 ≤ r ∧ r ≤ 15 ∧ 0 ≤ d ∧ d ≤ 32) : isF (liveV r d) = false ∧ isL (liveV r d) = true ∧ decR (liveV r d) = r ∧ decD (liveV r d) = d ∧ decE (liveV r d) = 0 := by
  have e := (live_in h).1
  have hl : isL (liveV r d) = true := isL_iff.2 (by
    have q : ((1 + r + d) * 256 + r * 2) / 256 = 1 + r + d := by omega
    have q2 : ((1 + r + d) * 256 + r * 2) % 256 = r * 2 := by omega
    rw [e, q, q2]; omega)
  have hf : isF (liveV r d) = false := isF_even (by rw [e]; omega)
  have q : ((1 + r + d) * 256 + r * 2) / 256 = 1 + r + d := by omega
  have q2 : ((1 + r + d) * 256 + r * 2) % 256 = r * 2 := by omega
  unfold decR decD decE
  rw [hl, hf, if_pos rfl, if_pos rfl, e, q, q2]
  refine ⟨rfl, rfl, by omega, by omega, rfl⟩
theorem dec_fwd {a : Int} (h : 0 ≤ a ∧ a < 16384) : isF (fwdV a) = true ∧ decA (fwdV a) = a ∧ decE (fwdV a) = 0 := by
  have e := (fwd_in h).1
  have hf : isF (fwdV a) = true := isF_iff.2 (by rw [e]; omega)
  unfold decA decE
  rw [hf, if_pos rfl, e]
  exact ⟨rfl, by omega, rfl⟩
/-- A word that is read is the one header for what it says. -/
theorem back_live {x : Int} (x0 : 0 ≤ x) (hf : isF x = false) (he : decE x = 0) : liveV (decR x) (decD x) = x ∧ liveE (decR x) (decD x) = 0 := by
  have hl : isL x = true := by
    unfold decE at he
    rw [hf] at he
    cases hl : isL x
    · rw [hl] at he; exact absurd he (by decide)
    · rfl
  have h := isL_iff.1 hl
  unfold decR decD
  rw [hl, if_pos rfl, if_pos rfl]
  have hi : 0 ≤ x % 256 / 2 ∧ x % 256 / 2 ≤ 15 ∧ 0 ≤ x / 256 - 1 - x % 256 / 2 ∧ x / 256 - 1 - x % 256 / 2 ≤ 32 := by omega
  rw [(live_in hi).1, (live_in hi).2]
  exact ⟨by omega, rfl⟩
theorem back_fwd {x : Int} (x0 : 0 ≤ x) (hf : isF x = true) : fwdV (decA x) = x ∧ fwdE (decA x) = 0 := by
  have h := isF_iff.1 hf
  unfold decA
  rw [hf, if_pos rfl]
  have hi : 0 ≤ x / 2 ∧ x / 2 < 16384 := by omega
  rw [(fwd_in hi).1, (fwd_in hi).2]
  exact ⟨by omega, rfl⟩

/-- The bits of a word that is a natural number. -/
theorem bit_nat {m : Nat} (i : Nat) (h : i < 64) : bit (m : Int) i = m.testBit i := by
  unfold bit bv
  rw [BitVec.ofInt_natCast, BitVec.getLsbD_ofNat, decide_eq_true h, Bool.true_and]
theorem fits_lt {x n : Nat} (h : x < 2 ^ n) : fitsB (x : Int) (n : Int) = true := by
  refine fits_bits.2 fun i hi hn => ?_
  rw [bit_nat i hi]
  exact Nat.testBit_lt_two_pow (Nat.lt_of_lt_of_le h (Nat.pow_le_pow_right (by decide) (by omega)))
/-- A field put above all bits is a sum. -/
theorem put_sum {v a n x : Nat} (hv : v < 2 ^ a) (hx : x < 2 ^ n) (h : 2 ^ a * x + v < 18446744073709551616) : putZ (v : Int) (a : Int) (n : Int) (x : Int) = ((2 ^ a * x + v : Nat) : Int) := by
  refine ext_bits (put_lo _ _ _ _) (put_hi _ _ _ _) (by omega) (by omega) fun i hi => ?_
  rw [bit_put (by omega) (fits_lt hx) i hi, bit_nat (m := 2 ^ a * x + v) i hi, Nat.testBit_two_pow_mul_add x hv, Int.toNat_natCast]
  by_cases h1 : i < a
  · rw [if_neg (by omega), if_pos h1, bit_nat i hi]
  · rw [if_neg h1]
    by_cases h2 : i < a + n
    · rw [if_pos (by omega), bit_nat _ (by omega)]
    · rw [if_neg (by omega), bit_nat i hi, Nat.testBit_lt_two_pow (Nat.lt_of_lt_of_le hv (Nat.pow_le_pow_right (by decide) (by omega))),
        Nat.testBit_lt_two_pow (Nat.lt_of_lt_of_le hx (Nat.pow_le_pow_right (by decide) (by omega)))]
theorem get_mod {v a n : Nat} (hv : v < 18446744073709551616) (hn : n ≤ 63) : getZ (v : Int) (a : Int) (n : Int) = ((v / 2 ^ a % 2 ^ n : Nat) : Int) := by
  have hb : v / 2 ^ a % 2 ^ n < 18446744073709551616 := Nat.lt_of_le_of_lt (Nat.mod_le _ _) (Nat.lt_of_le_of_lt (Nat.div_le_self _ _) hv)
  refine ext_bits (get_lo _ _ _) (get_hi _ _ _) (by omega) (by omega) fun i hi => ?_
  rw [bit_get (by omega) (by omega) i hi, bit_nat i hi, Nat.testBit_mod_two_pow, Nat.testBit_div_two_pow, Int.toNat_natCast]
  by_cases hk : a + i < 64
  · rw [bit_nat _ hk, Nat.add_comm]
    congr 1
    exact decide_eq_decide.2 (by omega)
  · rw [bit_big _ (by omega), Nat.testBit_lt_two_pow (show v < 2 ^ (i + a) from Nat.lt_of_lt_of_le hv (by
      have : 2 ^ 64 ≤ 2 ^ (i + a) := Nat.pow_le_pow_right (by decide) (by omega)
      omega))]
    simp

theorem put_refs {r : Int} (h0 : 0 ≤ r) (h1 : r ≤ 15) : putZ 0 1 7 r = r * 2 ∧ fitsB r 7 = true := by
  obtain ⟨m, rfl⟩ := Int.eq_ofNat_of_zero_le h0
  have := put_sum (v := 0) (a := 1) (n := 7) (x := m) (by decide) (show m < 128 by omega) (show 2 * m + 0 < _ by omega)
  exact ⟨this.trans (by omega), fits_lt (n := 7) (show m < 128 by omega)⟩
theorem put_size {r s : Int} (h0 : 0 ≤ r) (h1 : r ≤ 15) (h2 : 0 ≤ s) (h3 : s ≤ 48) : putZ (r * 2) 8 8 s = s * 256 + r * 2 ∧ fitsB s 8 = true := by
  obtain ⟨m, rfl⟩ := Int.eq_ofNat_of_zero_le h0
  obtain ⟨k, rfl⟩ := Int.eq_ofNat_of_zero_le h2
  have := put_sum (v := m * 2) (a := 8) (n := 8) (x := k) (show m * 2 < 256 by omega) (show k < 256 by omega) (show 256 * k + m * 2 < _ by omega)
  exact ⟨Eq.trans (by congr 1) (this.trans (by omega)), fits_lt (n := 8) (show k < 256 by omega)⟩
theorem put_addr {a : Int} (h0 : 0 ≤ a) (h1 : a < 16384) : putZ 1 1 32 a = 2 * a + 1 ∧ fitsB a 32 = true := by
  obtain ⟨m, rfl⟩ := Int.eq_ofNat_of_zero_le h0
  have := put_sum (v := 1) (a := 1) (n := 32) (x := m) (by decide) (show m < 4294967296 by omega) (show 2 * m + 1 < _ by omega)
  exact ⟨this.trans (by omega), fits_lt (n := 32) (show m < 4294967296 by omega)⟩
theorem put_mark : putZ 0 0 1 1 = 1 ∧ fitsB 1 1 = true := by decide
theorem get_mark {x : Int} (x0 : 0 ≤ x) (x1 : x < 18446744073709551616) : getZ x 0 1 = x % 2 := by
  obtain ⟨m, rfl⟩ := Int.eq_ofNat_of_zero_le x0
  exact (get_mod (v := m) (a := 0) (n := 1) (by omega) (by decide)).trans (by omega)
theorem get_refs {x : Int} (x0 : 0 ≤ x) (x1 : x < 18446744073709551616) : getZ x 1 7 = x % 256 / 2 := by
  obtain ⟨m, rfl⟩ := Int.eq_ofNat_of_zero_le x0
  exact (get_mod (v := m) (a := 1) (n := 7) (by omega) (by decide)).trans (by omega)
theorem get_size {x : Int} (x0 : 0 ≤ x) (x1 : x < 18446744073709551616) : getZ x 8 8 = x / 256 % 256 := by
  obtain ⟨m, rfl⟩ := Int.eq_ofNat_of_zero_le x0
  exact (get_mod (v := m) (a := 8) (n := 8) (by omega) (by decide)).trans (by omega)
theorem get_addr {x : Int} (x0 : 0 ≤ x) (x1 : x < 18446744073709551616) : getZ x 1 32 = x / 2 % 4294967296 := by
  obtain ⟨m, rfl⟩ := Int.eq_ofNat_of_zero_le x0
  exact (get_mod (v := m) (a := 1) (n := 32) (by omega) (by decide)).trans (by omega)
/-- Any result of a bit operation on words is a word. -/
theorem bits_u64 (op : BinOp) (x y : Int) : 0 ≤ bits op .u64 x y ∧ bits op .u64 x y < 18446744073709551616 := by
  have h : ∀ z : Int, 0 ≤ IntKind.u64.wrap z ∧ IntKind.u64.wrap z < 18446744073709551616 := by
    intro z; rw [IntKind.wrap_u64]; omega
  unfold bits
  split <;> exact h _
end Hd
end Go.Proofs.Ytjkbjbikofindaa

namespace Go.Proofs.Ytjkbjbikofindaa
namespace Hd
open Go.RowKit (wrap32 wrap64 intOf)
open Go.RowKit
set_option linter.unusedVariables false
set_option maxRecDepth 100000

theorem ret_ve {a b c d : Int} (h : a = b) (g : c = d) : Ending.returned (.tuple #[.int .u64 a, .int .i64 c]) = Ending.returned (.tuple #[.int .u64 b, .int .i64 d]) := by rw [h, g]
theorem ret_ie {a b c d : Int} (h : a = b) (g : c = d) : Ending.returned (.tuple #[.int .i64 a, .int .i64 c]) = Ending.returned (.tuple #[.int .i64 b, .int .i64 d]) := by rw [h, g]
theorem ret_iie {a b c d x y : Int} (h : a = b) (g : c = d) (k : x = y) : Ending.returned (.tuple #[.int .i64 a, .int .i64 c, .int .i64 x]) = Ending.returned (.tuple #[.int .i64 b, .int .i64 d, .int .i64 y]) := by rw [h, g, k]
theorem ret_dec {r r' d d' a a' e e' : Int} {m m' : Bool} (h1 : r = r') (h2 : d = d') (h3 : a = a') (h4 : m = m') (h5 : e = e') :
    Ending.returned (.tuple #[.int .i64 r, .int .i64 d, .int .i64 a, .bool m, .int .i64 e]) = Ending.returned (.tuple #[.int .i64 r', .int .i64 d', .int .i64 a', .bool m', .int .i64 e']) := by rw [h1, h2, h3, h4, h5]

theorem refLive_any (r d : Int) (r0 : -9223372036854775808 ≤ r) (r1 : r ≤ 9223372036854775807) (d0 : -9223372036854775808 ≤ d) (d1 : d ≤ 9223372036854775807) (w : World) :
    Calls Try.prog 87 #[.int .i64 r, .int .i64 d] w fun e w' => e = .returned (.tuple #[.int .u64 (liveV r d), .int .i64 (liveE r d)]) ∧ w = w' := by
  by_cases h : 0 ≤ r ∧ r ≤ 15 ∧ 0 ≤ d ∧ d ≤ 32
  · rw [(live_in h).1, (live_in h).2]
    obtain ⟨h1, h2, h3, h4⟩ := h
    go_enter Try.func87, Try.ntmps87
    go_wp2_with fail
    go_ret2
    exact ⟨rfl, rfl⟩
  · rw [(live_out h).1, (live_out h).2]
    go_enter Try.func87, Try.ntmps87
    go_wp2_with fail
    all_goals (go_ret2; exact ⟨rfl, rfl⟩)

theorem dec_range (x : Int) (x0 : 0 ≤ x) : 0 ≤ decR x ∧ decR x ≤ 15 ∧ 0 ≤ decD x ∧ decD x ≤ 32 ∧ 0 ≤ decA x ∧ decA x ≤ 16383 := by
  have h1 : 0 ≤ decR x ∧ decR x ≤ 15 ∧ 0 ≤ decD x ∧ decD x ≤ 32 := by
    unfold decR decD
    cases hl : isL x
    · simp
    · have := isL_iff.1 hl
      rw [if_pos rfl, if_pos rfl]; omega
  have h2 : 0 ≤ decA x ∧ decA x ≤ 16383 := by
    unfold decA
    cases hf : isF x
    · simp
    · have := isF_iff.1 hf
      rw [if_pos rfl]; omega
  omega

end Hd
end Go.Proofs.Ytjkbjbikofindaa
