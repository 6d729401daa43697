/-
  Plain mathematics of shares: which words are shares, how many frames they are, the rank of a word, percentages. Nothing here speaks of the program.
-/
import Derived.Test.YtpkikegjoncmaaaFloat
import Derived.WalkKit
import Derived.WalkLawsBesides
namespace Go.Proofs.Ytpkikegjoncmaaa
set_option linter.unusedVariables false

/-- The word of 1. -/
def oneF : Nat := 4607182418800017408
def okF (x : Nat) : Bool := decide (x ≤ 4607182418800017408)
/-- A share is mantF / 2 ^ shF. -/
def mantF (x : Nat) : Nat := if x < 4503599627370496 then x else x % 4503599627370496 + 4503599627370496
def shF (x : Nat) : Nat := if x < 4503599627370496 then 1074 else 1075 - x / 4503599627370496
def prodF (x n : Nat) : Nat := mantF x * n / 2 ^ shF x
/-- The answer of Frames. -/
def frK (x : Nat) (n : Int) : Int := if okF x then if 1 ≤ n ∧ n ≤ 64 then if x = 0 then 0 else if (prodF x n.toNat : Int) > 1 then prodF x n.toNat else 1 else 0 else 0
def frE (x : Nat) (n : Int) : Int := if okF x then if 1 ≤ n ∧ n ≤ 64 then 0 else 1 else 6
/-- The rank of a word in the order. -/
def rkF (x : Nat) : Nat := if nanF x then 18446744073709551615 else if x < 9223372036854775808 then x + 9223372036854775808 else 18446744073709551615 - x
def ordF (x y : Nat) : Int := if rkF x < rkF y then -1 else if rkF y < rkF x then 1 else 0

theorem rg_small {x : Nat} (h : x < 9223372036854775808) : rgF x = x := Nat.mod_eq_of_lt h
theorem rg_big {x : Nat} (h : 9223372036854775808 ≤ x) (h' : x < 18446744073709551616) : rgF x = x - 9223372036854775808 := by unfold rgF; omega
theorem sg_small {x : Nat} (h : x < 9223372036854775808) : sgF x = false := by
  unfold sgF; rw [show x / 9223372036854775808 % 2 = 0 by omega]; rfl
theorem sg_big {x : Nat} (h : 9223372036854775808 ≤ x) (h' : x < 18446744073709551616) : sgF x = true := by
  unfold sgF; rw [show x / 9223372036854775808 % 2 = 1 by omega]; rfl
theorem key_small {x : Nat} (h : x < 9223372036854775808) : keyF x = x := by
  unfold keyF; rw [sg_small h, rg_small h]; rfl
theorem key_big {x : Nat} (h : 9223372036854775808 ≤ x) (h' : x < 18446744073709551616) : keyF x = -(x : Int) + 9223372036854775808 := by
  unfold keyF; rw [sg_big h h', rg_big h h', if_pos rfl]; omega
theorem nan_small {x : Nat} (h : x < 9223372036854775808) : nanF x = decide (9218868437227405312 < x) := by
  unfold nanF; rw [rg_small h]; rfl
theorem nan_big {x : Nat} (h : 9223372036854775808 ≤ x) (h' : x < 18446744073709551616) : nanF x = decide (18442240474082181120 < x) := by
  unfold nanF; rw [rg_big h h', show infF = 9218868437227405312 from rfl]
  congr 1; apply propext; omega
theorem rk_le (x : Nat) : rkF x ≤ 18446744073709551615 ∨ 18446744073709551616 ≤ x := by
  unfold rkF
  split
  · omega
  · split <;> omega
/-- Valid: the comparisons with 0 and 1. -/
theorem ok_cmp {x : Nat} (h : x < 18446744073709551616) : (x == 0 || ((Ieee.double.order x 0 == some .gt) && (Ieee.double.order x 4607182418800017408 == some .lt || Ieee.double.order x 4607182418800017408 == some .eq))) = okF x := by
  rw [ord_gt, ord_le, key_small (x := 0) (by omega), key_small (x := 4607182418800017408) (by omega), nan_small (x := 0) (by omega), nan_small (x := 4607182418800017408) (by omega)]
  unfold okF
  rcases Nat.lt_or_ge x 9223372036854775808 with h1 | h1
  · rw [key_small h1, nan_small h1, Bool.eq_iff_iff]
    simp only [Bool.or_eq_true, Bool.and_eq_true, beq_iff_eq, Bool.not_eq_true', decide_eq_false_iff_not, decide_eq_true_eq]
    omega
  · rw [key_big h1 h, nan_big h1 h, Bool.eq_iff_iff]
    simp only [Bool.or_eq_true, Bool.and_eq_true, beq_iff_eq, Bool.not_eq_true', decide_eq_false_iff_not, decide_eq_true_eq]
    omega
/-- x == 0 of a share. -/
theorem zero_cmp {x : Nat} (h : x ≤ 4607182418800017408) : (Ieee.double.order x 0 == some .eq) = decide (x = 0) := by
  rw [ord_eq, key_small (x := 0) (by omega), key_small (x := x) (by omega), nan_small (x := 0) (by omega), nan_small (x := x) (by omega), Bool.eq_iff_iff]
  simp only [Bool.and_eq_true, Bool.not_eq_true', decide_eq_false_iff_not, decide_eq_true_eq]
  omega
/-- x != x. -/
theorem self_cmp (x : Nat) : (Ieee.double.order x x != some .eq) = nanF x := by
  rw [ord_ne]; cases nanF x <;> simp

/-- What the reference's order says is the ranks' order. -/
theorem ord_lt_rk {x y : Nat} (hx : x < 18446744073709551616) (hy : y < 18446744073709551616) (h1 : nanF x = false) (h2 : nanF y = false) (h : keyF x < keyF y) : rkF x < rkF y := by
  unfold rkF
  rw [h1, h2]
  simp only [Bool.false_eq_true, if_false]
  rcases Nat.lt_or_ge x 9223372036854775808 with a | a <;> rcases Nat.lt_or_ge y 9223372036854775808 with b | b
  · rw [key_small a, key_small b] at h; rw [if_pos a, if_pos b]; omega
  · rw [key_small a, key_big b hy] at h; rw [if_pos a, if_neg (by omega)]; omega
  · rw [key_big a hx, key_small b] at h; rw [if_neg (by omega), if_pos b]; omega
  · rw [key_big a hx, key_big b hy] at h; rw [if_neg (by omega), if_neg (by omega)]; omega
theorem ord_eq_rk {x y : Nat} (hx : x < 18446744073709551616) (hy : y < 18446744073709551616) (h1 : nanF x = false) (h2 : nanF y = false) (h : keyF x = keyF y) :
    (x < 9223372036854775808 ∧ y < 9223372036854775808 ∧ rkF x = rkF y) ∨ (9223372036854775808 ≤ x ∧ 9223372036854775808 ≤ y ∧ rkF x = rkF y) ∨ (9223372036854775808 ≤ x ∧ y < 9223372036854775808 ∧ rkF x < rkF y) ∨ (x < 9223372036854775808 ∧ 9223372036854775808 ≤ y ∧ rkF y < rkF x) := by
  unfold rkF
  rw [h1, h2]
  simp only [Bool.false_eq_true, if_false]
  rcases Nat.lt_or_ge x 9223372036854775808 with a | a <;> rcases Nat.lt_or_ge y 9223372036854775808 with b | b
  · rw [key_small a, key_small b] at h; rw [if_pos a, if_pos b]; omega
  · rw [key_small a, key_big b hy] at h; rw [if_pos a, if_neg (by omega)]; omega
  · rw [key_big a hx, key_small b] at h; rw [if_neg (by omega), if_pos b]; omega
  · rw [key_big a hx, key_big b hy] at h; rw [if_neg (by omega), if_neg (by omega)]; omega
theorem rk_nan {x : Nat} (h : nanF x = true) : rkF x = 18446744073709551615 := by unfold rkF; rw [h]; rfl
theorem rk_num {x : Nat} (hx : x < 18446744073709551616) (h : nanF x = false) : rkF x < 18446744073709551615 := by
  unfold rkF
  rw [h]
  simp only [Bool.false_eq_true, if_false]
  rcases Nat.lt_or_ge x 9223372036854775808 with a | a
  · rw [nan_small a] at h; have := of_decide_eq_false h; rw [if_pos a]; omega
  · rw [if_neg (by omega)]; omega

theorem ord_lt_is {x y : Nat} (h : rkF x < rkF y) : ordF x y = -1 := by unfold ordF; rw [if_pos h]
theorem ord_gt_is {x y : Nat} (h : rkF y < rkF x) : ordF x y = 1 := by unfold ordF; rw [if_neg (by omega), if_pos h]
theorem ord_eq_is {x y : Nat} (h : rkF x = rkF y) : ordF x y = 0 := by unfold ordF; rw [if_neg (by omega), if_neg (by omega)]
theorem ord_neg (x y : Nat) : ordF x y = -ordF y x := by
  rcases Nat.lt_trichotomy (rkF x) (rkF y) with h | h | h
  · rw [ord_lt_is h, ord_gt_is h]
  · rw [ord_eq_is h, ord_eq_is h.symm]; rfl
  · rw [ord_gt_is h, ord_lt_is h]; rfl
theorem ord_range (x y : Nat) : -1 ≤ ordF x y ∧ ordF x y ≤ 1 := by unfold ordF; split <;> (try split) <;> omega
theorem ord_le_iff (x y : Nat) : ordF x y ≤ 0 ↔ rkF x ≤ rkF y := by
  rcases Nat.lt_trichotomy (rkF x) (rkF y) with h | h | h
  · rw [ord_lt_is h]; omega
  · rw [ord_eq_is h]; omega
  · rw [ord_gt_is h]; omega
theorem ord_trans {x y z : Nat} (h1 : ordF x y ≤ 0) (h2 : ordF y z ≤ 0) : ordF x z ≤ 0 := by
  rw [ord_le_iff] at *; omega

/-- What a share is worth. -/
theorem mant_lt (x : Nat) : mantF x < 9007199254740992 := by unfold mantF; split <;> omega
theorem sh_lo {x : Nat} (h : x ≤ 4607182418800017408) : 52 ≤ shF x ∧ shF x ≤ 1074 := by unfold shF; split <;> omega
theorem val_of {x : Nat} (h : x ≤ 4607182418800017408) : valF x = mantF x * 2 ^ (1074 - shF x) := by
  unfold valF mantF shF
  by_cases h1 : x < 4503599627370496
  · rw [if_pos h1, if_pos h1, if_pos h1]; simp
  · rw [if_neg h1, if_neg h1, if_neg h1, Nat.add_comm]
    congr 2
    omega
theorem prod_val {x : Nat} (n : Nat) (h : x ≤ 4607182418800017408) : prodF x n = valF x * n / 2 ^ 1074 := by
  have s := sh_lo h
  unfold prodF
  rw [val_of h, show 1074 = shF x + (1074 - shF x) by omega, Nat.pow_add, show shF x + (1074 - shF x) - shF x = 1074 - shF x by omega, Nat.mul_right_comm]
  exact (Nat.mul_div_mul_right _ _ (Nat.two_pow_pos _)).symm
theorem div_big {a s : Nat} (h1 : a < 1152921504606846976) (h : 64 ≤ s) : a / 2 ^ s = 0 := by
  apply Nat.div_eq_of_lt
  have : 2 ^ 64 ≤ 2 ^ s := Nat.pow_le_pow_right (by decide) h
  omega
theorem prod_mono {x y n m : Nat} (hx : x ≤ y) (hy : y ≤ 4607182418800017408) (hn : n ≤ m) : prodF x n ≤ prodF y m := by
  rw [prod_val n (Nat.le_trans hx hy), prod_val m hy]
  apply Nat.div_le_div_right
  refine Nat.mul_le_mul ?_ hn
  rcases Nat.lt_or_ge x y with h | h
  · exact Nat.le_of_lt (valF_lt h)
  · rw [show x = y by omega]; exact Nat.le_refl _
theorem prod_one (n : Nat) : prodF 4607182418800017408 n = n := by
  unfold prodF
  rw [show mantF 4607182418800017408 = 4503599627370496 by decide, show shF 4607182418800017408 = 52 by decide, Nat.mul_comm]
  exact Nat.mul_div_cancel _ (by decide)
theorem prod_le {x : Nat} (n : Nat) (h : x ≤ 4607182418800017408) : prodF x n ≤ n := by
  have := prod_mono (n := n) h (Nat.le_refl _) (Nat.le_refl _)
  rw [prod_one] at this; exact this
theorem frK_in {x : Nat} {n : Int} (h : x ≤ 4607182418800017408) (h0 : x ≠ 0) (n0 : 1 ≤ n) (n1 : n ≤ 64) : frK x n = if (prodF x n.toNat : Int) > 1 then (prodF x n.toNat : Int) else 1 := by
  unfold frK okF
  rw [decide_eq_true h, if_pos rfl, if_pos ⟨n0, n1⟩, if_neg h0]
theorem frE_in {x : Nat} {n : Int} (h : x ≤ 4607182418800017408) (n0 : 1 ≤ n) (n1 : n ≤ 64) : frE x n = 0 := by
  unfold frE okF
  rw [decide_eq_true h, if_pos rfl, if_pos ⟨n0, n1⟩]
theorem fr_mono {x y : Nat} {n m : Int} (hx : x ≤ y) (h0 : x ≠ 0) (hy : y ≤ 4607182418800017408) (n0 : 1 ≤ n) (nm : n ≤ m) (m1 : m ≤ 64) : 1 ≤ frK x n ∧ frK x n ≤ frK y m := by
  rw [frK_in (by omega) h0 n0 (by omega), frK_in hy (by omega) (by omega) m1]
  have := prod_mono hx hy (show n.toNat ≤ m.toNat by omega)
  constructor
  · split <;> omega
  · split <;> split <;> omega
theorem fr_one {n : Int} (n0 : 1 ≤ n) (n1 : n ≤ 64) : frK 4607182418800017408 n = n := by
  rw [frK_in (by omega) (by omega) n0 n1, prod_one]
  split <;> omega
theorem fr_le {x : Nat} {n : Int} (h : x ≤ 4607182418800017408) (h0 : x ≠ 0) (n0 : 1 ≤ n) (n1 : n ≤ 64) : 1 ≤ frK x n ∧ frK x n ≤ n := by
  rw [frK_in h h0 n0 n1]
  have := prod_le n.toNat h
  split <;> omega

/-- Words in bits. -/
theorem ofInt_nat64 (a : Nat) (h : a < 18446744073709551616) : (BitVec.ofInt 64 (a : Int)).toNat = a := by
  rw [BitVec.ofInt_natCast, BitVec.toNat_ofNat]; exact Nat.mod_eq_of_lt (by omega)
theorem and_nat {a b : Nat} (ha : a < 18446744073709551616) (hb : b < 18446744073709551616) : bits .and .u64 (a : Int) (b : Int) = ((a &&& b : Nat) : Int) := by
  have hx : a &&& b < 2 ^ 64 := Nat.and_lt_two_pow _ (by omega)
  show IntKind.u64.wrap ((BitVec.ofInt 64 (a : Int) &&& BitVec.ofInt 64 (b : Int)).toNat : Int) = _
  rw [BitVec.toNat_and, ofInt_nat64 a ha, ofInt_nat64 b hb, IntKind.wrap_u64]
  omega
theorem or_nat {a b : Nat} (ha : a < 18446744073709551616) (hb : b < 18446744073709551616) : bits .or .u64 (a : Int) (b : Int) = ((a ||| b : Nat) : Int) := by
  have hx : a ||| b < 2 ^ 64 := Nat.or_lt_two_pow (by omega) (by omega)
  show IntKind.u64.wrap ((BitVec.ofInt 64 (a : Int) ||| BitVec.ofInt 64 (b : Int)).toNat : Int) = _
  rw [BitVec.toNat_or, ofInt_nat64 a ha, ofInt_nat64 b hb, IntKind.wrap_u64]
  omega
theorem and_frac {x : Nat} (h : x < 18446744073709551616) : bits .and .u64 (x : Int) 4503599627370495 = ((x % 4503599627370496 : Nat) : Int) := by
  have e := and_nat h (show 4503599627370495 < 18446744073709551616 by decide)
  rw [Nat.and_two_pow_sub_one_eq_mod x 52] at e
  exact e
theorem and_exp {x : Nat} (h : x < 18446744073709551616) : bits .and .u64 (x : Int) 2047 = ((x % 2048 : Nat) : Int) := by
  have e := and_nat h (show 2047 < 18446744073709551616 by decide)
  rw [Nat.and_two_pow_sub_one_eq_mod x 11] at e
  exact e
theorem and_low {x : Nat} (h : x < 18446744073709551616) : bits .and .u64 (x : Int) 15 = ((x % 16 : Nat) : Int) := by
  have e := and_nat h (show 15 < 18446744073709551616 by decide)
  rw [Nat.and_two_pow_sub_one_eq_mod x 4] at e
  exact e
theorem or_sum {a b : Nat} (k : Nat) (ha : a < 2 ^ k) (h : 2 ^ k * b + a < 18446744073709551616) : bits .or .u64 (a : Int) ((2 ^ k * b : Nat) : Int) = ((2 ^ k * b + a : Nat) : Int) := by
  rw [or_nat (by omega) (by omega), Nat.or_comm, Nat.two_pow_add_eq_or_of_lt ha]
theorem or_lead {r : Nat} (h : r < 4503599627370496) : bits .or .u64 (r : Int) 4503599627370496 = ((r + 4503599627370496 : Nat) : Int) := by
  have e := or_sum (a := r) (b := 1) 52 h (by omega)
  rw [Nat.add_comm] at e
  exact e
theorem or_sign {r : Nat} (h : r < 9223372036854775808) : bits .or .u64 (r : Int) 9223372036854775808 = ((r + 9223372036854775808 : Nat) : Int) := by
  have e := or_sum (a := r) (b := 1) 63 h (by omega)
  rw [Nat.add_comm] at e
  exact e
theorem and_top {x : Nat} (h : x < 18446744073709551616) : x &&& 9223372036854775808 = if x < 9223372036854775808 then 0 else 9223372036854775808 := by
  have e : x &&& 2 ^ 63 = if x < 9223372036854775808 then 0 else 2 ^ 63 := by
    apply Nat.eq_of_testBit_eq
    intro i
    rw [Nat.testBit_and, Nat.testBit_two_pow]
    by_cases hi : 63 = i
    · subst hi
      rw [Nat.testBit_eq_decide_div_mod_eq]
      split
      · rw [show x / 2 ^ 63 % 2 = 0 by omega]; simp
      · rw [show x / 2 ^ 63 % 2 = 1 by omega]; decide
    · rw [decide_eq_false hi, Bool.and_false]
      split
      · simp
      · rw [Nat.testBit_two_pow, decide_eq_false hi]
  exact e
theorem and_sign {x : Nat} (h : x < 18446744073709551616) : bits .and .u64 (x : Int) 9223372036854775808 = if x < 9223372036854775808 then 0 else 9223372036854775808 := by
  have e := and_nat h (show 9223372036854775808 < 18446744073709551616 by decide)
  rw [and_top h] at e
  refine Eq.trans e ?_
  split <;> rfl
theorem xor_max {x : Nat} (h : x < 18446744073709551616) : bits .xor .u64 IntKind.u64.max (x : Int) = ((18446744073709551615 - x : Nat) : Int) := by
  show IntKind.u64.wrap ((BitVec.ofInt 64 18446744073709551615 ^^^ BitVec.ofInt 64 (x : Int)).toNat : Int) = _
  rw [show BitVec.ofInt 64 18446744073709551615 = BitVec.allOnes 64 from rfl, BitVec.allOnes_xor, BitVec.toNat_not, ofInt_nat64 x h, IntKind.wrap_u64]
  omega
end Go.Proofs.Ytpkikegjoncmaaa
