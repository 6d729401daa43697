/-
  Merged: shares (stage 6), in a namespace of their own.
-/
import Ieee.Arith
import Derived.WalkKit
import Derived.WalkLawsBesides
import Derived.Test.YtmhbbjbbckdlbaaDoorRows
import Derived.Laws.Shifts
import Derived.Laws.Externs
import Derived.LoopTactic
import Derived.Lib.Hide
namespace Go.Proofs.YtmhbbjbbckdlbaaDoor
namespace Sh

/-- The sign of a word, and its rung. -/
def sgF (w : Nat) : Bool := w / 9223372036854775808 % 2 == 1
def rgF (w : Nat) : Nat := w % 9223372036854775808
/-- The rung of infinity. -/
def infF : Nat := 9218868437227405312
/-- The magnitude of a rung, in units of the least number. -/
def valF (r : Nat) : Nat := if r < 4503599627370496 then r else (4503599627370496 + r % 4503599627370496) * 2 ^ (r / 4503599627370496 - 1)
/-- The place of a word among the numbers: its rung with its sign. -/
def keyF (w : Nat) : Int := if sgF w then -(rgF w : Int) else rgF w

theorem dbl_sw : Ieee.double.signWeight = 9223372036854775808 := by decide
theorem dbl_bin : Ieee.double.binade = 4503599627370496 := by decide
theorem dbl_inf : Ieee.double.infRung = infF := by decide
theorem dbl_lp : Ieee.double.leastPlace = -1074 := by decide

theorem valF_succ (r : Nat) : valF r < valF (r + 1) := by
  unfold valF
  by_cases h1 : r + 1 < 4503599627370496
  · rw [if_pos h1, if_pos (by omega)]; omega
  · rw [if_neg h1]
    by_cases h2 : r < 4503599627370496
    · rw [if_pos h2]
      have e : r + 1 = 4503599627370496 := by omega
      rw [e]
      show r < (4503599627370496 + 4503599627370496 % 4503599627370496) * 2 ^ (4503599627370496 / 4503599627370496 - 1)
      rw [show (4503599627370496 + 4503599627370496 % 4503599627370496) * 2 ^ (4503599627370496 / 4503599627370496 - 1) = 4503599627370496 by decide]
      omega
    · rw [if_neg h2]
      by_cases h3 : (r + 1) % 4503599627370496 = 0
      · have e1 : r % 4503599627370496 = 4503599627370495 := by omega
        have e2 : (r + 1) / 4503599627370496 - 1 = (r / 4503599627370496 - 1) + 1 := by omega
        rw [h3, e1, e2, Nat.pow_succ]
        have hp : 0 < 2 ^ (r / 4503599627370496 - 1) := Nat.two_pow_pos _
        generalize 2 ^ (r / 4503599627370496 - 1) = z at hp
        omega
      · have e1 : (r + 1) % 4503599627370496 = r % 4503599627370496 + 1 := by omega
        have e2 : (r + 1) / 4503599627370496 = r / 4503599627370496 := by omega
        rw [e1, e2]
        exact Nat.mul_lt_mul_of_pos_right (by omega) (Nat.two_pow_pos _)
theorem valF_lt {r s : Nat} (h : r < s) : valF r < valF s := by
  obtain ⟨d, rfl⟩ : ∃ d, s = r + 1 + d := ⟨s - (r + 1), by omega⟩
  induction d with
  | zero => exact valF_succ r
  | succ d ih => exact Nat.lt_trans (ih (by omega)) (valF_succ _)
theorem valF_lt_iff {r s : Nat} : valF r < valF s ↔ r < s := by
  constructor
  · intro h
    rcases Nat.lt_trichotomy r s with h1 | h1 | h1
    · exact h1
    · subst h1; exact absurd h (Nat.lt_irrefl _)
    · exact absurd h (Nat.lt_asymm (valF_lt h1))
  · exact valF_lt
theorem valF_inj {r s : Nat} : valF r = valF s ↔ r = s := by
  constructor
  · intro h
    rcases Nat.lt_trichotomy r s with h1 | h1 | h1
    · have := valF_lt h1; omega
    · exact h1
    · have := valF_lt h1; omega
  · intro h; rw [h]
theorem valF_zero : valF 0 = 0 := rfl

/-- What a finite word stands for. -/
theorem read_fin {w : Nat} (h : rgF w < infF) : ∃ (m : Nat) (i : Int), Ieee.double.read w = .number (sgF w) m i ∧ -1074 ≤ i ∧ m * 2 ^ (i + 1074).toNat = valF (rgF w) := by
  unfold Ieee.Format.read
  rw [dbl_sw, dbl_bin, dbl_inf, dbl_lp]
  dsimp only
  unfold valF
  by_cases h1 : rgF w < 4503599627370496
  · rw [if_pos (show w % 9223372036854775808 < 4503599627370496 from h1), if_pos h1]
    exact ⟨_, _, rfl, by decide, Nat.mul_one _⟩
  · rw [if_neg (show ¬ w % 9223372036854775808 < 4503599627370496 from h1), if_pos (show w % 9223372036854775808 < infF from h), if_neg h1]
    refine ⟨_, _, rfl, by omega, ?_⟩
    show (4503599627370496 + rgF w % 4503599627370496) * _ = _
    congr 2
    unfold rgF
    omega
theorem read_inf {w : Nat} (h : rgF w = infF) : Ieee.double.read w = .infinity (sgF w) := by
  unfold Ieee.Format.read
  rw [dbl_sw, dbl_bin, dbl_inf, dbl_lp]
  dsimp only
  have h1 : w % 9223372036854775808 = infF := h
  rw [h1, if_neg (by decide), if_neg (by decide), if_pos rfl]
  rfl
theorem read_nan {w : Nat} (h : infF < rgF w) : ∃ f, Ieee.double.read w = .nan (sgF w) f := by
  unfold Ieee.Format.read
  rw [dbl_sw, dbl_bin, dbl_inf, dbl_lp]
  dsimp only
  have h1 : infF = 9218868437227405312 := rfl
  have h2 : infF < w % 9223372036854775808 := h
  rw [if_neg (by omega), if_neg (by omega), if_neg (by omega)]
  exact ⟨_, rfl⟩

theorem compare_congr {a b a' b' : Int} (h1 : a < b ↔ a' < b') (h2 : a = b ↔ a' = b') : compare a b = compare a' b' := by
  show compareOfLessAndEq a b = compareOfLessAndEq a' b'
  unfold compareOfLessAndEq
  by_cases e1 : a < b
  · rw [if_pos e1, if_pos (h1.1 e1)]
  · rw [if_neg e1, if_neg (fun x => e1 (h1.2 x))]
    by_cases e2 : a = b
    · rw [if_pos e2, if_pos (h2.1 e2)]
    · rw [if_neg e2, if_neg (fun x => e2 (h2.2 x))]

/-- How two words stand to each other: as their places. -/
theorem order_key {x y : Nat} (hx : rgF x ≤ infF) (hy : rgF y ≤ infF) : Ieee.double.order x y = some (compare (keyF x) (keyF y)) := by
  unfold Ieee.Format.order
  have hi : infF = 9218868437227405312 := rfl
  rcases Nat.lt_or_ge (rgF x) infF with h1 | h1
  · obtain ⟨m, i, e1, i0, ev⟩ := read_fin h1
    rw [e1]
    rcases Nat.lt_or_ge (rgF y) infF with h2 | h2
    · obtain ⟨n, j, e2, j0, ew⟩ := read_fin h2
      rw [e2]
      show some (compare (Ieee.signed (sgF x) m (i - min i j).toNat) (Ieee.signed (sgF y) n (j - min i j).toNat)) = _
      congr 1
      -- a common factor
      obtain ⟨c, hc⟩ : ∃ c, c = 2 ^ (min i j + 1074).toNat := ⟨_, rfl⟩
      have c0 : 0 < c := by rw [hc]; exact Nat.two_pow_pos _
      have k1 : m * 2 ^ (i - min i j).toNat * c = valF (rgF x) := by
        rw [← ev, hc, Nat.mul_assoc, ← Nat.pow_add]
        congr 2
        omega
      have k2 : n * 2 ^ (j - min i j).toNat * c = valF (rgF y) := by
        rw [← ew, hc, Nat.mul_assoc, ← Nat.pow_add]
        congr 2
        omega
      unfold Ieee.signed
      rw [Nat.shiftLeft_eq, Nat.shiftLeft_eq]
      generalize m * 2 ^ (i - min i j).toNat = p at k1
      generalize n * 2 ^ (j - min i j).toNat = q at k2
      have z1 : p = 0 ↔ rgF x = 0 := by
        rw [← valF_inj (r := rgF x) (s := 0), valF_zero, ← k1]
        constructor
        · intro h; rw [h, Nat.zero_mul]
        · intro h; rcases Nat.mul_eq_zero.1 h with h | h
          · exact h
          · omega
      have z2 : q = 0 ↔ rgF y = 0 := by
        rw [← valF_inj (r := rgF y) (s := 0), valF_zero, ← k2]
        constructor
        · intro h; rw [h, Nat.zero_mul]
        · intro h; rcases Nat.mul_eq_zero.1 h with h | h
          · exact h
          · omega
      have z3 : p < q ↔ rgF x < rgF y := by
        rw [← valF_lt_iff (r := rgF x) (s := rgF y), ← k1, ← k2]
        exact (Nat.mul_lt_mul_right c0).symm
      have z4 : p = q ↔ rgF x = rgF y := by
        rw [← valF_inj (r := rgF x) (s := rgF y), ← k1, ← k2]
        constructor
        · intro h; rw [h]
        · intro h; exact Nat.eq_of_mul_eq_mul_right c0 h
      unfold keyF
      cases sgF x <;> cases sgF y <;> simp only [Bool.false_eq_true, if_false, if_true] <;> apply compare_congr <;> omega
    · have h3 : rgF y = infF := by omega
      rw [read_inf h3]
      show some (if sgF y then Ordering.gt else .lt) = _
      congr 1
      unfold keyF
      have hk : ∀ a b : Int, a < b → compare a b = .lt := fun a b h => by show compareOfLessAndEq a b = _; unfold compareOfLessAndEq; rw [if_pos h]
      have hg : ∀ a b : Int, b < a → compare a b = .gt := fun a b h => by show compareOfLessAndEq a b = _; unfold compareOfLessAndEq; rw [if_neg (by omega), if_neg (by omega)]
      cases sgF x <;> cases sgF y <;> simp only [Bool.false_eq_true, if_false, if_true] <;> first | (exact (hk _ _ (by omega)).symm) | (exact (hg _ _ (by omega)).symm)
  · have h3 : rgF x = infF := by omega
    rw [read_inf h3]
    have hk : ∀ a b : Int, a < b → compare a b = .lt := fun a b h => by show compareOfLessAndEq a b = _; unfold compareOfLessAndEq; rw [if_pos h]
    have hg : ∀ a b : Int, b < a → compare a b = .gt := fun a b h => by show compareOfLessAndEq a b = _; unfold compareOfLessAndEq; rw [if_neg (by omega), if_neg (by omega)]
    have he : ∀ a b : Int, a = b → compare a b = .eq := fun a b h => by show compareOfLessAndEq a b = _; unfold compareOfLessAndEq; rw [if_neg (by omega), if_pos h]
    rcases Nat.lt_or_ge (rgF y) infF with h2 | h2
    · obtain ⟨n, j, e2, j0, ew⟩ := read_fin h2
      rw [e2]
      show some (if sgF x then Ordering.lt else .gt) = _
      congr 1
      unfold keyF
      cases sgF x <;> cases sgF y <;> simp only [Bool.false_eq_true, if_false, if_true] <;> first | (exact (hk _ _ (by omega)).symm) | (exact (hg _ _ (by omega)).symm)
    · have h4 : rgF y = infF := by omega
      rw [read_inf h4]
      show some (compare (sgF y).toNat (sgF x).toNat) = _
      congr 1
      unfold keyF
      cases sgF x <;> cases sgF y <;> simp only [Bool.false_eq_true, if_false, if_true] <;> first | (exact (he _ _ (by omega)).symm) | (exact (hk _ _ (by omega)).symm) | (exact (hg _ _ (by omega)).symm)
theorem order_nan {x y : Nat} (h : infF < rgF x ∨ infF < rgF y) : Ieee.double.order x y = none := by
  unfold Ieee.Format.order
  rcases h with h | h
  · obtain ⟨f, e⟩ := read_nan h
    rw [e]; rfl
  · obtain ⟨f, e⟩ := read_nan h
    rw [e]
    cases Ieee.double.read x <;> rfl

/-- Whether a word is no number. -/
def nanF (w : Nat) : Bool := decide (infF < rgF w)
theorem nanF_no {w : Nat} (h : nanF w = false) : rgF w ≤ infF := by
  have := of_decide_eq_false h; omega
theorem nanF_yes {w : Nat} (h : nanF w = true) : infF < rgF w := of_decide_eq_true h
theorem cmp_lt (a b : Int) : (some (compare a b) == some Ordering.lt) = decide (a < b) := by
  show (some (compareOfLessAndEq a b) == some Ordering.lt) = _
  unfold compareOfLessAndEq
  by_cases h1 : a < b
  · rw [if_pos h1, decide_eq_true h1]; rfl
  · rw [if_neg h1, decide_eq_false h1]
    by_cases h2 : a = b
    · rw [if_pos h2]; rfl
    · rw [if_neg h2]; rfl
theorem cmp_eq (a b : Int) : (some (compare a b) == some Ordering.eq) = decide (a = b) := by
  show (some (compareOfLessAndEq a b) == some Ordering.eq) = _
  unfold compareOfLessAndEq
  by_cases h1 : a < b
  · rw [if_pos h1, decide_eq_false (by omega)]; rfl
  · rw [if_neg h1]
    by_cases h2 : a = b
    · rw [if_pos h2, decide_eq_true h2]; rfl
    · rw [if_neg h2, decide_eq_false h2]; rfl
theorem cmp_gt (a b : Int) : (some (compare a b) == some Ordering.gt) = decide (b < a) := by
  show (some (compareOfLessAndEq a b) == some Ordering.gt) = _
  unfold compareOfLessAndEq
  by_cases h1 : a < b
  · rw [if_pos h1, decide_eq_false (by omega)]; rfl
  · rw [if_neg h1]
    by_cases h2 : a = b
    · rw [if_pos h2, decide_eq_false (by omega)]; rfl
    · rw [if_neg h2, decide_eq_true (by omega)]; rfl
/-- What the six comparisons of two words give. -/
theorem ord_lt (a b : Nat) : (Ieee.double.order a b == some .lt) = (!nanF a && !nanF b && decide (keyF a < keyF b)) := by
  cases h1 : nanF a
  · cases h2 : nanF b
    · rw [order_key (nanF_no h1) (nanF_no h2), cmp_lt]; rfl
    · rw [order_nan (.inr (nanF_yes h2))]; rfl
  · rw [order_nan (.inl (nanF_yes h1))]; rfl
theorem ord_eq (a b : Nat) : (Ieee.double.order a b == some .eq) = (!nanF a && !nanF b && decide (keyF a = keyF b)) := by
  cases h1 : nanF a
  · cases h2 : nanF b
    · rw [order_key (nanF_no h1) (nanF_no h2), cmp_eq]; rfl
    · rw [order_nan (.inr (nanF_yes h2))]; rfl
  · rw [order_nan (.inl (nanF_yes h1))]; rfl
theorem ord_gt (a b : Nat) : (Ieee.double.order a b == some .gt) = (!nanF a && !nanF b && decide (keyF b < keyF a)) := by
  cases h1 : nanF a
  · cases h2 : nanF b
    · rw [order_key (nanF_no h1) (nanF_no h2), cmp_gt]; rfl
    · rw [order_nan (.inr (nanF_yes h2))]; rfl
  · rw [order_nan (.inl (nanF_yes h1))]; rfl
theorem ord_ne (a b : Nat) : (Ieee.double.order a b != some .eq) = (nanF a || nanF b || decide (keyF a ≠ keyF b)) := by
  show (!(Ieee.double.order a b == some .eq)) = _
  rw [ord_eq]
  cases nanF a <;> cases nanF b <;> simp
theorem ord_le (a b : Nat) : (Ieee.double.order a b == some .lt || Ieee.double.order a b == some .eq) = (!nanF a && !nanF b && decide (keyF a ≤ keyF b)) := by
  rw [ord_lt, ord_eq]
  cases nanF a <;> cases nanF b <;> simp
  by_cases h : keyF a ≤ keyF b
  · rw [decide_eq_true h]
    rcases (show keyF a < keyF b ∨ keyF a = keyF b by omega) with e | e <;> simp [e]
  · rw [decide_eq_false h, decide_eq_false (by omega), decide_eq_false (by omega)]; rfl
theorem ord_ge (a b : Nat) : (Ieee.double.order a b == some .gt || Ieee.double.order a b == some .eq) = (!nanF a && !nanF b && decide (keyF b ≤ keyF a)) := by
  rw [ord_gt, ord_eq]
  cases nanF a <;> cases nanF b <;> simp
  by_cases h : keyF b ≤ keyF a
  · rw [decide_eq_true h]
    rcases (show keyF b < keyF a ∨ keyF a = keyF b by omega) with e | e <;> simp [e]
  · rw [decide_eq_false h, decide_eq_false (by omega), decide_eq_false (by omega)]; rfl
/-- A word is its sign and its rung. -/
theorem word_parts {w : Nat} (h : w < 18446744073709551616) : w = (if sgF w then 9223372036854775808 else 0) + rgF w := by
  unfold sgF rgF
  by_cases e : w / 9223372036854775808 % 2 = 1
  · have : (w / 9223372036854775808 % 2 == 1) = true := by simpa using e
    rw [this, if_pos rfl]; omega
  · have : (w / 9223372036854775808 % 2 == 1) = false := by simpa using e
    rw [this]
    simp only [Bool.false_eq_true, if_false]
    omega
end Sh
end Go.Proofs.YtmhbbjbbckdlbaaDoor

namespace Go.Proofs.YtmhbbjbbckdlbaaDoor
namespace Sh
set_option linter.unusedVariables false

/-- The word of 1. -/
def oneF : Nat := 4607182418800017408
def okF (x : Nat) : Bool := decide (x ≤ 4607182418800017408)
/-- A share is mantF / 2 ^ shF. -/
def mantF (x : Nat) : Nat := if x < 4503599627370496 then x else x % 4503599627370496 + 4503599627370496
def shF (x : Nat) : Nat := if x < 4503599627370496 then 1074 else 1075 - x / 4503599627370496
def prodF (x n : Nat) : Nat := mantF x * n / 2 ^ shF x
/-- The answer of Frames. -/
def frK (x : Nat) (n : Int) : Int := if okF x then if 1 ≤ n ∧ n ≤ 64 then if x = 0 then 0 else if (prodF x n.toNat : Int) > 1 then prodF x n.toNat else 1 else 0 else 0
def frE (x : Nat) (n : Int) : Int := if okF x then if 1 ≤ n ∧ n ≤ 64 then 0 else 1 else 6
/-- The rank of a word in the order. -/
def rkF (x : Nat) : Nat := if nanF x then 18446744073709551615 else if x < 9223372036854775808 then x + 9223372036854775808 else 18446744073709551615 - x
def ordF (x y : Nat) : Int := if rkF x < rkF y then -1 else if rkF y < rkF x then 1 else 0

theorem rg_small {x : Nat} (h : x < 9223372036854775808) : rgF x = x := Nat.mod_eq_of_lt h
theorem rg_big {x : Nat} (h : 9223372036854775808 ≤ x) (h' : x < 18446744073709551616) : rgF x = x - 9223372036854775808 := by unfold rgF; omega
theorem sg_small {x : Nat} (h : x < 9223372036854775808) : sgF x = false := by
  unfold sgF; rw [show x / 9223372036854775808 % 2 = 0 by omega]; rfl
theorem sg_big {x : Nat} (h : 9223372036854775808 ≤ x) (h' : x < 18446744073709551616) : sgF x = true := by
  unfold sgF; rw [show x / 9223372036854775808 % 2 = 1 by omega]; rfl
theorem key_small {x : Nat} (h : x < 9223372036854775808) : keyF x = x := by
  unfold keyF; rw [sg_small h, rg_small h]; rfl
theorem key_big {x : Nat} (h : 9223372036854775808 ≤ x) (h' : x < 18446744073709551616) : keyF x = -(x : Int) + 9223372036854775808 := by
  unfold keyF; rw [sg_big h h', rg_big h h', if_pos rfl]; omega
theorem nan_small {x : Nat} (h : x < 9223372036854775808) : nanF x = decide (9218868437227405312 < x) := by
  unfold nanF; rw [rg_small h]; rfl
theorem nan_big {x : Nat} (h : 9223372036854775808 ≤ x) (h' : x < 18446744073709551616) : nanF x = decide (18442240474082181120 < x) := by
  unfold nanF; rw [rg_big h h', show infF = 9218868437227405312 from rfl]
  congr 1; apply propext; omega
theorem rk_le (x : Nat) : rkF x ≤ 18446744073709551615 ∨ 18446744073709551616 ≤ x := by
  unfold rkF
  split
  · omega
  · split <;> omega
/-- Valid: the comparisons with 0 and 1. -/
theorem ok_cmp {x : Nat} (h : x < 18446744073709551616) : (x == 0 || ((Ieee.double.order x 0 == some .gt) && (Ieee.double.order x 4607182418800017408 == some .lt || Ieee.double.order x 4607182418800017408 == some .eq))) = okF x := by
  rw [ord_gt, ord_le, key_small (x := 0) (by omega), key_small (x := 4607182418800017408) (by omega), nan_small (x := 0) (by omega), nan_small (x := 4607182418800017408) (by omega)]
  unfold okF
  rcases Nat.lt_or_ge x 9223372036854775808 with h1 | h1
  · rw [key_small h1, nan_small h1, Bool.eq_iff_iff]
    simp only [Bool.or_eq_true, Bool.and_eq_true, beq_iff_eq, Bool.not_eq_true', decide_eq_false_iff_not, decide_eq_true_eq]
    omega
  · rw [key_big h1 h, nan_big h1 h, Bool.eq_iff_iff]
    simp only [Bool.or_eq_true, Bool.and_eq_true, beq_iff_eq, Bool.not_eq_true', decide_eq_false_iff_not, decide_eq_true_eq]
    omega
/-- x == 0 of a share. -/
theorem zero_cmp {x : Nat} (h : x ≤ 4607182418800017408) : (Ieee.double.order x 0 == some .eq) = decide (x = 0) := by
  rw [ord_eq, key_small (x := 0) (by omega), key_small (x := x) (by omega), nan_small (x := 0) (by omega), nan_small (x := x) (by omega), Bool.eq_iff_iff]
  simp only [Bool.and_eq_true, Bool.not_eq_true', decide_eq_false_iff_not, decide_eq_true_eq]
  omega
/-- x != x. -/
theorem self_cmp (x : Nat) : (Ieee.double.order x x != some .eq) = nanF x := by
  rw [ord_ne]; cases nanF x <;> simp

/-- What the reference's order says is the ranks' order. -/
theorem ord_lt_rk {x y : Nat} (hx : x < 18446744073709551616) (hy : y < 18446744073709551616) (h1 : nanF x = false) (h2 : nanF y = false) (h : keyF x < keyF y) : rkF x < rkF y := by
  unfold rkF
  rw [h1, h2]
  simp only [Bool.false_eq_true, if_false]
  rcases Nat.lt_or_ge x 9223372036854775808 with a | a <;> rcases Nat.lt_or_ge y 9223372036854775808 with b | b
  · rw [key_small a, key_small b] at h; rw [if_pos a, if_pos b]; omega
  · rw [key_small a, key_big b hy] at h; rw [if_pos a, if_neg (by omega)]; omega
  · rw [key_big a hx, key_small b] at h; rw [if_neg (by omega), if_pos b]; omega
  · rw [key_big a hx, key_big b hy] at h; rw [if_neg (by omega), if_neg (by omega)]; omega
theorem ord_eq_rk {x y : Nat} (hx : x < 18446744073709551616) (hy : y < 18446744073709551616) (h1 : nanF x = false) (h2 : nanF y = false) (h : keyF x = keyF y) :
    (x < 9223372036854775808 ∧ y < 9223372036854775808 ∧ rkF x = rkF y) ∨ (9223372036854775808 ≤ x ∧ 9223372036854775808 ≤ y ∧ rkF x = rkF y) ∨ (9223372036854775808 ≤ x ∧ y < 9223372036854775808 ∧ rkF x < rkF y) ∨ (x < 9223372036854775808 ∧ 9223372036854775808 ≤ y ∧ rkF y < rkF x) := by
  unfold rkF
  rw [h1, h2]
  simp only [Bool.false_eq_true, if_false]
  rcases Nat.lt_or_ge x 9223372036854775808 with a | a <;> rcases Nat.lt_or_ge y 9223372036854775808 with b | b
  · rw [key_small a, key_small b] at h; rw [if_pos a, if_pos b]; omega
  · rw [key_small a, key_big b hy] at h; rw [if_pos a, if_neg (by omega)]; omega
  · rw [key_big a hx, key_small b] at h; rw [if_neg (by omega), if_pos b]; omega
  · rw [key_big a hx, key_big b hy] at h; rw [if_neg (by omega), if_neg (by omega)]; omega
theorem rk_nan {x : Nat} (h : nanF x = true) : rkF x = 18446744073709551615 := by unfold rkF; rw [h]; rfl
theorem rk_num {x : Nat} (hx : x < 18446744073709551616) (h : nanF x = false) : rkF x < 18446744073709551615 := by
  unfold rkF
  rw [h]
  simp only [Bool.false_eq_true, if_false]
  rcases Nat.lt_or_ge x 9223372036854775808 with a | a
  · rw [nan_small a] at h; have := of_decide_eq_false h; rw [if_pos a]; omega
  · rw [if_neg (by omega)]; omega

theorem ord_lt_is {x y : Nat} (h : rkF x < rkF y) : ordF x y = -1 := by unfold ordF; rw [if_pos h]
theorem ord_gt_is {x y : Nat} (h : rkF y < rkF x) : ordF x y = 1 := by unfold ordF; rw [if_neg (by omega), if_pos h]
theorem ord_eq_is {x y : Nat} (h : rkF x = rkF y) : ordF x y = 0 := by unfold ordF; rw [if_neg (by omega), if_neg (by omega)]
theorem ord_neg (x y : Nat) : ordF x y = -ordF y x := by
  rcases Nat.lt_trichotomy (rkF x) (rkF y) with h | h | h
  · rw [ord_lt_is h, ord_gt_is h]
  · rw [ord_eq_is h, ord_eq_is h.symm]; rfl
  · rw [ord_gt_is h, ord_lt_is h]; rfl
theorem ord_range (x y : Nat) : -1 ≤ ordF x y ∧ ordF x y ≤ 1 := by unfold ordF; split <;> (try split) <;> omega
theorem ord_le_iff (x y : Nat) : ordF x y ≤ 0 ↔ rkF x ≤ rkF y := by
  rcases Nat.lt_trichotomy (rkF x) (rkF y) with h | h | h
  · rw [ord_lt_is h]; omega
  · rw [ord_eq_is h]; omega
  · rw [ord_gt_is h]; omega
theorem ord_trans {x y z : Nat} (h1 : ordF x y ≤ 0) (h2 : ordF y z ≤ 0) : ordF x z ≤ 0 := by
  rw [ord_le_iff] at *; omega

/-- What a share is worth. -/
theorem mant_lt (x : Nat) : mantF x < 9007199254740992 := by unfold mantF; split <;> omega
theorem sh_lo {x : Nat} (h : x ≤ 4607182418800017408) : 52 ≤ shF x ∧ shF x ≤ 1074 := by unfold shF; split <;> omega
theorem val_of {x : Nat} (h : x ≤ 4607182418800017408) : valF x = mantF x * 2 ^ (1074 - shF x) := by
  unfold valF mantF shF
  by_cases h1 : x < 4503599627370496
  · rw [if_pos h1, if_pos h1, if_pos h1]; simp
  · rw [if_neg h1, if_neg h1, if_neg h1, Nat.add_comm]
    congr 2
    omega
theorem prod_val {x : Nat} (n : Nat) (h : x ≤ 4607182418800017408) : prodF x n = valF x * n / 2 ^ 1074 := by
  have s := sh_lo h
  unfold prodF
  rw [val_of h, show 1074 = shF x + (1074 - shF x) by omega, Nat.pow_add, show shF x + (1074 - shF x) - shF x = 1074 - shF x by omega, Nat.mul_right_comm]
  exact (Nat.mul_div_mul_right _ _ (Nat.two_pow_pos _)).symm
theorem div_big {a s : Nat} (h1 : a < 1152921504606846976) (h : 64 ≤ s) : a / 2 ^ s = 0 := by
  apply Nat.div_eq_of_lt
  have : 2 ^ 64 ≤ 2 ^ s := Nat.pow_le_pow_right (by decide) h
  omega
theorem prod_mono {x y n m : Nat} (hx : x ≤ y) (hy : y ≤ 4607182418800017408) (hn : n ≤ m) : prodF x n ≤ prodF y m := by
  rw [prod_val n (Nat.le_trans hx hy), prod_val m hy]
  apply Nat.div_le_div_right
  refine Nat.mul_le_mul ?_ hn
  rcases Nat.lt_or_ge x y with h | h
  · exact Nat.le_of_lt (valF_lt h)
  · rw [show x = y by omega]; exact Nat.le_refl _
theorem prod_one (n : Nat) : prodF 4607182418800017408 n = n := by
  unfold prodF
  rw [show mantF 4607182418800017408 = 4503599627370496 by decide, show shF 4607182418800017408 = 52 by decide, Nat.mul_comm]
  exact Nat.mul_div_cancel _ (by decide)
theorem prod_le {x : Nat} (n : Nat) (h : x ≤ 4607182418800017408) : prodF x n ≤ n := by
  have := prod_mono (n := n) h (Nat.le_refl _) (Nat.le_refl _)
  rw [prod_one] at this; exact this
theorem frK_in {x : Nat} {n : Int} (h : x ≤ 4607182418800017408) (h0 : x ≠ 0) (n0 : 1 ≤ n) (n1 : n ≤ 64) : frK x n = if (prodF x n.toNat : Int) > 1 then (prodF x n.toNat : Int) else 1 := by
  unfold frK okF
  rw [decide_eq_true h, if_pos rfl, if_pos ⟨n0, n1⟩, if_neg h0]
theorem frE_in {x : Nat} {n : Int} (h : x ≤ 4607182418800017408) (n0 : 1 ≤ n) (n1 : n ≤ 64) : frE x n = 0 := by
  unfold frE okF
  rw [decide_eq_true h, if_pos rfl, if_pos ⟨n0, n1⟩]
theorem fr_mono {x y : Nat} {n m : Int} (hx : x ≤ y) (h0 : x ≠ 0) (hy : y ≤ 4607182418800017408) (n0 : 1 ≤ n) (nm : n ≤ m) (m1 : m ≤ 64) : 1 ≤ frK x n ∧ frK x n ≤ frK y m := by
  rw [frK_in (by omega) h0 n0 (by omega), frK_in hy (by omega) (by omega) m1]
  have := prod_mono hx hy (show n.toNat ≤ m.toNat by omega)
  constructor
  · split <;> omega
  · split <;> split <;> omega
theorem fr_one {n : Int} (n0 : 1 ≤ n) (n1 : n ≤ 64) : frK 4607182418800017408 n = n := by
  rw [frK_in (by omega) (by omega) n0 n1, prod_one]
  split <;> omega
theorem fr_le {x : Nat} {n : Int} (h : x ≤ 4607182418800017408) (h0 : x ≠ 0) (n0 : 1 ≤ n) (n1 : n ≤ 64) : 1 ≤ frK x n ∧ frK x n ≤ n := by
  rw [frK_in h h0 n0 n1]
  have := prod_le n.toNat h
  split <;> omega

/-- Words in bits. -/
theorem ofInt_nat64 (a : Nat) (h : a < 18446744073709551616) : (BitVec.ofInt 64 (a : Int)).toNat = a := by
  rw [BitVec.ofInt_natCast, BitVec.toNat_ofNat]; exact Nat.mod_eq_of_lt (by omega)
theorem and_nat {a b : Nat} (ha : a < 18446744073709551616) (hb : b < 18446744073709551616) : bits .and .u64 (a : Int) (b : Int) = ((a &&& b : Nat) : Int) := by
  have hx : a &&& b < 2 ^ 64 := Nat.and_lt_two_pow _ (by omega)
  show IntKind.u64.wrap ((BitVec.ofInt 64 (a : Int) &&& BitVec.ofInt 64 (b : Int)).toNat : Int) = _
  rw [BitVec.toNat_and, ofInt_nat64 a ha, ofInt_nat64 b hb, IntKind.wrap_u64]
  omega
theorem or_nat {a b : Nat} (ha : a < 18446744073709551616) (hb : b < 18446744073709551616) : bits .or .u64 (a : Int) (b : Int) = ((a ||| b : Nat) : Int) := by
  have hx : a ||| b < 2 ^ 64 := Nat.or_lt_two_pow (by omega) (by omega)
  show IntKind.u64.wrap ((BitVec.ofInt 64 (a : Int) ||| BitVec.ofInt 64 (b : Int)).toNat : Int) = _
  rw [BitVec.toNat_or, ofInt_nat64 a ha, ofInt_nat64 b hb, IntKind.wrap_u64]
  omega
theorem and_frac {x : Nat} (h : x < 18446744073709551616) : bits .and .u64 (x : Int) 4503599627370495 = ((x % 4503599627370496 : Nat) : Int) := by
  have e := and_nat h (show 4503599627370495 < 18446744073709551616 by decide)
  rw [Nat.and_two_pow_sub_one_eq_mod x 52] at e
  exact e
theorem and_exp {x : Nat} (h : x < 18446744073709551616) : bits .and .u64 (x : Int) 2047 = ((x % 2048 : Nat) : Int) := by
  have e := and_nat h (show 2047 < 18446744073709551616 by decide)
  rw [Nat.and_two_pow_sub_one_eq_mod x 11] at e
  exact e
theorem and_low {x : Nat} (h : x < 18446744073709551616) : bits .and .u64 (x : Int) 15 = ((x % 16 : Nat) : Int) := by
  have e := and_nat h (show 15 < 18446744073709551616 by decide)
  rw [Nat.and_two_pow_sub_one_eq_mod x 4] at e
  exact e
theorem or_sum {a b : Nat} (k : Nat) (ha : a < 2 ^ k) (h : 2 ^ k * b + a < 18446744073709551616) : bits .or .u64 (a : Int) ((2 ^ k * b : Nat) : Int) = ((2 ^ k * b + a : Nat) : Int) := by
  rw [or_nat (by omega) (by omega), Nat.or_comm, Nat.two_pow_add_eq_or_of_lt ha]
theorem or_lead {r : Nat} (h : r < 4503599627370496) : bits .or .u64 (r : Int) 4503599627370496 = ((r + 4503599627370496 : Nat) : Int) := by
  have e := or_sum (a := r) (b := 1) 52 h (by omega)
  rw [Nat.add_comm] at e
  exact e
theorem or_sign {r : Nat} (h : r < 9223372036854775808) : bits .or .u64 (r : Int) 9223372036854775808 = ((r + 9223372036854775808 : Nat) : Int) := by
  have e := or_sum (a := r) (b := 1) 63 h (by omega)
  rw [Nat.add_comm] at e
  exact e
theorem and_top {x : Nat} (h : x < 18446744073709551616) : x &&& 9223372036854775808 = if x < 9223372036854775808 then 0 else 9223372036854775808 := by
  have e : x &&& 2 ^ 63 = if x < 9223372036854775808 then 0 else 2 ^ 63 := by
    apply Nat.eq_of_testBit_eq
    intro i
    rw [Nat.testBit_and, Nat.testBit_two_pow]
    by_cases hi : 63 = i
    · subst hi
      rw [Nat.testBit_eq_decide_div_mod_eq]
      split
      · rw [show x / 2 ^ 63 % 2 = 0 by omega]; simp
      · rw [show x / 2 ^ 63 % 2 = 1 by omega]; decide
    · rw [decide_eq_false hi, Bool.and_false]
      split
      · simp
      · rw [Nat.testBit_two_pow, decide_eq_false hi]
  exact e
theorem and_sign {x : Nat} (h : x < 18446744073709551616) : bits .and .u64 (x : Int) 9223372036854775808 = if x < 9223372036854775808 then 0 else 9223372036854775808 := by
  have e := and_nat h (show 9223372036854775808 < 18446744073709551616 by decide)
  rw [and_top h] at e
  refine Eq.trans e ?_
  split <;> rfl
theorem xor_max {x : Nat} (h : x < 18446744073709551616) : bits .xor .u64 IntKind.u64.max (x : Int) = ((18446744073709551615 - x : Nat) : Int) := by
  show IntKind.u64.wrap ((BitVec.ofInt 64 18446744073709551615 ^^^ BitVec.ofInt 64 (x : Int)).toNat : Int) = _
  rw [show BitVec.ofInt 64 18446744073709551615 = BitVec.allOnes 64 from rfl, BitVec.allOnes_xor, BitVec.toNat_not, ofInt_nat64 x h, IntKind.wrap_u64]
  omega
end Sh
end Go.Proofs.YtmhbbjbbckdlbaaDoor

namespace Go.Proofs.YtmhbbjbbckdlbaaDoor
namespace Sh
open Go.RowKit (wrap32 wrap64 intOf)
set_option linter.unusedVariables false
set_option maxRecDepth 100000

theorem ret_u64 {a b : Int} (h : a = b) : Ending.returned (.int .u64 a) = Ending.returned (.int .u64 b) := by rw [h]
theorem ret_i64 {a b : Int} (h : a = b) : Ending.returned (.int .i64 a) = Ending.returned (.int .i64 b) := by rw [h]
theorem ret_bool {a b : Bool} (h : a = b) : Ending.returned (.bool a) = Ending.returned (.bool b) := by rw [h]
theorem ret_f64 {a b : Nat} (h : a = b) : Ending.returned (.float .f64 a) = Ending.returned (.float .f64 b) := by rw [h]
theorem ret_pr {a b c d : Int} (h : a = b) (k : c = d) : Ending.returned (.tuple #[.int .i64 a, .int .i64 c]) = Ending.returned (.tuple #[.int .i64 b, .int .i64 d]) := by rw [h, k]

/-- The bits of a number, and the number with given bits. -/
theorem run_bits (x : Nat) (w : World) : (callFunc 74 #[.float .f64 x]).run Tryd.prog w = .ok (.value (.int .u64 x)) w := by
  rw [run_callFunc_extern Tryd.func74 (by kernel_rfl) (by kernel_rfl) (by kernel_rfl) (e := Extern.MathFloatBits.float64bits) (by kernel_rfl)]
  rfl
theorem fmt_eq : FloatKind.f64.format = Ieee.double := rfl
/-- The three ways in which a word stands to another one. -/
theorem fo_lt {x y : Nat} (h1 : nanF x = false) (h2 : nanF y = false) (h : keyF x < keyF y) : FloatKind.f64.format.order x y = some .lt := by
  rw [fmt_eq, order_key (nanF_no h1) (nanF_no h2)]
  show some (compareOfLessAndEq _ _) = _
  unfold compareOfLessAndEq; rw [if_pos h]
theorem fo_eq {x y : Nat} (h1 : nanF x = false) (h2 : nanF y = false) (h : keyF x = keyF y) : FloatKind.f64.format.order x y = some .eq := by
  rw [fmt_eq, order_key (nanF_no h1) (nanF_no h2)]
  show some (compareOfLessAndEq _ _) = _
  unfold compareOfLessAndEq; rw [if_neg (by omega), if_pos h]
theorem fo_gt {x y : Nat} (h1 : nanF x = false) (h2 : nanF y = false) (h : keyF y < keyF x) : FloatKind.f64.format.order x y = some .gt := by
  rw [fmt_eq, order_key (nanF_no h1) (nanF_no h2)]
  show some (compareOfLessAndEq _ _) = _
  unfold compareOfLessAndEq; rw [if_neg (by omega), if_neg (by omega)]
theorem fo_nan {x y : Nat} (h : nanF x = true ∨ nanF y = true) : FloatKind.f64.format.order x y = none := by
  rw [fmt_eq]
  rcases h with h | h
  · exact order_nan (.inl (nanF_yes h))
  · exact order_nan (.inr (nanF_yes h))
/-- How a word stands to 0 and to 1. -/
theorem fo_zero {x : Nat} (h : 0 < x) (h' : x ≤ 4607182418800017408) : FloatKind.f64.format.order x 0 = some .gt :=
  fo_gt (by rw [nan_small (by omega)]; exact decide_eq_false (by omega)) (by rw [nan_small (by omega)]; exact decide_eq_false (by omega)) (by rw [key_small (by omega), key_small (by omega)]; omega)
theorem fo_zero_ne {x : Nat} (h : 4607182418800017408 < x) (hx : x < 18446744073709551616) : (FloatKind.f64.format.order x 0 = some .gt ∧ FloatKind.f64.format.order x 4607182418800017408 = some .gt) ∨ FloatKind.f64.format.order x 0 = some .lt ∨ FloatKind.f64.format.order x 0 = some .eq ∨ FloatKind.f64.format.order x 0 = none := by
  cases hn : nanF x
  · have z0 : nanF 0 = false := by rw [nan_small (by omega)]; exact decide_eq_false (by omega)
    have z1 : nanF 4607182418800017408 = false := by rw [nan_small (by omega)]; exact decide_eq_false (by omega)
    rcases Nat.lt_or_ge x 9223372036854775808 with a | a
    · exact .inl ⟨fo_gt hn z0 (by rw [key_small a, key_small (by omega)]; omega), fo_gt hn z1 (by rw [key_small a, key_small (by omega)]; omega)⟩
    · rcases Nat.lt_or_ge 9223372036854775808 x with b | b
      · exact .inr (.inl (fo_lt hn z0 (by rw [key_big a hx, key_small (by omega)]; omega)))
      · exact .inr (.inr (.inl (fo_eq hn z0 (by rw [key_big a hx, key_small (by omega)]; omega))))
  · exact .inr (.inr (.inr (fo_nan (.inl hn))))
theorem fo_one {x : Nat} (h' : x ≤ 4607182418800017408) : FloatKind.f64.format.order x 4607182418800017408 = some .lt ∨ FloatKind.f64.format.order x 4607182418800017408 = some .eq := by
  have z0 : nanF x = false := by rw [nan_small (by omega)]; exact decide_eq_false (by omega)
  have z1 : nanF 4607182418800017408 = false := by rw [nan_small (by omega)]; exact decide_eq_false (by omega)
  rcases Nat.lt_or_ge x 4607182418800017408 with a | a
  · exact .inl (fo_lt z0 z1 (by rw [key_small (by omega), key_small (by omega)]; omega))
  · exact .inr (fo_eq z0 z1 (by rw [key_small (by omega), key_small (by omega)]; omega))

theorem okF_yes {x : Nat} (h : x ≤ 4607182418800017408) : okF x = true := decide_eq_true h
theorem okF_no {x : Nat} (h : 4607182418800017408 < x) : okF x = false := decide_eq_false (by omega)

theorem valid_any (x : Nat) (hx : x < 18446744073709551616) (w : World) : Calls Tryd.prog 78 #[.float .f64 x] w fun e w' => e = .returned (.bool (okF x)) ∧ w = w' := by
  have hb := run_bits x
  by_cases h0 : x = 0
  · subst h0
    go_enter Tryd.func78, Tryd.ntmps78
    go_wp2
    all_goals (go_ret; exact ⟨ret_bool rfl, rfl⟩)
  · have hk : ¬ ((x : Int) = 0) := by omega
    by_cases h : x ≤ 4607182418800017408
    · have e0 := fo_zero (by omega) h
      rw [okF_yes h]
      rcases fo_one h with e1 | e1
      all_goals (
        go_enter Tryd.func78, Tryd.ntmps78
        go_wp2
        all_goals (go_ret; refine ⟨ret_bool ?_, rfl⟩; simp))
    · rw [okF_no (by omega)]
      rcases fo_zero_ne (by omega) hx with ⟨e0, e1⟩ | e0 | e0 | e0
      all_goals (
        go_enter Tryd.func78, Tryd.ntmps78
        go_wp2
        all_goals (go_ret; refine ⟨ret_bool ?_, rfl⟩; simp [*]))
theorem refValid_any (x : Nat) (hx : x < 18446744073709551616) (w : World) : Calls Tryd.prog 64 #[.float .f64 x] w fun e w' => e = .returned (.bool (okF x)) ∧ w = w' := by
  have hb := run_bits x
  by_cases h0 : x = 0
  · subst h0
    go_enter Tryd.func64, Tryd.ntmps64
    go_wp2
    all_goals (go_ret; exact ⟨ret_bool rfl, rfl⟩)
  · have hk : ¬ ((x : Int) = 0) := by omega
    by_cases h : x ≤ 4607182418800017408
    · have e0 := fo_zero (by omega) h
      rw [okF_yes h]
      rcases fo_one h with e1 | e1
      all_goals (
        go_enter Tryd.func64, Tryd.ntmps64
        go_wp2
        all_goals (go_ret; refine ⟨ret_bool ?_, rfl⟩; simp))
    · rw [okF_no (by omega)]
      rcases fo_zero_ne (by omega) hx with ⟨e0, e1⟩ | e0 | e0 | e0
      all_goals (
        go_enter Tryd.func64, Tryd.ntmps64
        go_wp2
        all_goals (go_ret; refine ⟨ret_bool ?_, rfl⟩; simp [*]))

end Sh
end Go.Proofs.YtmhbbjbbckdlbaaDoor

namespace Go.Proofs.YtmhbbjbbckdlbaaDoor
namespace Sh
open Go.RowKit (wrap32 wrap64 intOf)
set_option linter.unusedVariables false
set_option maxRecDepth 100000

theorem ret_uu {a b c d : Int} (h : a = b) (k : c = d) : Ending.returned (.tuple #[.int .u64 a, .int .u64 c]) = Ending.returned (.tuple #[.int .u64 b, .int .u64 d]) := by rw [h, k]

end Sh
end Go.Proofs.YtmhbbjbbckdlbaaDoor

namespace Go.Proofs.YtmhbbjbbckdlbaaDoor
namespace Sh
open Go.RowKit (wrap32 wrap64 intOf)
set_option linter.unusedVariables false
set_option maxRecDepth 100000

/-- A percentage as a number. -/
def pctF (n : Nat) : Nat := (Ieee.double.div (floatOfInt .f64 (n : Int)) 4636737291354636288).getD 0
theorem pct_all : ∀ n : Fin 101, floatBits .quo .f64 (floatOfInt .f64 ((n : Nat) : Int)) 4636737291354636288 = some (pctF n) := by decide +kernel
theorem pct_is {n : Nat} (h : n ≤ 100) : floatBits .quo .f64 (floatOfInt .f64 (n : Int)) 4636737291354636288 = some (pctF n) := pct_all ⟨n, by omega⟩
theorem pct_lt {n : Nat} (h : n ≤ 100) : pctF n < 18446744073709551616 := by
  have := floatBits_wf (pct_is h)
  simpa [Lit.wf] using this
/-- What Percent says: the number, and the error. -/
def pcF (p : Int) : Nat := if 0 ≤ p ∧ p ≤ 100 then pctF p.toNat else 0
def pcE (p : Int) : Int := if 0 ≤ p ∧ p ≤ 100 then 0 else 1
theorem pcF_lt (p : Int) : pcF p < 18446744073709551616 := by
  unfold pcF; split
  · exact pct_lt (by omega)
  · decide
theorem refPercent_any (p : Int) (h0 : -9223372036854775808 ≤ p) (h1 : p ≤ 9223372036854775807) (w : World) : Calls Tryd.prog 65 #[.int .i64 p] w fun e w' => e = .returned (.tuple #[.float .f64 (pcF p), .int .i64 (pcE p)]) ∧ w = w' := by
  unfold pcF pcE
  by_cases h : 0 ≤ p ∧ p ≤ 100
  · rw [if_pos h, if_pos h]
    obtain ⟨k, rfl⟩ := Int.eq_ofNat_of_zero_le h.1
    rw [Int.toNat_natCast]
    have hop : ∀ t w, (binOp .quo t (.float .f64 (floatOfInt .f64 (k : Int))) (.float .f64 4636737291354636288)).run Tryd.prog w = .ok (.float .f64 (pctF k)) w := fun t w => run_float_arith w .quo t .f64 _ _ _ (pct_is (by omega))
    obtain ⟨h2, h3⟩ := h
    generalize pctF k = z at *
    go_enter Tryd.func65, Tryd.ntmps65
    go_wp2_with (simp only [hop])
    all_goals (go_ret2; exact ⟨rfl, rfl⟩)
  · rw [if_neg h, if_neg h]
    go_enter Tryd.func65, Tryd.ntmps65
    go_wp2
    all_goals (go_ret2; exact ⟨rfl, rfl⟩)
end Sh
end Go.Proofs.YtmhbbjbbckdlbaaDoor

namespace Go.Proofs.YtmhbbjbbckdlbaaDoor
namespace Sh
open Go.RowKit (wrap32 wrap64 intOf)
set_option linter.unusedVariables false
set_option maxRecDepth 100000

/-- What ToPercent says of x: the least percentage whose number is x, if there is one. -/
def IsPct (x : Nat) (r : Int) (ok : Bool) : Prop := (ok = true ∧ ∃ k : Nat, r = k ∧ k ≤ 100 ∧ pctF k = x ∧ ∀ j : Nat, j < k → pctF j ≠ x) ∨ (ok = false ∧ r = 0 ∧ ∀ j : Nat, j ≤ 100 → pctF j ≠ x)
theorem IsPct.same {x : Nat} {r s : Int} {a b : Bool} (h : IsPct x r a) (g : IsPct x s b) : r = s ∧ a = b := by
  rcases h with ⟨rfl, k, rfl, k1, k2, k3⟩ | ⟨rfl, rfl, h⟩
  · rcases g with ⟨rfl, l, rfl, l1, l2, l3⟩ | ⟨rfl, rfl, g⟩
    · refine ⟨?_, rfl⟩
      rcases Nat.lt_trichotomy k l with e | e | e
      · exact absurd k2 (l3 k e)
      · rw [e]
      · exact absurd l2 (k3 l e)
    · exact absurd k2 (g k k1)
  · rcases g with ⟨rfl, l, rfl, l1, l2, l3⟩ | ⟨rfl, rfl, g⟩
    · exact absurd l2 (h l l1)
    · exact ⟨rfl, rfl⟩
/-- What a call of ToPercent leaves. -/
def PctOut (x : Nat) (e : Ending) (w w' : World) : Prop := ∃ r ok, e = .returned (.tuple #[.int .i64 r, .bool ok]) ∧ w = w' ∧ IsPct x r ok
theorem pc_in (k : Nat) (h : k ≤ 100) : pcF (k : Int) = pctF k ∧ pcE (k : Int) = 0 := by
  unfold pcF pcE
  rw [if_pos (by omega), if_pos (by omega), Int.toNat_natCast]
  exact ⟨rfl, rfl⟩
theorem refPercent_in (k : Nat) (h : k ≤ 100) (w : World) : Calls Tryd.prog 65 #[.int .i64 (k : Int)] w fun e w' => e = .returned (.tuple #[.float .f64 (pctF k), .int .i64 0]) ∧ w = w' := by
  have := refPercent_any (k : Int) (by omega) (by omega) w
  rw [(pc_in k h).1, (pc_in k h).2] at this; exact this

end Sh
end Go.Proofs.YtmhbbjbbckdlbaaDoor
