/-
  Plain mathematics of float64: words as signed rungs; how two of them stand to each other. Nothing here speaks of the program.
-/
import Ieee.Arith
namespace Go.Proofs.Ytpkikegjoncmaaa

/-- The sign of a word, and its rung. -/
def sgF (w : Nat) : Bool := w / 9223372036854775808 % 2 == 1
def rgF (w : Nat) : Nat := w % 9223372036854775808
/-- The rung of infinity. -/
def infF : Nat := 9218868437227405312
/-- The magnitude of a rung, in units of the least number. -/
def valF (r : Nat) : Nat := if r < 4503599627370496 then r else (4503599627370496 + r % 4503599627370496) * 2 ^ (r / 4503599627370496 - 1)
/-- The place of a word among the numbers: its rung with its sign. -/
def keyF (w : Nat) : Int := if sgF w then -(rgF w : Int) else rgF w

theorem dbl_sw : Ieee.double.signWeight = 9223372036854775808 := by decide
theorem dbl_bin : Ieee.double.binade = 4503599627370496 := by decide
theorem dbl_inf : Ieee.double.infRung = infF := by decide
theorem dbl_lp : Ieee.double.leastPlace = -1074 := by decide

theorem valF_succ (r : Nat) : valF r < valF (r + 1) := by
  unfold valF
  by_cases h1 : r + 1 < 4503599627370496
  · rw [if_pos h1, if_pos (by omega)]; omega
  · rw [if_neg h1]
    by_cases h2 : r < 4503599627370496
    · rw [if_pos h2]
      have e : r + 1 = 4503599627370496 := by omega
      rw [e]
      show r < (4503599627370496 + 4503599627370496 % 4503599627370496) * 2 ^ (4503599627370496 / 4503599627370496 - 1)
      rw [show (4503599627370496 + 4503599627370496 % 4503599627370496) * 2 ^ (4503599627370496 / 4503599627370496 - 1) = 4503599627370496 by decide]
      omega
    · rw [if_neg h2]
      by_cases h3 : (r + 1) % 4503599627370496 = 0
      · have e1 : r % 4503599627370496 = 4503599627370495 := by omega
        have e2 : (r + 1) / 4503599627370496 - 1 = (r / 4503599627370496 - 1) + 1 := by omega
        rw [h3, e1, e2, Nat.pow_succ]
        have hp : 0 < 2 ^ (r / 4503599627370496 - 1) := Nat.two_pow_pos _
        generalize 2 ^ (r / 4503599627370496 - 1) = z at hp
        omega
      · have e1 : (r + 1) % 4503599627370496 = r % 4503599627370496 + 1 := by omega
        have e2 : (r + 1) / 4503599627370496 = r / 4503599627370496 := by omega
        rw [e1, e2]
        exact Nat.mul_lt_mul_of_pos_right (by omega) (Nat.two_pow_pos _)
theorem valF_lt {r s : Nat} (h : r < s) : valF r < valF s := by
  obtain ⟨d, rfl⟩ : ∃ d, s = r + 1 + d := ⟨s - (r + 1), by omega⟩
  induction d with
  | zero => exact valF_succ r
  | succ d ih => exact Nat.lt_trans (ih (by omega)) (valF_succ _)
theorem valF_lt_iff {r s : Nat} : valF r < valF s ↔ r < s := by
  constructor
  · intro h
    rcases Nat.lt_trichotomy r s with h1 | h1 | h1
    · exact h1
    · subst h1; exact absurd h (Nat.lt_irrefl _)
    · exact absurd h (Nat.lt_asymm (valF_lt h1))
  · exact valF_lt
theorem valF_inj {r s : Nat} : valF r = valF s ↔ r = s := by
  constructor
  · intro h
    rcases Nat.lt_trichotomy r s with h1 | h1 | h1
    · have := valF_lt h1; omega
    · exact h1
    · have := valF_lt h1; omega
  · intro h; rw [h]
theorem valF_zero : valF 0 = 0 := rfl

/-- What a finite word stands for. -/
theorem read_fin {w : Nat} (h : rgF w < infF) : ∃ (m : Nat) (i : Int), Ieee.double.read w = .number (sgF w) m i ∧ -1074 ≤ i ∧ m * 2 ^ (i + 1074).toNat = valF (rgF w) := by
  unfold Ieee.Format.read
  rw [dbl_sw, dbl_bin, dbl_inf, dbl_lp]
  dsimp only
  unfold valF
  by_cases h1 : rgF w < 4503599627370496
  · rw [if_pos (show w % 9223372036854775808 < 4503599627370496 from h1), if_pos h1]
    exact ⟨_, _, rfl, by decide, Nat.mul_one _⟩
  · rw [if_neg (show ¬ w % 9223372036854775808 < 4503599627370496 from h1), if_pos (show w % 9223372036854775808 < infF from h), if_neg h1]
    refine ⟨_, _, rfl, by omega, ?_⟩
    show (4503599627370496 + rgF w % 4503599627370496) * _ = _
    congr 2
    unfold rgF
    omega
theorem read_inf {w : Nat} (h : rgF w = infF) : Ieee.double.read w = .infinity (sgF w) := by
  unfold Ieee.Format.read
  rw [dbl_sw, dbl_bin, dbl_inf, dbl_lp]
  dsimp only
  have h1 : w % 9223372036854775808 = infF := h
  rw [h1, if_neg (by decide), if_neg (by decide), if_pos rfl]
  rfl
theorem read_nan {w : Nat} (h : infF < rgF w) : ∃ f, Ieee.double.read w = .nan (sgF w) f := by
  unfold Ieee.Format.read
  rw [dbl_sw, dbl_bin, dbl_inf, dbl_lp]
  dsimp only
  have h1 : infF = 9218868437227405312 := rfl
  have h2 : infF < w % 9223372036854775808 := h
  rw [if_neg (by omega), if_neg (by omega), if_neg (by omega)]
  exact ⟨_, rfl⟩

theorem compare_congr {a b a' b' : Int} (h1 : a < b ↔ a' < b') (h2 : a = b ↔ a' = b') : compare a b = compare a' b' := by
  show compareOfLessAndEq a b = compareOfLessAndEq a' b'
  unfold compareOfLessAndEq
  by_cases e1 : a < b
  · rw [if_pos e1, if_pos (h1.1 e1)]
  · rw [if_neg e1, if_neg (fun x => e1 (h1.2 x))]
    by_cases e2 : a = b
    · rw [if_pos e2, if_pos (h2.1 e2)]
    · rw [if_neg e2, if_neg (fun x => e2 (h2.2 x))]

/-- How two words stand to each other: as their places. -/
theorem order_key {x y : Nat} (hx : rgF x ≤ infF) (hy : rgF y ≤ infF) : Ieee.double.order x y = some (compare (keyF x) (keyF y)) := by
  unfold Ieee.Format.order
  have hi : infF = 9218868437227405312 := rfl
  rcases Nat.lt_or_ge (rgF x) infF with h1 | h1
  · obtain ⟨m, i, e1, i0, ev⟩ := read_fin h1
    rw [e1]
    rcases Nat.lt_or_ge (rgF y) infF with h2 | h2
    · obtain ⟨n, j, e2, j0, ew⟩ := read_fin h2
      rw [e2]
      show some (compare (Ieee.signed (sgF x) m (i - min i j).toNat) (Ieee.signed (sgF y) n (j - min i j).toNat)) = _
      congr 1
      -- a common factor
      obtain ⟨c, hc⟩ : ∃ c, c = 2 ^ (min i j + 1074).toNat := ⟨_, rfl⟩
      have c0 : 0 < c := by rw [hc]; exact Nat.two_pow_pos _
      have k1 : m * 2 ^ (i - min i j).toNat * c = valF (rgF x) := by
        rw [← ev, hc, Nat.mul_assoc, ← Nat.pow_add]
        congr 2
        omega
      have k2 : n * 2 ^ (j - min i j).toNat * c = valF (rgF y) := by
        rw [← ew, hc, Nat.mul_assoc, ← Nat.pow_add]
        congr 2
        omega
      unfold Ieee.signed
      rw [Nat.shiftLeft_eq, Nat.shiftLeft_eq]
      generalize m * 2 ^ (i - min i j).toNat = p at k1
      generalize n * 2 ^ (j - min i j).toNat = q at k2
      have z1 : p = 0 ↔ rgF x = 0 := by
        rw [← valF_inj (r := rgF x) (s := 0), valF_zero, ← k1]
        constructor
        · intro h; rw [h, Nat.zero_mul]
        · intro h; rcases Nat.mul_eq_zero.1 h with h | h
          · exact h
          · omega
      have z2 : q = 0 ↔ rgF y = 0 := by
        rw [← valF_inj (r := rgF y) (s := 0), valF_zero, ← k2]
        constructor
        · intro h; rw [h, Nat.zero_mul]
        · intro h; rcases Nat.mul_eq_zero.1 h with h | h
          · exact h
          · omega
      have z3 : p < q ↔ rgF x < rgF y := by
        rw [← valF_lt_iff (r := rgF x) (s := rgF y), ← k1, ← k2]
        exact (Nat.mul_lt_mul_right c0).symm
      have z4 : p = q ↔ rgF x = rgF y := by
        rw [← valF_inj (r := rgF x) (s := rgF y), ← k1, ← k2]
        constructor
        · intro h; rw [h]
        · intro h; exact Nat.eq_of_mul_eq_mul_right c0 h
      unfold keyF
      cases sgF x <;> cases sgF y <;> simp only [Bool.false_eq_true, if_false, if_true] <;> apply compare_congr <;> omega
    · have h3 : rgF y = infF := by omega
      rw [read_inf h3]
      show some (if sgF y then Ordering.gt else .lt) = _
      congr 1
      unfold keyF
      have hk : ∀ a b : Int, a < b → compare a b = .lt := fun a b h => by show compareOfLessAndEq a b = _; unfold compareOfLessAndEq; rw [if_pos h]
      have hg : ∀ a b : Int, b < a → compare a b = .gt := fun a b h => by show compareOfLessAndEq a b = _; unfold compareOfLessAndEq; rw [if_neg (by omega), if_neg (by omega)]
      cases sgF x <;> cases sgF y <;> simp only [Bool.false_eq_true, if_false, if_true] <;> first | (exact (hk _ _ (by omega)).symm) | (exact (hg _ _ (by omega)).symm)
  · have h3 : rgF x = infF := by omega
    rw [read_inf h3]
    have hk : ∀ a b : Int, a < b → compare a b = .lt := fun a b h => by show compareOfLessAndEq a b = _; unfold compareOfLessAndEq; rw [if_pos h]
    have hg : ∀ a b : Int, b < a → compare a b = .gt := fun a b h => by show compareOfLessAndEq a b = _; unfold compareOfLessAndEq; rw [if_neg (by omega), if_neg (by omega)]
    have he : ∀ a b : Int, a = b → compare a b = .eq := fun a b h => by show compareOfLessAndEq a b = _; unfold compareOfLessAndEq; rw [if_neg (by omega), if_pos h]
    rcases Nat.lt_or_ge (rgF y) infF with h2 | h2
    · obtain ⟨n, j, e2, j0, ew⟩ := read_fin h2
      rw [e2]
      show some (if sgF x then Ordering.lt else .gt) = _
      congr 1
      unfold keyF
      cases sgF x <;> cases sgF y <;> simp only [Bool.false_eq_true, if_false, if_true] <;> first | (exact (hk _ _ (by omega)).symm) | (exact (hg _ _ (by omega)).symm)
    · have h4 : rgF y = infF := by omega
      rw [read_inf h4]
      show some (compare (sgF y).toNat (sgF x).toNat) = _
      congr 1
      unfold keyF
      cases sgF x <;> cases sgF y <;> simp only [Bool.false_eq_true, if_false, if_true] <;> first | (exact (he _ _ (by omega)).symm) | (exact (hk _ _ (by omega)).symm) | (exact (hg _ _ (by omega)).symm)
theorem order_nan {x y : Nat} (h : infF < rgF x ∨ infF < rgF y) : Ieee.double.order x y = none := by
  unfold Ieee.Format.order
  rcases h with h | h
  · obtain ⟨f, e⟩ := read_nan h
    rw [e]; rfl
  · obtain ⟨f, e⟩ := read_nan h
    rw [e]
    cases Ieee.double.read x <;> rfl

/-- Whether a word is no number. -/
def nanF (w : Nat) : Bool := decide (infF < rgF w)
theorem nanF_no {w : Nat} (h : nanF w = false) : rgF w ≤ infF := by
  have := of_decide_eq_false h; omega
theorem nanF_yes {w : Nat} (h : nanF w = true) : infF < rgF w := of_decide_eq_true h
theorem cmp_lt (a b : Int) : (some (compare a b) == some Ordering.lt) = decide (a < b) := by
  show (some (compareOfLessAndEq a b) == some Ordering.lt) = _
  unfold compareOfLessAndEq
  by_cases h1 : a < b
  · rw [if_pos h1, decide_eq_true h1]; rfl
  · rw [if_neg h1, decide_eq_false h1]
    by_cases h2 : a = b
    · rw [if_pos h2]; rfl
    · rw [if_neg h2]; rfl
theorem cmp_eq (a b : Int) : (some (compare a b) == some Ordering.eq) = decide (a = b) := by
  show (some (compareOfLessAndEq a b) == some Ordering.eq) = _
  unfold compareOfLessAndEq
  by_cases h1 : a < b
  · rw [if_pos h1, decide_eq_false (by omega)]; rfl
  · rw [if_neg h1]
    by_cases h2 : a = b
    · rw [if_pos h2, decide_eq_true h2]; rfl
    · rw [if_neg h2, decide_eq_false h2]; rfl
theorem cmp_gt (a b : Int) : (some (compare a b) == some Ordering.gt) = decide (b < a) := by
  show (some (compareOfLessAndEq a b) == some Ordering.gt) = _
  unfold compareOfLessAndEq
  by_cases h1 : a < b
  · rw [if_pos h1, decide_eq_false (by omega)]; rfl
  · rw [if_neg h1]
    by_cases h2 : a = b
    · rw [if_pos h2, decide_eq_false (by omega)]; rfl
    · rw [if_neg h2, decide_eq_true (by omega)]; rfl
/-- What the six comparisons of two words give. -/
theorem ord_lt (a b : Nat) : (Ieee.double.order a b == some .lt) = (!nanF a && !nanF b && decide (keyF a < keyF b)) := by
  cases h1 : nanF a
  · cases h2 : nanF b
    · rw [order_key (nanF_no h1) (nanF_no h2), cmp_lt]; rfl
    · rw [order_nan (.inr (nanF_yes h2))]; rfl
  · rw [order_nan (.inl (nanF_yes h1))]; rfl
theorem ord_eq (a b : Nat) : (Ieee.double.order a b == some .eq) = (!nanF a && !nanF b && decide (keyF a = keyF b)) := by
  cases h1 : nanF a
  · cases h2 : nanF b
    · rw [order_key (nanF_no h1) (nanF_no h2), cmp_eq]; rfl
    · rw [order_nan (.inr (nanF_yes h2))]; rfl
  · rw [order_nan (.inl (nanF_yes h1))]; rfl
theorem ord_gt (a b : Nat) : (Ieee.double.order a b == some .gt) = (!nanF a && !nanF b && decide (keyF b < keyF a)) := by
  cases h1 : nanF a
  · cases h2 : nanF b
    · rw [order_key (nanF_no h1) (nanF_no h2), cmp_gt]; rfl
    · rw [order_nan (.inr (nanF_yes h2))]; rfl
  · rw [order_nan (.inl (nanF_yes h1))]; rfl
theorem ord_ne (a b : Nat) : (Ieee.double.order a b != some .eq) = (nanF a || nanF b || decide (keyF a ≠ keyF b)) := by
  show (!(Ieee.double.order a b == some .eq)) = _
  rw [ord_eq]
  cases nanF a <;> cases nanF b <;> simp
theorem ord_le (a b : Nat) : (Ieee.double.order a b == some .lt || Ieee.double.order a b == some .eq) = (!nanF a && !nanF b && decide (keyF a ≤ keyF b)) := by
  rw [ord_lt, ord_eq]
  cases nanF a <;> cases nanF b <;> simp
  by_cases h : keyF a ≤ keyF b
  · rw [decide_eq_true h]
    rcases (show keyF a < keyF b ∨ keyF a = keyF b by omega) with e | e <;> simp [e]
  · rw [decide_eq_false h, decide_eq_false (by omega), decide_eq_false (by omega)]; rfl
theorem ord_ge (a b : Nat) : (Ieee.double.order a b == some .gt || Ieee.double.order a b == some .eq) = (!nanF a && !nanF b && decide (keyF b ≤ keyF a)) := by
  rw [ord_gt, ord_eq]
  cases nanF a <;> cases nanF b <;> simp
  by_cases h : keyF b ≤ keyF a
  · rw [decide_eq_true h]
    rcases (show keyF b < keyF a ∨ keyF a = keyF b by omega) with e | e <;> simp [e]
  · rw [decide_eq_false h, decide_eq_false (by omega), decide_eq_false (by omega)]; rfl
/-- A word is its sign and its rung. -/
theorem word_parts {w : Nat} (h : w < 18446744073709551616) : w = (if sgF w then 9223372036854775808 else 0) + rgF w := by
  unfold sgF rgF
  by_cases e : w / 9223372036854775808 % 2 = 1
  · have : (w / 9223372036854775808 % 2 == 1) = true := by simpa using e
    rw [this, if_pos rfl]; omega
  · have : (w / 9223372036854775808 % 2 == 1) = false := by simpa using e
    rw [this]
    simp only [Bool.false_eq_true, if_false]
    omega
end Go.Proofs.Ytpkikegjoncmaaa
