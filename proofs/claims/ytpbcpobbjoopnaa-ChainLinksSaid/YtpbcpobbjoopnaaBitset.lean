/-
  Plain mathematics of layer 4: sets of numbers as words. Nothing here speaks of the program.
-/
import Derived.Lib.TrailingZeros
namespace Go.Proofs.Ytpbcpobbjoopnaa

/-- The number whose bits below n are the places where p holds. -/
def setP (p : Nat → Bool) : Nat → Nat
  | 0 => 0
  | n + 1 => setP p n + if p n then 2 ^ n else 0
/-- How many places below n. -/
def cntP (p : Nat → Bool) : Nat → Nat
  | 0 => 0
  | n + 1 => cntP p n + if p n then 1 else 0
/-- These places, ascending. -/
def lstP (p : Nat → Bool) : Nat → List Nat
  | 0 => []
  | n + 1 => lstP p n ++ if p n then [n] else []

theorem lstP_length (p : Nat → Bool) : ∀ n, (lstP p n).length = cntP p n
  | 0 => rfl
  | n + 1 => by
    simp only [lstP, cntP, List.length_append, lstP_length p n]
    cases p n <;> rfl
theorem cntP_le (p : Nat → Bool) : ∀ n, cntP p n ≤ n
  | 0 => Nat.le_refl _
  | n + 1 => by
    have := cntP_le p n
    simp only [cntP]
    cases p n <;> simp <;> omega
theorem cntP_mono (p : Nat → Bool) {m n : Nat} (h : m ≤ n) : cntP p m ≤ cntP p n := by
  induction n with
  | zero => obtain rfl : m = 0 := by omega
            exact Nat.le_refl _
  | succ n ih =>
    rcases (show m ≤ n ∨ m = n + 1 by omega) with h1 | rfl
    · have := ih h1
      simp only [cntP]
      omega
    · exact Nat.le_refl _
theorem mem_lstP (p : Nat → Bool) : ∀ n x, x ∈ lstP p n ↔ x < n ∧ p x = true
  | 0, x => by simp [lstP]
  | n + 1, x => by
    simp only [lstP, List.mem_append, mem_lstP p n]
    constructor
    · rintro (⟨h1, h2⟩ | h)
      · exact ⟨by omega, h2⟩
      · by_cases e : p n = true
        · simp [e] at h; subst h; exact ⟨by omega, e⟩
        · simp [e] at h
    · rintro ⟨h1, h2⟩
      rcases (show x < n ∨ x = n by omega) with h | rfl
      · exact .inl ⟨h, h2⟩
      · right; simp [h2]
theorem setP_congr {p q : Nat → Bool} : ∀ {n : Nat}, (∀ j, j < n → p j = q j) → setP p n = setP q n
  | 0, _ => rfl
  | n + 1, h => by simp only [setP]; rw [setP_congr (n := n) (fun j hj => h j (by omega)), h n (by omega)]
theorem cntP_congr {p q : Nat → Bool} : ∀ {n : Nat}, (∀ j, j < n → p j = q j) → cntP p n = cntP q n
  | 0, _ => rfl
  | n + 1, h => by simp only [cntP]; rw [cntP_congr (n := n) (fun j hj => h j (by omega)), h n (by omega)]
theorem lstP_congr {p q : Nat → Bool} : ∀ {n : Nat}, (∀ j, j < n → p j = q j) → lstP p n = lstP q n
  | 0, _ => rfl
  | n + 1, h => by simp only [lstP]; rw [lstP_congr (n := n) (fun j hj => h j (by omega)), h n (by omega)]
theorem setP_lt (p : Nat → Bool) : ∀ n, setP p n < 2 ^ n
  | 0 => by simp [setP]
  | n + 1 => by
    have := setP_lt p n
    simp only [setP, Nat.pow_succ]
    cases p n <;> simp <;> omega
theorem setP_small (p : Nat → Bool) {n : Nat} (h : n ≤ 64) : setP p n < 18446744073709551616 :=
  Nat.lt_of_lt_of_le (setP_lt p n) (Nat.pow_le_pow_right (by decide) h)
theorem setP_or (p : Nat → Bool) (n : Nat) : setP p n ||| 2 ^ n = setP p n + 2 ^ n := by
  have := Nat.two_pow_add_eq_or_of_lt (setP_lt p n) 1
  rw [Nat.mul_one] at this
  rw [Nat.or_comm, ← this, Nat.add_comm]
theorem setP_none {p : Nat → Bool} : ∀ {n : Nat}, (∀ j, j < n → p j = false) → setP p n = 0
  | 0, _ => rfl
  | n + 1, h => by simp only [setP]; rw [setP_none (n := n) (fun j hj => h j (by omega)), h n (by omega)]; rfl
theorem cntP_none {p : Nat → Bool} : ∀ {n : Nat}, (∀ j, j < n → p j = false) → cntP p n = 0
  | 0, _ => rfl
  | n + 1, h => by simp only [cntP]; rw [cntP_none (n := n) (fun j hj => h j (by omega)), h n (by omega)]; rfl
theorem setP_zero {p : Nat → Bool} : ∀ {n : Nat}, setP p n = 0 → ∀ j, j < n → p j = false
  | 0, _, j, h => absurd h (by omega)
  | n + 1, h, j, hj => by
    simp only [setP] at h
    have hp : 0 < 2 ^ n := Nat.pow_pos (by decide)
    have h1 : p n = false := by
      cases e : p n
      · rfl
      · simp [e] at h
    rcases (show j < n ∨ j = n by omega) with h2 | rfl
    · exact setP_zero (n := n) (by omega) j h2
    · exact h1
theorem setP_testBit (p : Nat → Bool) : ∀ (n i : Nat), (setP p n).testBit i = (decide (i < n) && p i)
  | 0, i => by simp [setP]
  | n + 1, i => by
    simp only [setP]
    by_cases e : p n = true
    · rw [if_pos e, ← setP_or, Nat.testBit_or, setP_testBit p n i, Nat.testBit_two_pow]
      by_cases h : i = n
      · subst h; simp [e]
      · have h1 : ¬ n = i := fun x => h x.symm
        have h2 : (i < n + 1) = (i < n) := by apply propext; omega
        simp [h1, h2]
    · have e' : p n = false := by simpa using e
      rw [if_neg e, Nat.add_zero, setP_testBit p n i]
      by_cases h : i = n
      · subst h; simp [e']
      · have h2 : (i < n + 1) = (i < n) := by apply propext; omega
        simp [h2]

/-- The places from t on. -/
def fromP (p : Nat → Bool) (t : Nat) (f : Nat) : Bool := decide (t ≤ f) && p f

theorem lowest (p : Nat → Bool) {t n : Nat} (h : setP (fromP p t) n ≠ 0) : ∃ i, t ≤ i ∧ i < n ∧ p i = true ∧ ∀ j, t ≤ j → j < i → p j = false := by
  induction n with
  | zero => exact absurd rfl h
  | succ n ih =>
    by_cases h0 : setP (fromP p t) n = 0
    · simp only [setP, h0, Nat.zero_add] at h
      have hn : fromP p t n = true := by
        cases e : fromP p t n
        · simp [e] at h
        · rfl
      simp [fromP] at hn
      refine ⟨n, hn.1, by omega, hn.2, fun j hj hjn => ?_⟩
      have := setP_zero h0 j hjn
      simpa [fromP, hj] using this
    · obtain ⟨i, h1, h2, h3, h4⟩ := ih h0
      exact ⟨i, h1, by omega, h3, h4⟩

/-- A set from t on, at its least member i: 2^i, and what follows. -/
theorem setP_split (p : Nat → Bool) {t i : Nat} (h1 : t ≤ i) (h3 : p i = true) (h4 : ∀ j, t ≤ j → j < i → p j = false) : ∀ {n : Nat}, i < n → ∃ y, setP (fromP p t) n = 2 ^ i * (2 * y + 1) ∧ setP (fromP p (i + 1)) n = 2 ^ i * (2 * y)
  | 0, h => absurd h (by omega)
  | n + 1, h => by
    rcases (show i < n ∨ i = n by omega) with h2 | rfl
    · obtain ⟨y, e1, e2⟩ := setP_split p h1 h3 h4 (n := n) h2
      simp only [setP, e1, e2]
      have ha : fromP p t n = p n := by simp [fromP]; intro; omega
      have hb : fromP p (i + 1) n = p n := by simp [fromP]; intro; omega
      rw [ha, hb]
      by_cases e : p n = true
      · obtain ⟨d, hd⟩ : ∃ d, n = i + (d + 1) := ⟨n - i - 1, by omega⟩
        refine ⟨y + 2 ^ d, ?_, ?_⟩
        · rw [if_pos e, hd, Nat.pow_add, Nat.pow_succ, ← Nat.mul_add]; congr 1; omega
        · rw [if_pos e, hd, Nat.pow_add, Nat.pow_succ, ← Nat.mul_add]; congr 1; omega
      · exact ⟨y, by rw [if_neg e, Nat.add_zero], by rw [if_neg e, Nat.add_zero]⟩
    · refine ⟨0, ?_, ?_⟩
      · have ha : fromP p t i = true := by simp [fromP, h1, h3]
        have e0 : setP (fromP p t) i = 0 := setP_none (fun j hj => by
          by_cases e : t ≤ j
          · simp [fromP, h4 j e hj]
          · simp [fromP, e])
        simp only [setP]; rw [if_pos ha, e0]; omega
      · have hb : fromP p (i + 1) i = false := by simp [fromP]; omega
        have e0 : setP (fromP p (i + 1)) i = 0 := setP_none (fun j hj => by
          have : ¬ i + 1 ≤ j := by omega
          simp [fromP, this])
        simp only [setP]; rw [hb, e0]; simp
theorem ctzFrom_pow : ∀ (f i y : Nat), i < f → Lib.ctzFrom f (2 ^ i * (2 * y + 1)) = i
  | 0, i, y, h => absurd h (by omega)
  | f + 1, 0, y, _ => by
    unfold Lib.ctzFrom
    rw [if_pos (by omega)]
  | f + 1, i + 1, y, h => by
    have e : 2 ^ (i + 1) * (2 * y + 1) = 2 * (2 ^ i * (2 * y + 1)) := by rw [Nat.pow_succ, Nat.mul_comm (2 ^ i) 2, Nat.mul_assoc]
    unfold Lib.ctzFrom
    rw [e, if_neg (by omega), Nat.mul_div_cancel_left _ (by decide), ctzFrom_pow f i y (by omega)]
    omega
theorem ctz_pow (i y : Nat) (h : i < 64) : Lib.ctz 64 (2 ^ i * (2 * y + 1)) = i := by
  unfold Lib.ctz
  have : 2 ^ i * (2 * y + 1) ≠ 0 := by
    have : 0 < 2 ^ i := Nat.pow_pos (by decide)
    have := Nat.mul_pos this (show 0 < 2 * y + 1 by omega)
    omega
  rw [if_neg this]
  exact ctzFrom_pow 64 i y h

theorem and_split (k a b c d : Nat) (ha : a < 2 ^ k) (hc : c < 2 ^ k) : (2 ^ k * b + a) &&& (2 ^ k * d + c) = 2 ^ k * (b &&& d) + (a &&& c) := by
  have hac : a &&& c < 2 ^ k := Nat.and_lt_two_pow _ hc
  apply Nat.eq_of_testBit_eq
  intro i
  rw [Nat.testBit_and, Nat.testBit_two_pow_mul_add _ ha, Nat.testBit_two_pow_mul_add _ hc, Nat.testBit_two_pow_mul_add _ hac]
  by_cases h : i < k
  · simp [h]
  · simp [h]
/-- Taking away 1 and keeping what both have: the lowest bit falls. -/
theorem and_pred (i y : Nat) : (2 ^ i * (2 * y + 1)) &&& (2 ^ i * (2 * y + 1) - 1) = 2 ^ i * (2 * y) := by
  have hp : 0 < 2 ^ i := Nat.pow_pos (by decide)
  have e1 : 2 ^ i * (2 * y + 1) = 2 ^ (i + 1) * y + 2 ^ i := by rw [Nat.pow_succ, Nat.mul_add, Nat.mul_one, Nat.mul_assoc]
  have e2 : 2 ^ i * (2 * y + 1) - 1 = 2 ^ (i + 1) * y + (2 ^ i - 1) := by omega
  have hs : 2 ^ (i + 1) = 2 * 2 ^ i := by rw [Nat.pow_succ, Nat.mul_comm]
  rw [e2, e1, and_split (i + 1) (2 ^ i) y (2 ^ i - 1) y (by omega) (by omega), Nat.and_self]
  have e3 : 2 ^ i &&& (2 ^ i - 1) = 0 := by
    apply Nat.eq_of_testBit_eq
    intro j
    rw [Nat.testBit_and, Nat.testBit_two_pow, Nat.zero_testBit, Nat.testBit_two_pow_sub_one]
    by_cases h : i = j
    · subst h; simp
    · simp [h]
  rw [e3, Nat.pow_succ, Nat.mul_assoc, Nat.add_zero]
theorem lstP_next (p : Nat → Bool) {t i : Nat} (h1 : t ≤ i) (h3 : p i = true) (h4 : ∀ j, t ≤ j → j < i → p j = false) : lstP p (i + 1) = lstP p t ++ [i] := by
  have key : ∀ m, t ≤ m → m ≤ i → lstP p m = lstP p t := by
    intro m
    induction m with
    | zero => intro a b; obtain rfl : t = 0 := by omega
              rfl
    | succ m ih =>
      intro a b
      rcases (show t ≤ m ∨ t = m + 1 by omega) with h | rfl
      · simp only [lstP]
        rw [ih h (by omega), h4 m h (by omega)]
        simp
      · rfl
  simp only [lstP]
  rw [key i h1 (Nat.le_refl _), if_pos h3]
theorem cntP_next (p : Nat → Bool) {t i : Nat} (h1 : t ≤ i) (h3 : p i = true) (h4 : ∀ j, t ≤ j → j < i → p j = false) : cntP p (i + 1) = cntP p t + 1 := by
  rw [← lstP_length, ← lstP_length, lstP_next p h1 h3 h4]
  simp
theorem lstP_done (p : Nat → Bool) {t n : Nat} (h : t ≤ n) (h0 : setP (fromP p t) n = 0) : lstP p n = lstP p t := by
  have hz := setP_zero h0
  clear h0
  induction n with
  | zero => obtain rfl : t = 0 := by omega
            rfl
  | succ n ih =>
    rcases (show t ≤ n ∨ t = n + 1 by omega) with h2 | rfl
    · have h5 := hz n (by omega)
      simp [fromP, h2] at h5
      simp only [lstP]
      rw [ih h2 (fun j hj => hz j (by omega)), h5]
      simp
    · rfl

/-! How many bits of a word are set: in bytes. -/
def bitsT (x : Nat) : Nat → Nat
  | 0 => 0
  | k + 1 => bitsT x k + if x.testBit k then 1 else 0
theorem bitsT_setP (p : Nat → Bool) (n : Nat) : ∀ k, bitsT (setP p n) k = cntP (fun i => decide (i < n) && p i) k
  | 0 => rfl
  | k + 1 => by simp only [bitsT, cntP, bitsT_setP p n k, setP_testBit]
theorem cntP_cut (p : Nat → Bool) (n : Nat) : ∀ d, cntP (fun i => decide (i < n) && p i) (n + d) = cntP p n
  | 0 => cntP_congr (fun j hj => by have h : j < n := hj; simp [h])
  | d + 1 => by
    have h : ¬ n + d < n := by omega
    rw [← Nat.add_assoc]
    simp only [cntP, cntP_cut p n d]
    simp [h]
theorem bitsT_all (p : Nat → Bool) {n : Nat} (h : n ≤ 64) : bitsT (setP p n) 64 = cntP p n := by
  obtain ⟨d, hd⟩ := Nat.le.dest h
  rw [bitsT_setP, ← hd, cntP_cut]
theorem bitsT_byte (x : Nat) : ∀ k, bitsT x (8 + k) = bitsT (x % 256) 8 + bitsT (x / 256) k
  | 0 => by
    have e : ∀ i, i < 8 → (x % 256).testBit i = x.testBit i := fun i hi => by
      rw [show 256 = 2 ^ 8 by rfl, Nat.testBit_mod_two_pow]; simp [hi]
    simp only [bitsT, Nat.add_zero]
    rw [e 0 (by decide), e 1 (by decide), e 2 (by decide), e 3 (by decide), e 4 (by decide), e 5 (by decide), e 6 (by decide), e 7 (by decide)]
  | k + 1 => by
    show bitsT x (8 + k) + (if x.testBit (8 + k) then 1 else 0) = bitsT (x % 256) 8 + (bitsT (x / 256) k + if (x / 256).testBit k then 1 else 0)
    rw [bitsT_byte x k]
    have : (x / 256).testBit k = x.testBit (8 + k) := by
      rw [show 256 = 2 ^ 8 by rfl, Nat.testBit_div_two_pow, Nat.add_comm]
    rw [this]
    omega

def rep (c : Nat) : Nat → Nat
  | 0 => 0
  | k + 1 => 256 * rep c k + c
def mapB (g : Nat → Nat) : Nat → Nat → Nat
  | 0, _ => 0
  | k + 1, x => 256 * mapB g k (x / 256) + g (x % 256)
def sumB (g : Nat → Nat) : Nat → Nat → Nat
  | 0, _ => 0
  | k + 1, x => sumB g k (x / 256) + g (x % 256)
def g1 (b : Nat) : Nat := (b / 2 &&& 85) + (b &&& 85)
def g2 (b : Nat) : Nat := (b / 4 &&& 51) + (b &&& 51)
def g3 (b : Nat) : Nat := (b / 16 + b) &&& 15

theorem dec1 : ∀ a, a < 256 → ∀ e, e < 2 → (a / 2 + 128 * e) &&& 85 = a / 2 &&& 85 := by decide +kernel
theorem dec2 : ∀ a, a < 256 → ∀ e, e < 4 → (a / 4 + 64 * e) &&& 51 = a / 4 &&& 51 := by decide +kernel
theorem dec3 : ∀ a, a < 256 → ∀ e, e < 5 → a % 16 ≤ 4 → a / 16 ≤ 4 → (a / 16 + 16 * e + a) &&& 15 = (a / 16 + a) &&& 15 := by decide +kernel
theorem dec1b : ∀ a, a < 256 → g1 a < 256 := by decide +kernel
theorem dec2b : ∀ a, a < 256 → g2 (g1 a) < 256 ∧ g2 (g1 a) % 16 ≤ 4 ∧ g2 (g1 a) / 16 ≤ 4 := by decide +kernel
theorem dec3b : ∀ a, a < 256 → g3 (g2 (g1 a)) = bitsT a 8 ∧ g3 (g2 (g1 a)) ≤ 8 := by decide +kernel

theorem split256 (a b c d : Nat) (ha : a < 256) (hc : c < 256) : (256 * b + a) &&& (256 * d + c) = 256 * (b &&& d) + (a &&& c) := and_split 8 a b c d ha hc

theorem step1 : ∀ k x, x < 256 ^ k → (x / 2 &&& rep 85 k) + (x &&& rep 85 k) = mapB g1 k x
  | 0, x, h => by simp [rep, mapB]
  | k + 1, x, h => by
    have hy : x / 256 < 256 ^ k := by rw [Nat.pow_succ] at h; omega
    have ih := step1 k (x / 256) hy
    have e1 : x = 256 * (x / 256) + x % 256 := by omega
    have e2 : x / 2 = 256 * (x / 256 / 2) + (x % 256 / 2 + 128 * (x / 256 % 2)) := by omega
    simp only [rep, mapB]
    have d1 := dec1 (x % 256) (by omega) (x / 256 % 2) (by omega)
    have s1 : x / 2 &&& (256 * rep 85 k + 85) = 256 * (x / 256 / 2 &&& rep 85 k) + (x % 256 / 2 &&& 85) := by
      rw [e2, split256 _ _ _ _ (by omega) (by omega), d1]
    have s2 : x &&& (256 * rep 85 k + 85) = 256 * (x / 256 &&& rep 85 k) + (x % 256 &&& 85) := by
      conv => lhs; rw [e1]
      rw [split256 _ _ _ _ (by omega) (by omega)]
    rw [s1, s2, ← ih]
    unfold g1
    omega
theorem step2 : ∀ k x, x < 256 ^ k → (x / 4 &&& rep 51 k) + (x &&& rep 51 k) = mapB g2 k x
  | 0, x, h => by simp [rep, mapB]
  | k + 1, x, h => by
    have hy : x / 256 < 256 ^ k := by rw [Nat.pow_succ] at h; omega
    have ih := step2 k (x / 256) hy
    have e1 : x = 256 * (x / 256) + x % 256 := by omega
    have e2 : x / 4 = 256 * (x / 256 / 4) + (x % 256 / 4 + 64 * (x / 256 % 4)) := by omega
    simp only [rep, mapB]
    have d1 := dec2 (x % 256) (by omega) (x / 256 % 4) (by omega)
    have s1 : x / 4 &&& (256 * rep 51 k + 51) = 256 * (x / 256 / 4 &&& rep 51 k) + (x % 256 / 4 &&& 51) := by
      rw [e2, split256 _ _ _ _ (by omega) (by omega), d1]
    have s2 : x &&& (256 * rep 51 k + 51) = 256 * (x / 256 &&& rep 51 k) + (x % 256 &&& 51) := by
      conv => lhs; rw [e1]
      rw [split256 _ _ _ _ (by omega) (by omega)]
    rw [s1, s2, ← ih]
    unfold g2
    omega
def low4 : Nat → Nat → Prop
  | 0, x => x = 0
  | k + 1, x => x % 256 % 16 ≤ 4 ∧ x % 256 / 16 ≤ 4 ∧ low4 k (x / 256)
theorem low4_mod : ∀ k x, low4 k x → x % 16 ≤ 4
  | 0, x, h => by rw [h]; decide
  | k + 1, x, h => by have := h.1; omega
theorem low4_le : ∀ k x, low4 k x → x ≤ rep 68 k
  | 0, x, h => by rw [h]; exact Nat.zero_le _
  | k + 1, x, ⟨h1, h2, h3⟩ => by
    have := low4_le k _ h3
    simp only [rep]
    omega
theorem low4_lt (x : Nat) (h : low4 8 x) : x < 1152921504606846976 * 5 := Nat.lt_of_le_of_lt (low4_le 8 x h) (by decide)
theorem step3 : ∀ k x, low4 k x → (x / 16 + x) &&& rep 15 k = mapB g3 k x
  | 0, x, h => by simp [rep, mapB]
  | k + 1, x, ⟨h1, h2, h3⟩ => by
    have ih := step3 k (x / 256) h3
    have hm := low4_mod k _ h3
    have e2 : x / 16 + x = 256 * (x / 256 / 16 + x / 256) + (x % 256 / 16 + 16 * (x / 256 % 16) + x % 256) := by omega
    simp only [rep, mapB]
    have d1 := dec3 (x % 256) (by omega) (x / 256 % 16) (by omega) h1 h2
    rw [e2, split256 _ _ _ _ (by omega) (by omega), d1, ih]
    rfl
theorem mapB_lt (g : Nat → Nat) (hg : ∀ a, a < 256 → g a < 256) : ∀ k x, mapB g k x < 256 ^ k
  | 0, x => by simp [mapB]
  | k + 1, x => by
    have := mapB_lt g hg k (x / 256)
    have := hg (x % 256) (by omega)
    simp only [mapB, Nat.pow_succ]
    omega
theorem mapB_mapB (g h : Nat → Nat) (hh : ∀ a, a < 256 → h a < 256) : ∀ k x, mapB g k (mapB h k x) = mapB (fun a => g (h a)) k x
  | 0, x => rfl
  | k + 1, x => by
    have := hh (x % 256) (by omega)
    simp only [mapB]
    have e1 : (256 * mapB h k (x / 256) + h (x % 256)) / 256 = mapB h k (x / 256) := by omega
    have e2 : (256 * mapB h k (x / 256) + h (x % 256)) % 256 = h (x % 256) := by omega
    rw [e1, e2, mapB_mapB g h hh k]
theorem low4_mapB (g : Nat → Nat) (hg : ∀ a, a < 256 → g a < 256 ∧ g a % 16 ≤ 4 ∧ g a / 16 ≤ 4) : ∀ k x, low4 k (mapB g k x)
  | 0, x => rfl
  | k + 1, x => by
    obtain ⟨a, b, c⟩ := hg (x % 256) (by omega)
    have e1 : (256 * mapB g k (x / 256) + g (x % 256)) / 256 = mapB g k (x / 256) := by omega
    have e2 : (256 * mapB g k (x / 256) + g (x % 256)) % 256 = g (x % 256) := by omega
    refine ⟨?_, ?_, ?_⟩
    · simp only [mapB]; rw [e2]; exact b
    · simp only [mapB]; rw [e2]; exact c
    · simp only [mapB]; rw [e1]; exact low4_mapB g hg k _

theorem dv (m a b y : Nat) (h : y = m * b + a) (ha : a < m) : y / m = b := by
  subst h
  rw [Nat.mul_add_div (by omega), Nat.div_eq_of_lt ha, Nat.add_zero]
theorem eqB (c0 c1 c2 c3 c4 c5 c6 c7 : Nat) : c0 + 256 * (c1 + 256 * (c2 + 256 * (c3 + 256 * (c4 + 256 * (c5 + 256 * (c6 + 256 * c7)))))) + (c1 + 256 * (c2 + 256 * (c3 + 256 * (c4 + 256 * (c5 + 256 * (c6 + 256 * c7)))))) =
    65536 * ((c2 + c3) + 256 * ((c3 + c4) + 256 * ((c4 + c5) + 256 * ((c5 + c6) + 256 * ((c6 + c7) + 256 * c7))))) + (c0 + c1 + 256 * (c1 + c2)) := by omega
theorem eqC (c0 c1 c2 c3 c4 c5 c6 c7 : Nat) : 65536 * ((c2 + c3) + 256 * ((c3 + c4) + 256 * ((c4 + c5) + 256 * ((c5 + c6) + 256 * ((c6 + c7) + 256 * c7))))) + (c0 + c1 + 256 * (c1 + c2)) + ((c2 + c3) + 256 * ((c3 + c4) + 256 * ((c4 + c5) + 256 * ((c5 + c6) + 256 * ((c6 + c7) + 256 * c7))))) =
    4294967296 * ((c4 + c5 + c6 + c7) + 256 * ((c5 + c6 + c7) + 256 * ((c6 + c7) + 256 * c7))) + (c0 + c1 + c2 + c3 + 256 * (c1 + c2 + c3 + c4) + 65536 * (c2 + c3 + c4 + c5) + 16777216 * (c3 + c4 + c5 + c6)) := by omega
theorem eqD (c0 c1 c2 c3 c4 c5 c6 c7 : Nat) : 4294967296 * ((c4 + c5 + c6 + c7) + 256 * ((c5 + c6 + c7) + 256 * ((c6 + c7) + 256 * c7))) + (c0 + c1 + c2 + c3 + 256 * (c1 + c2 + c3 + c4) + 65536 * (c2 + c3 + c4 + c5) + 16777216 * (c3 + c4 + c5 + c6)) + ((c4 + c5 + c6 + c7) + 256 * ((c5 + c6 + c7) + 256 * ((c6 + c7) + 256 * c7))) =
    128 * (33554432 * ((c4 + c5 + c6 + c7) + 256 * ((c5 + c6 + c7) + 256 * ((c6 + c7) + 256 * c7))) + 2 * (c1 + c2 + c3 + c4) + 512 * (c2 + c3 + c4 + c5) + 131072 * (c3 + c4 + c5 + c6) + 2 * ((c5 + c6 + c7) + 256 * ((c6 + c7) + 256 * c7))) + (c0 + (c1 + (c2 + (c3 + (c4 + (c5 + (c6 + c7))))))) := by omega
theorem bdA (c0 c1 c2 : Nat) (l0 : c0 ≤ 8) (l1 : c1 ≤ 8) (l2 : c2 ≤ 8) : c0 + c1 + 256 * (c1 + c2) < 65536 := by omega
theorem bdB (a b c d : Nat) (l0 : a ≤ 32) (l1 : b ≤ 32) (l2 : c ≤ 32) (l3 : d ≤ 32) : a + 256 * b + 65536 * c + 16777216 * d < 4294967296 := by omega
theorem bdC {a b c d : Nat} (l0 : a ≤ 8) (l1 : b ≤ 8) (l2 : c ≤ 8) (l3 : d ≤ 8) : a + b + c + d ≤ 32 := by omega
theorem bdD {a b M N : Nat} (l0 : a ≤ 8) (l1 : b ≤ M) (h : 8 + 256 * M ≤ N) : a + 256 * b ≤ N := by omega
/-- Bytes of at most 8, added by shifts. -/
theorem sums (c0 c1 c2 c3 c4 c5 c6 c7 y : Nat) (l0 : c0 ≤ 8) (l1 : c1 ≤ 8) (l2 : c2 ≤ 8) (l3 : c3 ≤ 8) (l4 : c4 ≤ 8) (l5 : c5 ≤ 8) (l6 : c6 ≤ 8) (l7 : c7 ≤ 8)
    (q : y = c0 + 256 * (c1 + 256 * (c2 + 256 * (c3 + 256 * (c4 + 256 * (c5 + 256 * (c6 + 256 * c7))))))) :
    y < 1152921504606846976 ∧ (y + y / 256 + (y + y / 256) / 65536 + (y + y / 256 + (y + y / 256) / 65536) / 4294967296) % 128 = c0 + (c1 + (c2 + (c3 + (c4 + (c5 + (c6 + c7)))))) := by
  have d1 : y / 256 = c1 + 256 * (c2 + 256 * (c3 + 256 * (c4 + 256 * (c5 + 256 * (c6 + 256 * c7))))) := dv 256 c0 _ y (by rw [q]; exact Nat.add_comm _ _) (by clear q; omega)
  have e1 := eqB c0 c1 c2 c3 c4 c5 c6 c7
  rw [← q, ← d1] at e1
  have d2 := dv 65536 _ _ _ e1 (bdA c0 c1 c2 l0 l1 l2)
  have e2 := eqC c0 c1 c2 c3 c4 c5 c6 c7
  rw [← e1, ← d2] at e2
  have d3 := dv 4294967296 _ _ _ e2 (bdB _ _ _ _ (bdC l0 l1 l2 l3) (bdC l1 l2 l3 l4) (bdC l2 l3 l4 l5) (bdC l3 l4 l5 l6))
  have e3 := eqD c0 c1 c2 c3 c4 c5 c6 c7
  rw [← e2, ← d3] at e3
  refine ⟨?_, ?_⟩
  · rw [q]
    exact Nat.lt_of_le_of_lt (bdD l0 (bdD l1 (bdD l2 (bdD l3 (bdD l4 (bdD l5 (bdD l6 l7 (Nat.le_refl _)) (Nat.le_refl _)) (Nat.le_refl _)) (Nat.le_refl _)) (Nat.le_refl _)) (Nat.le_refl _)) (Nat.le_refl _)) (by decide)
  · rw [e3, Nat.mul_add_mod]
    clear d1 e1 d2 e2 d3 e3 q
    rw [Nat.mod_eq_of_lt (by omega)]

/-- The three steps in bytes, then the sums: the number of bits. -/
theorem swar (x y1 y2 y3 : Nat) (hx : x < 18446744073709551616)
    (h1 : y1 = (x / 2 &&& 6148914691236517205) + (x &&& 6148914691236517205))
    (h2 : y2 = (y1 / 4 &&& 3689348814741910323) + (y1 &&& 3689348814741910323))
    (h3 : y3 = (y2 / 16 + y2) &&& 1085102592571150095) :
    y1 < 18446744073709551616 ∧ y2 < 1152921504606846976 * 5 ∧ y3 < 1152921504606846976 ∧
    (y3 + y3 / 256 + (y3 + y3 / 256) / 65536 + (y3 + y3 / 256 + (y3 + y3 / 256) / 65536) / 4294967296) % 128 = bitsT x 64 ∧ bitsT x 64 ≤ 64 := by
  have r1 : 6148914691236517205 = rep 85 8 := by decide
  have r2 : 3689348814741910323 = rep 51 8 := by decide
  have r3 : 1085102592571150095 = rep 15 8 := by decide
  have p8 : (256 : Nat) ^ 8 = 18446744073709551616 := by decide
  rw [r1, step1 8 x (by omega)] at h1
  have b1 : y1 < 256 ^ 8 := by rw [h1]; exact mapB_lt _ dec1b _ _
  have b1' : y1 < 18446744073709551616 := by omega
  rw [r2, step2 8 y1 b1, h1, mapB_mapB _ _ dec1b] at h2
  have b2 : low4 8 y2 := by rw [h2]; exact low4_mapB _ dec2b _ _
  rw [r3, step3 8 y2 b2, h2, mapB_mapB _ _ (fun a ha => (dec2b a ha).1)] at h3
  have c : ∀ b, b < 256 → g3 (g2 (g1 b)) = bitsT b 8 ∧ g3 (g2 (g1 b)) ≤ 8 := dec3b
  have s : bitsT x 64 = bitsT (x % 256) 8 + (bitsT (x / 256 % 256) 8 + (bitsT (x / 256 / 256 % 256) 8 + (bitsT (x / 256 / 256 / 256 % 256) 8 + (bitsT (x / 256 / 256 / 256 / 256 % 256) 8 + (bitsT (x / 256 / 256 / 256 / 256 / 256 % 256) 8 + (bitsT (x / 256 / 256 / 256 / 256 / 256 / 256 % 256) 8 + (bitsT (x / 256 / 256 / 256 / 256 / 256 / 256 / 256 % 256) 8))))))) := by
    have h8 : x / 256 / 256 / 256 / 256 / 256 / 256 / 256 % 256 = x / 256 / 256 / 256 / 256 / 256 / 256 / 256 := by omega
    have b0 := bitsT_byte x 56
    have b1 := bitsT_byte (x / 256) 48
    have b2 := bitsT_byte (x / 256 / 256) 40
    have b3 := bitsT_byte (x / 256 / 256 / 256) 32
    have b4 := bitsT_byte (x / 256 / 256 / 256 / 256) 24
    have b5 := bitsT_byte (x / 256 / 256 / 256 / 256 / 256) 16
    have b6 := bitsT_byte (x / 256 / 256 / 256 / 256 / 256 / 256) 8
    rw [h8, ← b6, ← b5, ← b4, ← b3, ← b2, ← b1, ← b0]
  simp only [mapB] at h3
  obtain ⟨a0, l0⟩ := c (x % 256) (by omega)
  obtain ⟨a1, l1⟩ := c (x / 256 % 256) (by omega)
  obtain ⟨a2, l2⟩ := c (x / 256 / 256 % 256) (by omega)
  obtain ⟨a3, l3⟩ := c (x / 256 / 256 / 256 % 256) (by omega)
  obtain ⟨a4, l4⟩ := c (x / 256 / 256 / 256 / 256 % 256) (by omega)
  obtain ⟨a5, l5⟩ := c (x / 256 / 256 / 256 / 256 / 256 % 256) (by omega)
  obtain ⟨a6, l6⟩ := c (x / 256 / 256 / 256 / 256 / 256 / 256 % 256) (by omega)
  obtain ⟨a7, l7⟩ := c (x / 256 / 256 / 256 / 256 / 256 / 256 / 256 % 256) (by omega)
  have y2b : y2 < 1152921504606846976 * 5 := low4_lt _ b2
  rw [a0] at h3 l0
  rw [a1] at h3 l1
  rw [a2] at h3 l2
  rw [a3] at h3 l3
  rw [a4] at h3 l4
  rw [a5] at h3 l5
  rw [a6] at h3 l6
  rw [a7] at h3 l7
  clear a0 a1 a2 a3 a4 a5 a6 a7 h1 h2 b2 r1 r2 r3 c
  generalize bitsT (x % 256) 8 = c0 at *
  generalize bitsT (x / 256 % 256) 8 = c1 at *
  generalize bitsT (x / 256 / 256 % 256) 8 = c2 at *
  generalize bitsT (x / 256 / 256 / 256 % 256) 8 = c3 at *
  generalize bitsT (x / 256 / 256 / 256 / 256 % 256) 8 = c4 at *
  generalize bitsT (x / 256 / 256 / 256 / 256 / 256 % 256) 8 = c5 at *
  generalize bitsT (x / 256 / 256 / 256 / 256 / 256 / 256 % 256) 8 = c6 at *
  generalize bitsT (x / 256 / 256 / 256 / 256 / 256 / 256 / 256 % 256) 8 = c7 at *
  rw [s]
  clear s hx
  have q : y3 = c0 + 256 * (c1 + 256 * (c2 + 256 * (c3 + 256 * (c4 + 256 * (c5 + 256 * (c6 + 256 * c7)))))) := by omega
  clear h3
  obtain ⟨k1, k2⟩ := sums c0 c1 c2 c3 c4 c5 c6 c7 y3 l0 l1 l2 l3 l4 l5 l6 l7 q
  exact ⟨b1', y2b, k1, k2, by omega⟩
end Go.Proofs.Ytpbcpobbjoopnaa
