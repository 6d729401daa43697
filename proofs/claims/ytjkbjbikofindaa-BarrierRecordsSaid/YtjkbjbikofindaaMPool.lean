/-
  Merged: Bitset, Ones, Free, Clonep, Take, Give, Refp, RefTake, Clear, RefGive.
-/
import Derived.Lib.TrailingZeros
import Derived.Test.YtjkbjbikofindaaRows
import Derived.WalkKit
import Derived.Laws.Bits64b
import Derived.Laws.BitsLemmas
import Derived.Lib.Hide
import Derived.Test.YtjkbjbikofindaaMRef
import Derived.OwnWalk
import Derived.Laws.AppendOwnNone
import Derived.Lib.SliceRun
import Derived.Test.YtjkbjbikofindaaMVal
import Derived.StillTailTactics
import Derived.Deep.CutBlock
import Derived.Deep.DeepCutAuto
import Derived.RegionTactic
import Derived.Test.YtjkbjbikofindaaMRVal
namespace Go.Proofs.Ytjkbjbikofindaa
set_option maxRecDepth 100000

/-- The number whose bits below n are the places where p holds. -/
def setP (p : Nat → Bool) : Nat → Nat
  | 0 => 0
  | n + 1 => setP p n + if p n then 2 ^ n else 0
/-- How many places below n. -/
def cntP (p : Nat → Bool) : Nat → Nat
  | 0 => 0
  | n + 1 => cntP p n + if p n then 1 else 0
/-- These places, ascending. -/
def lstP (p : Nat → Bool) : Nat → List Nat
  | 0 => []
  | n + 1 => lstP p n ++ if p n then [n] else []

theorem lstP_length (p : Nat → Bool) : ∀ n, (lstP p n).length = cntP p n
  | 0 => rfl
  | n + 1 => by
    simp only [lstP, cntP, List.length_append, lstP_length p n]
    cases p n <;> rfl
theorem cntP_le (p : Nat → Bool) : ∀ n, cntP p n ≤ n
  | 0 => Nat.le_refl _
  | n + 1 => by
    have := cntP_le p n
    simp only [cntP]
    cases p n <;> simp <;> omega
theorem cntP_mono (p : Nat → Bool) {m n : Nat} (h : m ≤ n) : cntP p m ≤ cntP p n := by
  induction n with
  | zero => obtain rfl : m = 0 := by omega
            exact Nat.le_refl _
  | succ n ih =>
    rcases (show m ≤ n ∨ m = n + 1 by omega) with h1 | rfl
    · have := ih h1
      simp only [cntP]
      omega
    · exact Nat.le_refl _
theorem mem_lstP (p : Nat → Bool) : ∀ n x, x ∈ lstP p n ↔ x < n ∧ p x = true
  | 0, x => by simp [lstP]
  | n + 1, x => by
    simp only [lstP, List.mem_append, mem_lstP p n]
    constructor
    · rintro (⟨h1, h2⟩ | h)
      · exact ⟨by omega, h2⟩
      · by_cases e : p n = true
        · simp [e] at h; subst h; exact ⟨by omega, e⟩
        · simp [e] at h
    · rintro ⟨h1, h2⟩
      rcases (show x < n ∨ x = n by omega) with h | rfl
      · exact .inl ⟨h, h2⟩
      · right; simp [h2]
theorem setP_congr {p q : Nat → Bool} : ∀ {n : Nat}, (∀ j, j < n → p j = q j) → setP p n = setP q n
  | 0, _ => rfl
  | n + 1, h => by simp only [setP]; rw [setP_congr (n := n) (fun j hj => h j (by omega)), h n (by omega)]
theorem cntP_congr {p q : Nat → Bool} : ∀ {n : Nat}, (∀ j, j < n → p j = q j) → cntP p n = cntP q n
  | 0, _ => rfl
  | n + 1, h => by simp only [cntP]; rw [cntP_congr (n := n) (fun j hj => h j (by omega)), h n (by omega)]
theorem lstP_congr {p q : Nat → Bool} : ∀ {n : Nat}, (∀ j, j < n → p j = q j) → lstP p n = lstP q n
  | 0, _ => rfl
  | n + 1, h => by simp only [lstP]; rw [lstP_congr (n := n) (fun j hj => h j (by omega)), h n (by omega)]
theorem setP_lt (p : Nat → Bool) : ∀ n, setP p n < 2 ^ n
  | 0 => by simp [setP]
  | n + 1 => by
    have := setP_lt p n
    simp only [setP, Nat.pow_succ]
    cases p n <;> simp <;> omega
theorem setP_small (p : Nat → Bool) {n : Nat} (h : n ≤ 64) : setP p n < 18446744073709551616 :=
  Nat.lt_of_lt_of_le (setP_lt p n) (Nat.pow_le_pow_right (by decide) h)
theorem setP_or (p : Nat → Bool) (n : Nat) : setP p n ||| 2 ^ n = setP p n + 2 ^ n := by
  have := Nat.two_pow_add_eq_or_of_lt (setP_lt p n) 1
  rw [Nat.mul_one] at this
  rw [Nat.or_comm, ← this, Nat.add_comm]
theorem setP_none {p : Nat → Bool} : ∀ {n : Nat}, (∀ j, j < n → p j = false) → setP p n = 0
  | 0, _ => rfl
  | n + 1, h => by simp only [setP]; rw [setP_none (n := n) (fun j hj => h j (by omega)), h n (by omega)]; rfl
theorem cntP_none {p : Nat → Bool} : ∀ {n : Nat}, (∀ j, j < n → p j = false) → cntP p n = 0
  | 0, _ => rfl
  | n + 1, h => by simp only [cntP]; rw [cntP_none (n := n) (fun j hj => h j (by omega)), h n (by omega)]; rfl
theorem setP_zero {p : Nat → Bool} : ∀ {n : Nat}, setP p n = 0 → ∀ j, j < n → p j = false
  | 0, _, j, h => absurd h (by omega)
  | n + 1, h, j, hj => by
    simp only [setP] at h
    have hp : 0 < 2 ^ n := Nat.pow_pos (by decide)
    have h1 : p n = false := by
      cases e : p n
      · rfl
      · simp [e] at h
    rcases (show j < n ∨ j = n by omega) with h2 | rfl
    · exact setP_zero (n := n) (by omega) j h2
    · exact h1
theorem setP_testBit (p : Nat → Bool) : ∀ (n i : Nat), (setP p n).testBit i = (decide (i < n) && p i)
  | 0, i => by simp [setP]
  | n + 1, i => by
    simp only [setP]
    by_cases e : p n = true
    · rw [if_pos e, ← setP_or, Nat.testBit_or, setP_testBit p n i, Nat.testBit_two_pow]
      by_cases h : i = n
      · subst h; simp [e]
      · have h1 : ¬ n = i := fun x => h x.symm
        have h2 : (i < n + 1) = (i < n) := by apply propext; omega
        simp [h1, h2]
    · have e' : p n = false := by simpa using e
      rw [if_neg e, Nat.add_zero, setP_testBit p n i]
      by_cases h : i = n
      · subst h; simp [e']
      · have h2 : (i < n + 1) = (i < n) := by apply propext; omega
        simp [h2]

/-- The places from t on. -/
def fromP (p : Nat → Bool) (t : Nat) (f : Nat) : Bool := decide (t ≤ f) && p f

theorem lowest (p : Nat → Bool) {t n : Nat} (h : setP (fromP p t) n ≠ 0) : ∃ i, t ≤ i ∧ i < n ∧ p i = true ∧ ∀ j, t ≤ j → j < i → p j = false := by
  induction n with
  | zero => exact absurd rfl h
  | succ n ih =>
    by_cases h0 : setP (fromP p t) n = 0
    · simp only [setP, h0, Nat.zero_add] at h
      have hn : fromP p t n = true := by
        cases e : fromP p t n
        · simp [e] at h
        · rfl
      simp [fromP] at hn
      refine ⟨n, hn.1, by omega, hn.2, fun j hj hjn => ?_⟩
      have := setP_zero h0 j hjn
      simpa [fromP, hj] using this
    · obtain ⟨i, h1, h2, h3, h4⟩ := ih h0
      exact ⟨i, h1, by omega, h3, h4⟩

/-- A set from t on, at its least member i: 2^i, and what follows. -/
theorem setP_split (p : Nat → Bool) {t i : Nat} (h1 : t ≤ i) (h3 : p i = true) (h4 : ∀ j, t ≤ j → j < i → p j = false) : ∀ {n : Nat}, i < n → ∃ y, setP (fromP p t) n = 2 ^ i * (2 * y + 1) ∧ setP (fromP p (i + 1)) n = 2 ^ i * (2 * y)
  | 0, h => absurd h (by omega)
  | n + 1, h => by
    rcases (show i < n ∨ i = n by omega) with h2 | rfl
    · obtain ⟨y, e1, e2⟩ := setP_split p h1 h3 h4 (n := n) h2
      simp only [setP, e1, e2]
      have ha : fromP p t n = p n := by simp [fromP]; intro; omega
      have hb : fromP p (i + 1) n = p n := by simp [fromP]; intro; omega
      rw [ha, hb]
      by_cases e : p n = true
      · obtain ⟨d, hd⟩ : ∃ d, n = i + (d + 1) := ⟨n - i - 1, by omega⟩
        refine ⟨y + 2 ^ d, ?_, ?_⟩
        · rw [if_pos e, hd, Nat.pow_add, Nat.pow_succ, ← Nat.mul_add]; congr 1; omega
        · rw [if_pos e, hd, Nat.pow_add, Nat.pow_succ, ← Nat.mul_add]; congr 1; omega
      · exact ⟨y, by rw [if_neg e, Nat.add_zero], by rw [if_neg e, Nat.add_zero]⟩
    · refine ⟨0, ?_, ?_⟩
      · have ha : fromP p t i = true := by simp [fromP, h1, h3]
        have e0 : setP (fromP p t) i = 0 := setP_none (fun j hj => by
          by_cases e : t ≤ j
          · simp [fromP, h4 j e hj]
          · simp [fromP, e])
        simp only [setP]; rw [if_pos ha, e0]; omega
      · have hb : fromP p (i + 1) i = false := by simp [fromP]; omega
        have e0 : setP (fromP p (i + 1)) i = 0 := setP_none (fun j hj => by
          have : ¬ i + 1 ≤ j := by omega
          simp [fromP, this])
        simp only [setP]; rw [hb, e0]; simp
theorem ctzFrom_pow : ∀ (f i y : Nat), i < f → Lib.ctzFrom f (2 ^ i * (2 * y + 1)) = i
  | 0, i, y, h => absurd h (by omega)
  | f + 1, 0, y, _ => by
    unfold Lib.ctzFrom
    rw [if_pos (by omega)]
  | f + 1, i + 1, y, h => by
    have e : 2 ^ (i + 1) * (2 * y + 1) = 2 * (2 ^ i * (2 * y + 1)) := by rw [Nat.pow_succ, Nat.mul_comm (2 ^ i) 2, Nat.mul_assoc]
    unfold Lib.ctzFrom
    rw [e, if_neg (by omega), Nat.mul_div_cancel_left _ (by decide), ctzFrom_pow f i y (by omega)]
    omega
theorem ctz_pow (i y : Nat) (h : i < 64) : Lib.ctz 64 (2 ^ i * (2 * y + 1)) = i := by
  unfold Lib.ctz
  have : 2 ^ i * (2 * y + 1) ≠ 0 := by
    have : 0 < 2 ^ i := Nat.pow_pos (by decide)
    have := Nat.mul_pos this (show 0 < 2 * y + 1 by omega)
    omega
  rw [if_neg this]
  exact ctzFrom_pow 64 i y h

theorem and_split (k a b c d : Nat) (ha : a < 2 ^ k) (hc : c < 2 ^ k) : (2 ^ k * b + a) &&& (2 ^ k * d + c) = 2 ^ k * (b &&& d) + (a &&& c) := by
  have hac : a &&& c < 2 ^ k := Nat.and_lt_two_pow _ hc
  apply Nat.eq_of_testBit_eq
  intro i
  rw [Nat.testBit_and, Nat.testBit_two_pow_mul_add _ ha, Nat.testBit_two_pow_mul_add _ hc, Nat.testBit_two_pow_mul_add _ hac]
  by_cases h : i < k
  · simp [h]
  · simp [h]
/-- Taking away 1 and keeping what both have: the lowest bit falls. -/
theorem and_pred (i y : Nat) : (2 ^ i * (2 * y + 1)) &&& (2 ^ i * (2 * y + 1) - 1) = 2 ^ i * (2 * y) := by
  have hp : 0 < 2 ^ i := Nat.pow_pos (by decide)
  have e1 : 2 ^ i * (2 * y + 1) = 2 ^ (i + 1) * y + 2 ^ i := by rw [Nat.pow_succ, Nat.mul_add, Nat.mul_one, Nat.mul_assoc]
  have e2 : 2 ^ i * (2 * y + 1) - 1 = 2 ^ (i + 1) * y + (2 ^ i - 1) := by omega
  have hs : 2 ^ (i + 1) = 2 * 2 ^ i := by rw [Nat.pow_succ, Nat.mul_comm]
  rw [e2, e1, and_split (i + 1) (2 ^ i) y (2 ^ i - 1) y (by omega) (by omega), Nat.and_self]
  have e3 : 2 ^ i &&& (2 ^ i - 1) = 0 := by
    apply Nat.eq_of_testBit_eq
    intro j
    rw [Nat.testBit_and, Nat.testBit_two_pow, Nat.zero_testBit, Nat.testBit_two_pow_sub_one]
    by_cases h : i = j
    · subst h; simp
    · simp [h]
  rw [e3, Nat.pow_succ, Nat.mul_assoc, Nat.add_zero]
theorem lstP_next (p : Nat → Bool) {t i : Nat} (h1 : t ≤ i) (h3 : p i = true) (h4 : ∀ j, t ≤ j → j < i → p j = false) : lstP p (i + 1) = lstP p t ++ [i] := by
  have key : ∀ m, t ≤ m → m ≤ i → lstP p m = lstP p t := by
    intro m
    induction m with
    | zero => intro a b; obtain rfl : t = 0 := by omega
              rfl
    | succ m ih =>
      intro a b
      rcases (show t ≤ m ∨ t = m + 1 by omega) with h | rfl
      · simp only [lstP]
        rw [ih h (by omega), h4 m h (by omega)]
        simp
      · rfl
  simp only [lstP]
  rw [key i h1 (Nat.le_refl _), if_pos h3]
theorem cntP_next (p : Nat → Bool) {t i : Nat} (h1 : t ≤ i) (h3 : p i = true) (h4 : ∀ j, t ≤ j → j < i → p j = false) : cntP p (i + 1) = cntP p t + 1 := by
  rw [← lstP_length, ← lstP_length, lstP_next p h1 h3 h4]
  simp
theorem lstP_done (p : Nat → Bool) {t n : Nat} (h : t ≤ n) (h0 : setP (fromP p t) n = 0) : lstP p n = lstP p t := by
  have hz := setP_zero h0
  clear h0
  induction n with
  | zero => obtain rfl : t = 0 := by omega
            rfl
  | succ n ih =>
    rcases (show t ≤ n ∨ t = n + 1 by omega) with h2 | rfl
    · have h5 := hz n (by omega)
      simp [fromP, h2] at h5
      simp only [lstP]
      rw [ih h2 (fun j hj => hz j (by omega)), h5]
      simp
    · rfl

/-! How many bits of a word are set: in bytes. -/
def bitsT (x : Nat) : Nat → Nat
  | 0 => 0
  | k + 1 => bitsT x k + if x.testBit k then 1 else 0
theorem bitsT_setP (p : Nat → Bool) (n : Nat) : ∀ k, bitsT (setP p n) k = cntP (fun i => decide (i < n) && p i) k
  | 0 => rfl
  | k + 1 => by simp only [bitsT, cntP, bitsT_setP p n k, setP_testBit]
theorem cntP_cut (p : Nat → Bool) (n : Nat) : ∀ d, cntP (fun i => decide (i < n) && p i) (n + d) = cntP p n
  | 0 => cntP_congr (fun j hj => by have h : j < n := hj; simp [h])
  | d + 1 => by
    have h : ¬ n + d < n := by omega
    rw [← Nat.add_assoc]
    simp only [cntP, cntP_cut p n d]
    simp [h]
theorem bitsT_all (p : Nat → Bool) {n : Nat} (h : n ≤ 64) : bitsT (setP p n) 64 = cntP p n := by
  obtain ⟨d, hd⟩ := Nat.le.dest h
  rw [bitsT_setP, ← hd, cntP_cut]
theorem bitsT_byte (x : Nat) : ∀ k, bitsT x (8 + k) = bitsT (x % 256) 8 + bitsT (x / 256) k
  | 0 => by
    have e : ∀ i, i < 8 → (x % 256).testBit i = x.testBit i := fun i hi => by
      rw [show 256 = 2 ^ 8 by rfl, Nat.testBit_mod_two_pow]; simp [hi]
    simp only [bitsT, Nat.add_zero]
    rw [e 0 (by decide), e 1 (by decide), e 2 (by decide), e 3 (by decide), e 4 (by decide), e 5 (by decide), e 6 (by decide), e 7 (by decide)]
  | k + 1 => by
    show bitsT x (8 + k) + (if x.testBit (8 + k) then 1 else 0) = bitsT (x % 256) 8 + (bitsT (x / 256) k + if (x / 256).testBit k then 1 else 0)
    rw [bitsT_byte x k]
    have : (x / 256).testBit k = x.testBit (8 + k) := by
      rw [show 256 = 2 ^ 8 by rfl, Nat.testBit_div_two_pow, Nat.add_comm]
    rw [this]
    omega

def rep (c : Nat) : Nat → Nat
  | 0 => 0
  | k + 1 => 256 * rep c k + c
def mapB (g : Nat → Nat) : Nat → Nat → Nat
  | 0, _ => 0
  | k + 1, x => 256 * mapB g k (x / 256) + g (x % 256)
def sumB (g : Nat → Nat) : Nat → Nat → Nat
  | 0, _ => 0
  | k + 1, x => sumB g k (x / 256) + g (x % 256)
def g1 (b : Nat) : Nat := (b / 2 &&& 85) + (b &&& 85)
def g2 (b : Nat) : Nat := (b / 4 &&& 51) + (b &&& 51)
def g3 (b : Nat) : Nat := (b / 16 + b) &&& 15

theorem dec1 : ∀ a, a < 256 → ∀ e, e < 2 → (a / 2 + 128 * e) &&& 85 = a / 2 &&& 85 := by decide +kernel
theorem dec2 : ∀ a, a < 256 → ∀ e, e < 4 → (a / 4 + 64 * e) &&& 51 = a / 4 &&& 51 := by decide +kernel
theorem dec3 : ∀ a, a < 256 → ∀ e, e < 5 → a % 16 ≤ 4 → a / 16 ≤ 4 → (a / 16 + 16 * e + a) &&& 15 = (a / 16 + a) &&& 15 := by decide +kernel
theorem dec1b : ∀ a, a < 256 → g1 a < 256 := by decide +kernel
theorem dec2b : ∀ a, a < 256 → g2 (g1 a) < 256 ∧ g2 (g1 a) % 16 ≤ 4 ∧ g2 (g1 a) / 16 ≤ 4 := by decide +kernel
theorem dec3b : ∀ a, a < 256 → g3 (g2 (g1 a)) = bitsT a 8 ∧ g3 (g2 (g1 a)) ≤ 8 := by decide +kernel

theorem split256 (a b c d : Nat) (ha : a < 256) (hc : c < 256) : (256 * b + a) &&& (256 * d + c) = 256 * (b &&& d) + (a &&& c) := and_split 8 a b c d ha hc

theorem step1 : ∀ k x, x < 256 ^ k → (x / 2 &&& rep 85 k) + (x &&& rep 85 k) = mapB g1 k x
  | 0, x, h => by simp [rep, mapB]
  | k + 1, x, h => by
    have hy : x / 256 < 256 ^ k := by rw [Nat.pow_succ] at h; omega
    have ih := step1 k (x / 256) hy
    have e1 : x = 256 * (x / 256) + x % 256 := by omega
    have e2 : x / 2 = 256 * (x / 256 / 2) + (x % 256 / 2 + 128 * (x / 256 % 2)) := by omega
    simp only [rep, mapB]
    have d1 := dec1 (x % 256) (by omega) (x / 256 % 2) (by omega)
    have s1 : x / 2 &&& (256 * rep 85 k + 85) = 256 * (x / 256 / 2 &&& rep 85 k) + (x % 256 / 2 &&& 85) := by
      rw [e2, split256 _ _ _ _ (by omega) (by omega), d1]
    have s2 : x &&& (256 * rep 85 k + 85) = 256 * (x / 256 &&& rep 85 k) + (x % 256 &&& 85) := by
      conv => lhs; rw [e1]
      rw [split256 _ _ _ _ (by omega) (by omega)]
    rw [s1, s2, ← ih]
    unfold g1
    omega
theorem step2 : ∀ k x, x < 256 ^ k → (x / 4 &&& rep 51 k) + (x &&& rep 51 k) = mapB g2 k x
  | 0, x, h => by simp [rep, mapB]
  | k + 1, x, h => by
    have hy : x / 256 < 256 ^ k := by rw [Nat.pow_succ] at h; omega
    have ih := step2 k (x / 256) hy
    have e1 : x = 256 * (x / 256) + x % 256 := by omega
    have e2 : x / 4 = 256 * (x / 256 / 4) + (x % 256 / 4 + 64 * (x / 256 % 4)) := by omega
    simp only [rep, mapB]
    have d1 := dec2 (x % 256) (by omega) (x / 256 % 4) (by omega)
    have s1 : x / 4 &&& (256 * rep 51 k + 51) = 256 * (x / 256 / 4 &&& rep 51 k) + (x % 256 / 4 &&& 51) := by
      rw [e2, split256 _ _ _ _ (by omega) (by omega), d1]
    have s2 : x &&& (256 * rep 51 k + 51) = 256 * (x / 256 &&& rep 51 k) + (x % 256 &&& 51) := by
      conv => lhs; rw [e1]
      rw [split256 _ _ _ _ (by omega) (by omega)]
    rw [s1, s2, ← ih]
    unfold g2
    omega
def low4 : Nat → Nat → Prop
  | 0, x => x = 0
  | k + 1, x => x % 256 % 16 ≤ 4 ∧ x % 256 / 16 ≤ 4 ∧ low4 k (x / 256)
theorem low4_mod : ∀ k x, low4 k x → x % 16 ≤ 4
  | 0, x, h => by rw [h]; decide
  | k + 1, x, h => by have := h.1; omega
theorem low4_le : ∀ k x, low4 k x → x ≤ rep 68 k
  | 0, x, h => by rw [h]; exact Nat.zero_le _
  | k + 1, x, ⟨h1, h2, h3⟩ => by
    have := low4_le k _ h3
    simp only [rep]
    omega
theorem low4_lt (x : Nat) (h : low4 8 x) : x < 1152921504606846976 * 5 := Nat.lt_of_le_of_lt (low4_le 8 x h) (by decide)
theorem step3 : ∀ k x, low4 k x → (x / 16 + x) &&& rep 15 k = mapB g3 k x
  | 0, x, h => by simp [rep, mapB]
  | k + 1, x, ⟨h1, h2, h3⟩ => by
    have ih := step3 k (x / 256) h3
    have hm := low4_mod k _ h3
    have e2 : x / 16 + x = 256 * (x / 256 / 16 + x / 256) + (x % 256 / 16 + 16 * (x / 256 % 16) + x % 256) := by omega
    simp only [rep, mapB]
    have d1 := dec3 (x % 256) (by omega) (x / 256 % 16) (by omega) h1 h2
    rw [e2, split256 _ _ _ _ (by omega) (by omega), d1, ih]
    rfl
theorem mapB_lt (g : Nat → Nat) (hg : ∀ a, a < 256 → g a < 256) : ∀ k x, mapB g k x < 256 ^ k
  | 0, x => by simp [mapB]
  | k + 1, x => by
    have := mapB_lt g hg k (x / 256)
    have := hg (x % 256) (by omega)
    simp only [mapB, Nat.pow_succ]
    omega
theorem mapB_mapB (g h : Nat → Nat) (hh : ∀ a, a < 256 → h a < 256) : ∀ k x, mapB g k (mapB h k x) = mapB (fun a => g (h a)) k x
  | 0, x => rfl
  | k + 1, x => by
    have := hh (x % 256) (by omega)
    simp only [mapB]
    have e1 : (256 * mapB h k (x / 256) + h (x % 256)) / 256 = mapB h k (x / 256) := by omega
    have e2 : (256 * mapB h k (x / 256) + h (x % 256)) % 256 = h (x % 256) := by omega
    rw [e1, e2, mapB_mapB g h hh k]
theorem low4_mapB (g : Nat → Nat) (hg : ∀ a, a < 256 → g a < 256 ∧ g a % 16 ≤ 4 ∧ g a / 16 ≤ 4) : ∀ k x, low4 k (mapB g k x)
  | 0, x => rfl
  | k + 1, x => by
    obtain ⟨a, b, c⟩ := hg (x % 256) (by omega)
    have e1 : (256 * mapB g k (x / 256) + g (x % 256)) / 256 = mapB g k (x / 256) := by omega
    have e2 : (256 * mapB g k (x / 256) + g (x % 256)) % 256 = g (x % 256) := by omega
    refine ⟨?_, ?_, ?_⟩
    · simp only [mapB]; rw [e2]; exact b
    · simp only [mapB]; rw [e2]; exact c
    · simp only [mapB]; rw [e1]; exact low4_mapB g hg k _

theorem dv (m a b y : Nat) (h : y = m * b + a) (ha : a < m) : y / m = b := by
  subst h
  rw [Nat.mul_add_div (by omega), Nat.div_eq_of_lt ha, Nat.add_zero]
theorem eqB (c0 c1 c2 c3 c4 c5 c6 c7 : Nat) : c0 + 256 * (c1 + 256 * (c2 + 256 * (c3 + 256 * (c4 + 256 * (c5 + 256 * (c6 + 256 * c7)))))) + (c1 + 256 * (c2 + 256 * (c3 + 256 * (c4 + 256 * (c5 + 256 * (c6 + 256 * c7)))))) =
    65536 * ((c2 + c3) + 256 * ((c3 + c4) + 256 * ((c4 + c5) + 256 * ((c5 + c6) + 256 * ((c6 + c7) + 256 * c7))))) + (c0 + c1 + 256 * (c1 + c2)) := by omega
theorem eqC (c0 c1 c2 c3 c4 c5 c6 c7 : Nat) : 65536 * ((c2 + c3) + 256 * ((c3 + c4) + 256 * ((c4 + c5) + 256 * ((c5 + c6) + 256 * ((c6 + c7) + 256 * c7))))) + (c0 + c1 + 256 * (c1 + c2)) + ((c2 + c3) + 256 * ((c3 + c4) + 256 * ((c4 + c5) + 256 * ((c5 + c6) + 256 * ((c6 + c7) + 256 * c7))))) =
    4294967296 * ((c4 + c5 + c6 + c7) + 256 * ((c5 + c6 + c7) + 256 * ((c6 + c7) + 256 * c7))) + (c0 + c1 + c2 + c3 + 256 * (c1 + c2 + c3 + c4) + 65536 * (c2 + c3 + c4 + c5) + 16777216 * (c3 + c4 + c5 + c6)) := by omega
theorem eqD (c0 c1 c2 c3 c4 c5 c6 c7 : Nat) : 4294967296 * ((c4 + c5 + c6 + c7) + 256 * ((c5 + c6 + c7) + 256 * ((c6 + c7) + 256 * c7))) + (c0 + c1 + c2 + c3 + 256 * (c1 + c2 + c3 + c4) + 65536 * (c2 + c3 + c4 + c5) + 16777216 * (c3 + c4 + c5 + c6)) + ((c4 + c5 + c6 + c7) + 256 * ((c5 + c6 + c7) + 256 * ((c6 + c7) + 256 * c7))) =
    128 * (33554432 * ((c4 + c5 + c6 + c7) + 256 * ((c5 + c6 + c7) + 256 * ((c6 + c7) + 256 * c7))) + 2 * (c1 + c2 + c3 + c4) + 512 * (c2 + c3 + c4 + c5) + 131072 * (c3 + c4 + c5 + c6) + 2 * ((c5 + c6 + c7) + 256 * ((c6 + c7) + 256 * c7))) + (c0 + (c1 + (c2 + (c3 + (c4 + (c5 + (c6 + c7))))))) := by omega
theorem bdA (c0 c1 c2 : Nat) (l0 : c0 ≤ 8) (l1 : c1 ≤ 8) (l2 : c2 ≤ 8) : c0 + c1 + 256 * (c1 + c2) < 65536 := by omega
theorem bdB (a b c d : Nat) (l0 : a ≤ 32) (l1 : b ≤ 32) (l2 : c ≤ 32) (l3 : d ≤ 32) : a + 256 * b + 65536 * c + 16777216 * d < 4294967296 := by omega
theorem bdC {a b c d : Nat} (l0 : a ≤ 8) (l1 : b ≤ 8) (l2 : c ≤ 8) (l3 : d ≤ 8) : a + b + c + d ≤ 32 := by omega
theorem bdD {a b M N : Nat} (l0 : a ≤ 8) (l1 : b ≤ M) (h : 8 + 256 * M ≤ N) : a + 256 * b ≤ N := by omega
/-- Bytes of at most 8, added by shifts. -/
theorem sums (c0 c1 c2 c3 c4 c5 c6 c7 y : Nat) (l0 : c0 ≤ 8) (l1 : c1 ≤ 8) (l2 : c2 ≤ 8) (l3 : c3 ≤ 8) (l4 : c4 ≤ 8) (l5 : c5 ≤ 8) (l6 : c6 ≤ 8) (l7 : c7 ≤ 8)
    (q : y = c0 + 256 * (c1 + 256 * (c2 + 256 * (c3 + 256 * (c4 + 256 * (c5 + 256 * (c6 + 256 * c7))))))) :
    y < 1152921504606846976 ∧ (y + y / 256 + (y + y / 256) / 65536 + (y + y / 256 + (y + y / 256) / 65536) / 4294967296) % 128 = c0 + (c1 + (c2 + (c3 + (c4 + (c5 + (c6 + c7)))))) := by
  have d1 : y / 256 = c1 + 256 * (c2 + 256 * (c3 + 256 * (c4 + 256 * (c5 + 256 * (c6 + 256 * c7))))) := dv 256 c0 _ y (by rw [q]; exact Nat.add_comm _ _) (by clear q; omega)
  have e1 := eqB c0 c1 c2 c3 c4 c5 c6 c7
  rw [← q, ← d1] at e1
  have d2 := dv 65536 _ _ _ e1 (bdA c0 c1 c2 l0 l1 l2)
  have e2 := eqC c0 c1 c2 c3 c4 c5 c6 c7
  rw [← e1, ← d2] at e2
  have d3 := dv 4294967296 _ _ _ e2 (bdB _ _ _ _ (bdC l0 l1 l2 l3) (bdC l1 l2 l3 l4) (bdC l2 l3 l4 l5) (bdC l3 l4 l5 l6))
  have e3 := eqD c0 c1 c2 c3 c4 c5 c6 c7
  rw [← e2, ← d3] at e3
  refine ⟨?_, ?_⟩
  · rw [q]
    exact Nat.lt_of_le_of_lt (bdD l0 (bdD l1 (bdD l2 (bdD l3 (bdD l4 (bdD l5 (bdD l6 l7 (Nat.le_refl _)) (Nat.le_refl _)) (Nat.le_refl _)) (Nat.le_refl _)) (Nat.le_refl _)) (Nat.le_refl _)) (Nat.le_refl _)) (by decide)
  · rw [e3, Nat.mul_add_mod]
    clear d1 e1 d2 e2 d3 e3 q
    rw [Nat.mod_eq_of_lt (by omega)]

/-- The three steps in bytes, then the sums: the number of bits. -/
theorem swar (x y1 y2 y3 : Nat) (hx : x < 18446744073709551616)
    (h1 : y1 = (x / 2 &&& 6148914691236517205) + (x &&& 6148914691236517205))
    (h2 : y2 = (y1 / 4 &&& 3689348814741910323) + (y1 &&& 3689348814741910323))
    (h3 : y3 = (y2 / 16 + y2) &&& 1085102592571150095) :
    y1 < 18446744073709551616 ∧ y2 < 1152921504606846976 * 5 ∧ y3 < 1152921504606846976 ∧
    (y3 + y3 / 256 + (y3 + y3 / 256) / 65536 + (y3 + y3 / 256 + (y3 + y3 / 256) / 65536) / 4294967296) % 128 = bitsT x 64 ∧ bitsT x 64 ≤ 64 := by
  have r1 : 6148914691236517205 = rep 85 8 := by decide
  have r2 : 3689348814741910323 = rep 51 8 := by decide
  have r3 : 1085102592571150095 = rep 15 8 := by decide
  have p8 : (256 : Nat) ^ 8 = 18446744073709551616 := by decide
  rw [r1, step1 8 x (by omega)] at h1
  have b1 : y1 < 256 ^ 8 := by rw [h1]; exact mapB_lt _ dec1b _ _
  have b1' : y1 < 18446744073709551616 := by omega
  rw [r2, step2 8 y1 b1, h1, mapB_mapB _ _ dec1b] at h2
  have b2 : low4 8 y2 := by rw [h2]; exact low4_mapB _ dec2b _ _
  rw [r3, step3 8 y2 b2, h2, mapB_mapB _ _ (fun a ha => (dec2b a ha).1)] at h3
  have c : ∀ b, b < 256 → g3 (g2 (g1 b)) = bitsT b 8 ∧ g3 (g2 (g1 b)) ≤ 8 := dec3b
  have s : bitsT x 64 = bitsT (x % 256) 8 + (bitsT (x / 256 % 256) 8 + (bitsT (x / 256 / 256 % 256) 8 + (bitsT (x / 256 / 256 / 256 % 256) 8 + (bitsT (x / 256 / 256 / 256 / 256 % 256) 8 + (bitsT (x / 256 / 256 / 256 / 256 / 256 % 256) 8 + (bitsT (x / 256 / 256 / 256 / 256 / 256 / 256 % 256) 8 + (bitsT (x / 256 / 256 / 256 / 256 / 256 / 256 / 256 % 256) 8))))))) := by
    have h8 : x / 256 / 256 / 256 / 256 / 256 / 256 / 256 % 256 = x / 256 / 256 / 256 / 256 / 256 / 256 / 256 := by omega
    have b0 := bitsT_byte x 56
    have b1 := bitsT_byte (x / 256) 48
    have b2 := bitsT_byte (x / 256 / 256) 40
    have b3 := bitsT_byte (x / 256 / 256 / 256) 32
    have b4 := bitsT_byte (x / 256 / 256 / 256 / 256) 24
    have b5 := bitsT_byte (x / 256 / 256 / 256 / 256 / 256) 16
    have b6 := bitsT_byte (x / 256 / 256 / 256 / 256 / 256 / 256) 8
    rw [h8, ← b6, ← b5, ← b4, ← b3, ← b2, ← b1, ← b0]
  simp only [mapB] at h3
  obtain ⟨a0, l0⟩ := c (x % 256) (by omega)
  obtain ⟨a1, l1⟩ := c (x / 256 % 256) (by omega)
  obtain ⟨a2, l2⟩ := c (x / 256 / 256 % 256) (by omega)
  obtain ⟨a3, l3⟩ := c (x / 256 / 256 / 256 % 256) (by omega)
  obtain ⟨a4, l4⟩ := c (x / 256 / 256 / 256 / 256 % 256) (by omega)
  obtain ⟨a5, l5⟩ := c (x / 256 / 256 / 256 / 256 / 256 % 256) (by omega)
  obtain ⟨a6, l6⟩ := c (x / 256 / 256 / 256 / 256 / 256 / 256 % 256) (by omega)
  obtain ⟨a7, l7⟩ := c (x / 256 / 256 / 256 / 256 / 256 / 256 / 256 % 256) (by omega)
  have y2b : y2 < 1152921504606846976 * 5 := low4_lt _ b2
  rw [a0] at h3 l0
  rw [a1] at h3 l1
  rw [a2] at h3 l2
  rw [a3] at h3 l3
  rw [a4] at h3 l4
  rw [a5] at h3 l5
  rw [a6] at h3 l6
  rw [a7] at h3 l7
  clear a0 a1 a2 a3 a4 a5 a6 a7 h1 h2 b2 r1 r2 r3 c
  generalize bitsT (x % 256) 8 = c0 at *
  generalize bitsT (x / 256 % 256) 8 = c1 at *
  generalize bitsT (x / 256 / 256 % 256) 8 = c2 at *
  generalize bitsT (x / 256 / 256 / 256 % 256) 8 = c3 at *
  generalize bitsT (x / 256 / 256 / 256 / 256 % 256) 8 = c4 at *
  generalize bitsT (x / 256 / 256 / 256 / 256 / 256 % 256) 8 = c5 at *
  generalize bitsT (x / 256 / 256 / 256 / 256 / 256 / 256 % 256) 8 = c6 at *
  generalize bitsT (x / 256 / 256 / 256 / 256 / 256 / 256 / 256 % 256) 8 = c7 at *
  rw [s]
  clear s hx
  have q : y3 = c0 + 256 * (c1 + 256 * (c2 + 256 * (c3 + 256 * (c4 + 256 * (c5 + 256 * (c6 + 256 * c7)))))) := by omega
  clear h3
  obtain ⟨k1, k2⟩ := sums c0 c1 c2 c3 c4 c5 c6 c7 y3 l0 l1 l2 l3 l4 l5 l6 l7 q
  exact ⟨b1', y2b, k1, k2, by omega⟩
end Go.Proofs.Ytjkbjbikofindaa

namespace Go.Proofs.Ytjkbjbikofindaa
set_option maxRecDepth 100000
open Go.RowKit
set_option linter.unusedVariables false

theorem tz_key (x a : Nat) (hx : x < 18446744073709551616) (hx0 : x ≠ 0) (hlow : x &&& (18446744073709551616 - x) = a) :
    IntKind.u64.wrap (bits BinOp.and IntKind.u64 (x : Int) (IntKind.u64.wrap (-(x : Int))) * 285870213051353865) / 288230376151711744 = ((a * 285870213051353865 % 18446744073709551616 / 288230376151711744 : Nat) : Int) := by
  have e1 : IntKind.u64.wrap (-(x : Int)) = ((18446744073709551616 - x : Nat) : Int) := by rw [IntKind.wrap_u64]; omega
  rw [e1, bits_and_u64_nat x _ hx (by omega), hlow, IntKind.wrap_u64]
  omega
theorem and_127 (y : Nat) (h : y < 9223372036854775808) : bits BinOp.and IntKind.i64 (y : Int) 127 = ((y % 128 : Nat) : Int) := by
  have h1 : (BitVec.ofInt 64 (y : Int)).toNat = y := by
    rw [BitVec.ofInt_natCast, BitVec.toNat_ofNat]; exact Nat.mod_eq_of_lt (by omega)
  have h2 : (BitVec.ofInt 64 (127 : Int)).toNat = 127 := by decide
  show IntKind.i64.wrap ((BitVec.ofInt 64 (y : Int) &&& BitVec.ofInt 64 (127 : Int)).toNat : Int) = _
  rw [BitVec.toNat_and, h1, h2, show (127 : Nat) = 2 ^ 7 - 1 by rfl, Nat.and_two_pow_sub_one_eq_mod, IntKind.wrap_i64]
  omega
end Go.Proofs.Ytjkbjbikofindaa

namespace Go.Proofs.Ytjkbjbikofindaa
open Go.RowKit
set_option maxRecDepth 100000
set_option linter.unusedVariables false

/-- Whether frame f has the owner o. -/
def owB (F : Nat → Fr) (o : Int) (f : Nat) : Bool := decide ((F f).ow = o)
theorem owB_yes {F : Nat → Fr} {o : Int} {f : Nat} (h : (F f).ow = o) : owB F o f = true := decide_eq_true h
theorem owB_no {F : Nat → Fr} {o : Int} {f : Nat} (h : ¬ (F f).ow = o) : owB F o f = false := decide_eq_false h

theorem or_step (p : Nat → Bool) (t : Nat) (h : t < 64) : bits BinOp.or IntKind.u64 ((setP p t : Nat) : Int) (IntKind.u64.wrap (2 ^ t)) = ((setP p t + 2 ^ t : Nat) : Int) := by
  have h1 : 2 ^ t < 18446744073709551616 := Nat.lt_of_lt_of_le (Nat.pow_lt_pow_right (by decide) h) (Nat.le_refl (2 ^ 64))
  have e : IntKind.u64.wrap ((2 : Int) ^ t) = ((2 ^ t : Nat) : Int) := by
    rw [show ((2 : Int) ^ t) = ((2 ^ t : Nat) : Int) by simp, IntKind.wrap_u64]
    generalize 2 ^ t = z at h1
    omega
  rw [e, bits_or_u64_nat _ _ (setP_small p (by omega)) h1, setP_or]

/-- The n numbers of the slice at A (capacity c) are f 0, f 1, ..; the block that holds them lies below B. -/
def Nums (w : World) (B : Nat) (A : Option Addr) (n c : Nat) (f : Nat → Int) : Prop :=
  n ≤ c ∧ c ≤ maxLen ∧ (A = none → c = 0) ∧
    (0 < n → ∃ b o, A = some ⟨b, o, none⟩ ∧ b < B ∧ ∀ j, j < n → w.cell? ⟨b, o + j, none⟩ = some (.int .i64 (f j)))
section
variable {w w' : World} {B base n c : Nat} {A : Option Addr} {f f' : Nat → Int}
theorem Nums.le (h : Nums w B A n c f) : n ≤ c := h.1
theorem Nums.at_ (h : Nums w B A n c f) (k : Nat) (hk : k < n) : ∃ b o, A = some ⟨b, o, none⟩ ∧ b < B ∧ w.cell? ⟨b, o + k, none⟩ = some (.int .i64 (f k)) := by
  obtain ⟨b, o, hA, hb, hc⟩ := h.2.2.2 (by omega)
  exact ⟨b, o, hA, hb, hc k hk⟩
theorem Nums.keep (h : Nums w B A n c f) (hk : ∀ b o, b < B → w'.cell? ⟨b, o, none⟩ = w.cell? ⟨b, o, none⟩) : Nums w' B A n c f := by
  refine ⟨h.1, h.2.1, h.2.2.1, fun hn => ?_⟩
  obtain ⟨b, o, hA, hb, hc⟩ := h.2.2.2 hn
  exact ⟨b, o, hA, hb, fun j hj => (hk _ _ hb).trans (hc j hj)⟩
theorem Nums.below (h : Nums w B A n c f) (hb : Below B w w') : Nums w' B A n c f := h.keep fun _ _ hp => hb.cell hp
theorem Nums.more {B' : Nat} (h : Nums w B A n c f) (hB : B ≤ B') : Nums w B' A n c f := by
  refine ⟨h.1, h.2.1, h.2.2.1, fun hn => ?_⟩
  obtain ⟨b, o, hA, hb, hc⟩ := h.2.2.2 hn
  exact ⟨b, o, hA, by omega, hc⟩
theorem Nums.next (h : Nums w w.heap.size A n c f) (hb : Below w.heap.size w w') : Nums w' w'.heap.size A n c f := (h.below hb).more hb.size
theorem Nums.congr (h : Nums w B A n c f) (e : ∀ j, j < n → f j = f' j) : Nums w B A n c f' := by
  refine ⟨h.1, h.2.1, h.2.2.1, fun hn => ?_⟩
  obtain ⟨b, o, hA, hb, hc⟩ := h.2.2.2 hn
  exact ⟨b, o, hA, hb, fun j hj => by rw [← e j hj]; exact hc j hj⟩
theorem Nums.nil (w : World) (B : Nat) (f : Nat → Int) : Nums w B none 0 0 f := ⟨by simp, by simp, fun _ => rfl, fun h => absurd h (by omega)⟩
end
def numL (l : List Nat) : List Value := l.map fun (x : Nat) => .int .i64 (x : Int)
/-- A list's members as a function of the place. -/
def numF (l : List Nat) (j : Nat) : Int := ((l.getD j 0 : Nat) : Int)
theorem nums_of_row {w : World} {base : Nat} {v : Value} {n : Nat} {l : List Nat} (h : w.ownsRow base 3 1 v n (numL l)) :
    ∃ A c, v = .slice A n c ∧ Nums w w.heap.size A n c (numF l) ∧ n = l.length := by
  obtain ⟨hl, h⟩ := h
  have hn : n = l.length := by simpa [numL] using hl.symm
  rcases h with ⟨rfl, rfl⟩ | ⟨g, cap, cur, rfl, hb, hg, hc, hm, hs, ht⟩
  · exact ⟨none, 0, rfl, Nums.nil _ _ _, hn⟩
  · refine ⟨some ⟨g, 0, none⟩, cap, rfl, ⟨hc, hm, (fun e => by cases e), fun _ => ⟨g, 0, rfl, blk_lt hg, fun j hj => ?_⟩⟩, hn⟩
    rw [cell_row hg, Nat.zero_add]
    have h0 : (numL l)[j]? = some (.int .i64 (numF l j)) := by
      have : j < l.length := by omega
      simp [numL, numF, this]
    rw [← ht, List.getElem?_take, if_pos (by omega)] at h0
    simpa using h0
/-- A slice of the numbers of a list, made by the call. -/
def GivesNums (l : List Nat) (w : World) (e : Ending) (w' : World) : Prop :=
  ∃ A c, e = .returned (.slice A l.length c) ∧ Nums w' w'.heap.size A l.length c (numF l) ∧ Below w.heap.size w w'
/-- The same, and what is more: its block is new. -/
def GivesNew (l : List Nat) (w : World) (e : Ending) (w' : World) : Prop :=
  ∃ A c, e = .returned (.slice A l.length c) ∧ Nums w' w'.heap.size A l.length c (numF l) ∧ Below w.heap.size w w' ∧ ∀ x, A = some x → w.heap.size ≤ x.block
theorem GivesNew.nums {l : List Nat} {w w' : World} {e : Ending} (h : GivesNew l w e w') : GivesNums l w e w' := by
  obtain ⟨A, c, h1, h2, h3, _⟩ := h
  exact ⟨A, c, h1, h2, h3⟩

def SetRow (F : Nat → Fr) (o : Int) (n : Nat) (w : World) (i v : Value) (wr : World) : Prop :=
  ∃ t : Nat, t ≤ n ∧ i = .int .i64 t ∧ v = .int .u64 (setP (owB F o) t : Nat) ∧ Below w.heap.size w wr

theorem and_step (x : Nat) (h0 : x ≠ 0) (h : x < 18446744073709551616) : bits BinOp.and IntKind.u64 (x : Int) ((x : Int) - 1) = ((x &&& (x - 1) : Nat) : Int) := by
  have e : ((x : Int) - 1) = ((x - 1 : Nat) : Int) := by omega
  rw [e, bits_and_u64_nat _ _ h (by omega)]

/-- One round of the walk through a set's members: the least of the rest. -/
theorem rest_round (p : Nat → Bool) {t n : Nat} (hn : n ≤ 64) (h : setP (fromP p t) n ≠ 0) :
    ∃ i, t ≤ i ∧ i < n ∧ Lib.ctz 64 (setP (fromP p t) n) = i ∧ setP (fromP p t) n &&& (setP (fromP p t) n - 1) = setP (fromP p (i + 1)) n ∧
      lstP p (i + 1) = lstP p t ++ [i] ∧ cntP p (i + 1) = cntP p t + 1 := by
  obtain ⟨i, h1, h2, h3, h4⟩ := lowest p h
  obtain ⟨y, e1, e2⟩ := setP_split p h1 h3 h4 h2
  refine ⟨i, h1, h2, ?_, ?_, lstP_next p h1 h3 h4, cntP_next p h1 h3 h4⟩
  · rw [e1]; exact ctz_pow i y (by omega)
  · rw [e1, e2]; exact and_pred i y

def MemRow (p : Nat → Bool) (n : Nat) (w : World) (v r : Value) (wr : World) : Prop :=
  ∃ t : Nat, t ≤ n ∧ r = .int .u64 (setP (fromP p t) n : Nat) ∧ wr.ownsRow w.heap.size 3 1 v (cntP p t) (numL (lstP p t)) ∧ Below w.heap.size w wr

def restOf (v : Value) : Nat := (intOf v).toNat

/-- The frames of an owner, ascending. -/
def ownL (F : Nat → Fr) (o : Int) (n : Nat) : List Nat := lstP (owB F o) n

end Go.Proofs.Ytjkbjbikofindaa

namespace Go.Proofs.Ytjkbjbikofindaa
open Go.RowKit
set_option maxRecDepth 100000
set_option linter.unusedVariables false

/-- Whether a number is an owner's; whether a number is a belt's. -/
def okO (o : Int) : Bool := decide (0 ≤ o ∧ o ≤ 4294967295)
def okB (b : Int) : Bool := decide (0 ≤ b ∧ b < 4)
def anyB (F : Nat → Fr) (o st : Int) : Nat → Bool
  | 0 => false
  | n + 1 => anyB F o st n || (decide ((F n).ow = o) && decide ((F n).st ≠ st))
theorem anyB_iff (F : Nat → Fr) (o st : Int) : ∀ n, anyB F o st n = true ↔ ∃ f, f < n ∧ (F f).ow = o ∧ (F f).st ≠ st
  | 0 => by simp [anyB]
  | n + 1 => by
    simp only [anyB, Bool.or_eq_true, anyB_iff F o st n]
    constructor
    · rintro (⟨f, h1, h2⟩ | h)
      · exact ⟨f, by omega, h2⟩
      · simp at h; exact ⟨n, by omega, h⟩
    · rintro ⟨f, h1, h2, h3⟩
      rcases (show f < n ∨ f = n by omega) with h | rfl
      · exact .inl ⟨f, h, h2, h3⟩
      · right; simp [h2, h3]

/-- A place at which the predicate holds, or -1. -/
def Found (F : Nat → Fr) (o st : Int) (n : Nat) (w : World) (e : Ending) (w' : World) : Prop := (∃ k : Int, e = .returned (.int .i64 k) ∧ -1 ≤ k ∧ decide (0 ≤ k) = anyB F o st n) ∧ Below w.heap.size w w'
end Go.Proofs.Ytjkbjbikofindaa

namespace Go.Proofs.Ytjkbjbikofindaa
open Go.RowKit
set_option maxRecDepth 100000
set_option linter.unusedVariables false

def zSp : Value := .agg #[.int .i64 0, .slice none 0 0, .slice none 0 0]
/-- The error of Take. -/
noncomputable def takeE (s : Int) (nw : Nat) (wd : Nat → Int) (n : Nat) (F : Nat → Fr) (o b : Int) : Int :=
  if (validB s nw wd n F && okO o && okB b) = false then 1 else if anyB F o (b * 4294967296 + o) n = true then 5 else if cntP (owB F (-1)) n = 0 then 4 else 0
/-- What Take answers. -/
def TakeOut (s : Int) (nw : Nat) (wd : Nat → Int) (n : Nat) (F : Nat → Fr) (o b : Int) (w : World) (e : Ending) (w' : World) : Prop :=
  (∃ x : Int, takeE s nw wd n F o b = x ∧ x ≠ 0 ∧ e = .returned (.tuple #[zSp, .int .i64 0, .int .i64 x]) ∧ Below w.heap.size w w') ∨
  (takeE s nw wd n F o b = 0 ∧ ∃ (f : Nat) (A1 : Option Addr) (c1 g c2 : Nat), Least F n f ∧ e = .returned (.tuple #[.agg #[.int .i64 s, .slice A1 nw c1, .slice (some ⟨g, 0, none⟩) n c2], .int .i64 f, .int .i64 0]) ∧
    Own w' w.heap.size A1 nw c1 wd ∧ OwnT w' w.heap.size (some ⟨g, 0, none⟩) n c2 (lift F f o (b * 4294967296 + o)) ∧ Below w.heap.size w w')

theorem take_bad {s : Int} {nw : Nat} {wd : Nat → Int} {n : Nat} {F : Nat → Fr} {o b : Int} {w w' : World} (h : (validB s nw wd n F && okO o && okB b) = false) (hb : Below w.heap.size w w') :
    TakeOut s nw wd n F o b w (.returned (.tuple #[zSp, .int .i64 0, .int .i64 1])) w' :=
  .inl ⟨1, by unfold takeE; rw [if_pos h], by decide, rfl, hb⟩
theorem take_other {s : Int} {nw : Nat} {wd : Nat → Int} {n : Nat} {F : Nat → Fr} {o b : Int} {w w' : World} (h : (validB s nw wd n F && okO o && okB b) = true) (h2 : anyB F o (b * 4294967296 + o) n = true) (hb : Below w.heap.size w w') :
    TakeOut s nw wd n F o b w (.returned (.tuple #[zSp, .int .i64 0, .int .i64 5])) w' :=
  .inl ⟨5, by unfold takeE; rw [if_neg (by rw [h]; decide), if_pos h2], by decide, rfl, hb⟩
theorem take_full {s : Int} {nw : Nat} {wd : Nat → Int} {n : Nat} {F : Nat → Fr} {o b : Int} {w w' : World} (h : (validB s nw wd n F && okO o && okB b) = true) (h2 : anyB F o (b * 4294967296 + o) n = false) (h3 : cntP (owB F (-1)) n = 0) (hb : Below w.heap.size w w') :
    TakeOut s nw wd n F o b w (.returned (.tuple #[zSp, .int .i64 0, .int .i64 4])) w' :=
  .inl ⟨4, by unfold takeE; rw [if_neg (by rw [h]; decide), if_neg (by rw [h2]; decide), if_pos h3], by decide, rfl, hb⟩

theorem take_ok {s : Int} {nw : Nat} {wd : Nat → Int} {n : Nat} {F : Nat → Fr} {o b : Int} (h : (validB s nw wd n F && okO o && okB b) = true) (h2 : anyB F o (b * 4294967296 + o) n = false) (h3 : cntP (owB F (-1)) n ≠ 0) :
    takeE s nw wd n F o b = 0 := by unfold takeE; rw [if_neg (by rw [h]; decide), if_neg (by rw [h2]; decide), if_neg h3]
/-- Words and frames never share a block. -/
theorem own_setT {w : World} {base base' nw c n c2 g i j k : Nat} {A : Option Addr} {wd : Nat → Int} {F : Nat → Fr} (h : Own w base A nw c wd) (hT : OwnT w base' (some ⟨g, 0, none⟩) n c2 F) (u v x : Value) :
    Own (((w.setCell ⟨g, i, none⟩ u).setCell ⟨g, j, none⟩ v).setCell ⟨g, k, none⟩ x) base A nw c wd := by
  obtain ⟨h1, h2, ⟨rfl, h3⟩ | ⟨y, cur, rfl, hb, hy, hs⟩⟩ := h
  · exact ⟨h1, h2, .inl ⟨rfl, h3⟩⟩
  · have hne : y ≠ g := by
      obtain ⟨_, _, ⟨h4, _⟩ | ⟨g', cur', hA, _, hg, _⟩⟩ := hT
      · cases h4
      · injection hA with hA
        injection hA with hA
        subst hA
        intro e
        subst e
        rw [hy] at hg
        injection hg with hg
        injection hg with _ hg _
        revert hg
        decide
    exact Own.apart3 ⟨h1, h2, .inr ⟨y, cur, rfl, hb, hy, hs⟩⟩ hne u v x
theorem setP_empty {p : Nat → Bool} {n : Nat} (h : cntP p n = 0) : setP p n = 0 := setP_none (fun j hj => by
  cases e : p j
  · rfl
  · have h1 : cntP p (j + 1) ≤ cntP p n := cntP_mono p (by omega)
    simp only [cntP, e, if_true] at h1
    omega)
theorem least_of {F : Nat → Fr} {n : Nat} (hn : n ≤ 64) (h : cntP (owB F (-1)) n ≠ 0) : ∃ f, Least F n f ∧ Lib.ctz 64 (setP (owB F (-1)) n) = f ∧ setP (owB F (-1)) n ≠ 0 := by
  have h0 : setP (owB F (-1)) n ≠ 0 := fun e => h (cntP_none (setP_zero e))
  have e0 : setP (fromP (owB F (-1)) 0) n = setP (owB F (-1)) n := setP_congr (fun j _ => by simp [fromP])
  obtain ⟨i, h1, h2, h3, h4⟩ := lowest (owB F (-1)) (t := 0) (n := n) (by rw [e0]; exact h0)
  obtain ⟨y, e1, e2⟩ := setP_split (owB F (-1)) h1 h3 h4 h2
  refine ⟨i, ⟨h2, of_decide_eq_true h3, fun j hj => of_decide_eq_false (h4 j (by omega) hj)⟩, ?_, h0⟩
  rw [← e0, e1]
  exact ctz_pow i y (by omega)

theorem take_bounds {s : Int} {nw : Nat} {wd : Nat → Int} {n : Nat} {F : Nat → Fr} (h : ValidP s nw wd n F) : 0 < n ∧ n ≤ 64 ∧ 0 < nw ∧ nw ≤ 16384 := by
  have h1 := shB_yes h.1
  have h2 := nfB_yes h.2.1
  have h3 := h.2.2.1
  have h4 : nw ≤ 16384 := by rw [h3]; exact prod_le (by omega) (by omega)
  have h5 : 0 < nw := by rw [h3]; exact Nat.mul_pos (by omega) (Nat.pow_pos (by decide))
  exact ⟨by omega, by omega, h5, h4⟩

end Go.Proofs.Ytjkbjbikofindaa

namespace Go.Proofs.Ytjkbjbikofindaa
open Go.RowKit
set_option maxRecDepth 100000
set_option linter.unusedVariables false

/-- What Give makes of the frames below t, and of their words. -/
def giveF (F : Nat → Fr) (o : Int) (t : Nat) : Nat → Fr := fun j => if j < t ∧ (F j).ow = o then frFree else F j
def giveW (wd : Nat → Int) (F : Nat → Fr) (o : Int) (k t : Nat) : Nat → Int := fun a => if a / 2 ^ k < t ∧ (F (a / 2 ^ k)).ow = o then 0 else wd a

noncomputable def giveE (s : Int) (nw : Nat) (wd : Nat → Int) (n : Nat) (F : Nat → Fr) (o : Int) : Int :=
  if (validB s nw wd n F && okO o) = false then 1 else if cntP (owB F o) n = 0 then 5 else 0
/-- What Give answers. -/
def GiveOut (s : Int) (nw : Nat) (wd : Nat → Int) (n : Nat) (F : Nat → Fr) (o : Int) (w : World) (e : Ending) (w' : World) : Prop :=
  (∃ x : Int, giveE s nw wd n F o = x ∧ x ≠ 0 ∧ e = .returned (.tuple #[zSp, .int .i64 0, .int .i64 x]) ∧ Below w.heap.size w w') ∨
  (giveE s nw wd n F o = 0 ∧ ∃ (A1 : Option Addr) (c1 g c2 : Nat), e = .returned (.tuple #[.agg #[.int .i64 s, .slice A1 nw c1, .slice (some ⟨g, 0, none⟩) n c2], .int .i64 (cntP (owB F o) n : Nat), .int .i64 0]) ∧
    Own w' w.heap.size A1 nw c1 (giveW wd F o s.toNat n) ∧ OwnT w' w.heap.size (some ⟨g, 0, none⟩) n c2 (giveF F o n) ∧ Below w.heap.size w w')
theorem give_bad {s : Int} {nw : Nat} {wd : Nat → Int} {n : Nat} {F : Nat → Fr} {o : Int} {w w' : World} (h : (validB s nw wd n F && okO o) = false) (hb : Below w.heap.size w w') :
    GiveOut s nw wd n F o w (.returned (.tuple #[zSp, .int .i64 0, .int .i64 1])) w' :=
  .inl ⟨1, by unfold giveE; rw [if_pos h], by decide, rfl, hb⟩
theorem give_none {s : Int} {nw : Nat} {wd : Nat → Int} {n : Nat} {F : Nat → Fr} {o : Int} {w w' : World} (h : (validB s nw wd n F && okO o) = true) (h3 : cntP (owB F o) n = 0) (hb : Below w.heap.size w w') :
    GiveOut s nw wd n F o w (.returned (.tuple #[zSp, .int .i64 0, .int .i64 5])) w' :=
  .inl ⟨5, by unfold giveE; rw [if_neg (by rw [h]; decide), if_pos h3], by decide, rfl, hb⟩
theorem give_ok {s : Int} {nw : Nat} {wd : Nat → Int} {n : Nat} {F : Nat → Fr} {o : Int} (h : (validB s nw wd n F && okO o) = true) (h3 : cntP (owB F o) n ≠ 0) : giveE s nw wd n F o = 0 := by
  unfold giveE; rw [if_neg (by rw [h]; decide), if_neg h3]

theorem cut_bounds {k n i nw : Nat} (hk : k ≤ 8) (hi : i < n) (hn : n ≤ 64) (h : nw = n * 2 ^ k) : i * 2 ^ k + 2 ^ k ≤ nw ∧ 0 < 2 ^ k ∧ nw ≤ 16384 := by
  have h1 : (i + 1) * 2 ^ k ≤ n * 2 ^ k := Nat.mul_le_mul_right _ hi
  rw [Nat.add_mul, Nat.one_mul] at h1
  exact ⟨by omega, Nat.pow_pos (by decide), by rw [h]; exact prod_le hn hk⟩
theorem shifts (i k : Nat) : (i : Int) * 2 ^ k = ((i * 2 ^ k : Nat) : Int) ∧ ((i : Int) + 1) * 2 ^ k = ((i * 2 ^ k + 2 ^ k : Nat) : Int) := by
  have h : (i : Int) * 2 ^ k = ((i * 2 ^ k : Nat) : Int) := by simp
  exact ⟨h, by rw [Int.add_mul, Int.one_mul, h]; simp⟩
theorem own_apart {w : World} {base base' nw c n c2 g x : Nat} {wd : Nat → Int} {F : Nat → Fr} (h : Own w base (some ⟨x, 0, none⟩) nw c wd) (hT : OwnT w base' (some ⟨g, 0, none⟩) n c2 F) : x ≠ g := by
  obtain ⟨h1, h2, ⟨h3, _⟩ | ⟨y, cur, hA, hb, hy, hs⟩⟩ := h
  · cases h3
  · injection hA with hA
    injection hA with hA
    subst hA
    obtain ⟨_, _, ⟨h4, _⟩ | ⟨g', cur', hA, _, hg, _⟩⟩ := hT
    · cases h4
    · injection hA with hA
      injection hA with hA
      subst hA
      intro e
      subst e
      rw [hy] at hg
      injection hg with hg
      injection hg with _ hg _
      revert hg
      decide

theorem lstP_prefix (p : Nat → Bool) {m n : Nat} (h : m ≤ n) : ∃ r, lstP p n = lstP p m ++ r := by
  induction n with
  | zero => obtain rfl : m = 0 := by omega
            exact ⟨[], by simp⟩
  | succ n ih =>
    rcases (show m ≤ n ∨ m = n + 1 by omega) with h1 | rfl
    · obtain ⟨r, hr⟩ := ih h1
      exact ⟨r ++ (if p n then [n] else []), by simp only [lstP]; rw [hr, List.append_assoc]⟩
    · exact ⟨[], by simp⟩
/-- The j-th member of a set: the least from t on, where j lie below t. -/
theorem nth_member (p : Nat → Bool) {t j n : Nat} (ht : t ≤ n) (hj : cntP p t = j) (hlt : j < cntP p n) :
    ∃ i, t ≤ i ∧ i < n ∧ p i = true ∧ (∀ q, t ≤ q → q < i → p q = false) ∧ numF (lstP p n) j = i ∧ cntP p (i + 1) = j + 1 := by
  have h0 : setP (fromP p t) n ≠ 0 := fun e => by
    have h := lstP_done p ht e
    have : cntP p n = cntP p t := by rw [← lstP_length, ← lstP_length, h]
    omega
  obtain ⟨i, h1, h2, h3, h4⟩ := lowest p h0
  refine ⟨i, h1, h2, h3, h4, ?_, by rw [cntP_next p h1 h3 h4, hj]⟩
  obtain ⟨r, hr⟩ := lstP_prefix p (show i + 1 ≤ n by omega)
  rw [lstP_next p h1 h3 h4] at hr
  have hl : (lstP p t).length = j := by rw [lstP_length, hj]
  unfold numF
  have h5 : (lstP p n)[j]? = some i := by
    rw [hr, List.append_assoc, List.getElem?_append_right (by omega), hl, Nat.sub_self]
    rfl
  rw [List.getD_eq_getElem?_getD, h5]
  rfl

theorem below_fill {B g : Nat} (hg : B ≤ g) : ∀ (vs : List Value) (o : Nat) (w : World), Below B w (w.setCells g o vs)
  | [], _, w => Below.refl B w
  | v :: r, o, w => ((Below.refl B w).setCell (p := ⟨g, o, none⟩) hg v).trans (below_fill hg r (o + 1) _)
theorem heap_fill {g b : Nat} (hne : b ≠ g) : ∀ (vs : List Value) (o : Nat) (w : World), (w.setCells g o vs).heap[b]? = w.heap[b]?
  | [], _, _ => rfl
  | v :: r, o, w => (heap_fill hne r (o + 1) _).trans (Below.heap_setCell w ⟨g, o, none⟩ v b hne)
theorem Blk.fill {w : World} {g b o : Nat} {t : TypeId} {cs : Array Value} (h : Blk w b t cs) (hne : b ≠ g) (vs : List Value) : Blk (w.setCells g o vs) b t cs := (heap_fill hne vs o w).trans h
theorem OwnT.fill {w : World} {base n c x g o : Nat} {F : Nat → Fr} (h : OwnT w base (some ⟨x, 0, none⟩) n c F) (hne : x ≠ g) (vs : List Value) : OwnT (w.setCells g o vs) base (some ⟨x, 0, none⟩) n c F := by
  obtain ⟨h1, h2, ⟨h3, _⟩ | ⟨y, cur, hA, hb, hy, hs⟩⟩ := h
  · cases h3
  · injection hA with hA
    injection hA with hA
    subst hA
    exact ⟨h1, h2, .inr ⟨x, cur, rfl, hb, (heap_fill hne vs o w).trans hy, hs⟩⟩
theorem Own.fill {base n c g : Nat} : ∀ (m o : Nat) (w : World) (f : Nat → Int), Own w base (some ⟨g, 0, none⟩) n c f → o + m ≤ n →
    Own (w.setCells g o (List.replicate m (.int .u64 0))) base (some ⟨g, 0, none⟩) n c (fun a => if o ≤ a ∧ a < o + m then 0 else f a)
  | 0, o, w, f, h, _ => h.congr (fun j _ => by rw [if_neg (by omega)])
  | m + 1, o, w, f, h, hm => by
    obtain ⟨g', hA, _, _, _, _, h1⟩ := h.spot o (by omega) 0
    injection hA with hA
    injection hA with hA
    subst hA
    have h2 := Own.fill m (o + 1) _ _ h1 (by omega)
    refine Own.congr (show Own (w.setCells g o (List.replicate (m + 1) (.int .u64 0))) base (some ⟨g, 0, none⟩) n c _ from h2) (fun j _ => ?_)
    by_cases e : j = o
    · subst e; rw [if_neg (by omega), if_pos rfl, if_pos (by omega)]
    · by_cases e2 : o + 1 ≤ j ∧ j < o + 1 + m
      · rw [if_pos e2, if_pos (by omega)]
      · rw [if_neg e2, if_neg e, if_neg (by omega)]

/-- One frame more. -/
theorem giveF_next {F : Nat → Fr} {o : Int} {t i : Nat} (h1 : t ≤ i) (h3 : owB F o i = true) (h4 : ∀ q, t ≤ q → q < i → owB F o q = false) (j : Nat) : (if j = i then frFree else giveF F o t j) = giveF F o (i + 1) j := by
  have h3' := of_decide_eq_true h3
  unfold giveF
  by_cases e : j = i
  · subst e; rw [if_pos rfl, if_pos ⟨by omega, h3'⟩]
  · rw [if_neg e]
    by_cases e2 : j < t ∧ (F j).ow = o
    · rw [if_pos e2, if_pos ⟨by omega, e2.2⟩]
    · rw [if_neg e2]
      by_cases e3 : j < i + 1 ∧ (F j).ow = o
      · exfalso
        have : ¬ j < t := fun h => e2 ⟨h, e3.2⟩
        have h5 := of_decide_eq_false (h4 j (by omega) (by omega))
        exact h5 e3.2
      · rw [if_neg e3]
theorem giveW_next {wd : Nat → Int} {F : Nat → Fr} {o : Int} {k t i : Nat} (h1 : t ≤ i) (h3 : owB F o i = true) (h4 : ∀ q, t ≤ q → q < i → owB F o q = false) (a : Nat) :
    (if i * 2 ^ k ≤ a ∧ a < i * 2 ^ k + 2 ^ k then 0 else giveW wd F o k t a) = giveW wd F o k (i + 1) a := by
  have h3' := of_decide_eq_true h3
  have hp : 0 < 2 ^ k := Nat.pow_pos (by decide)
  have key : (i * 2 ^ k ≤ a ∧ a < i * 2 ^ k + 2 ^ k) ↔ a / 2 ^ k = i := by
    constructor
    · rintro ⟨x, y⟩
      exact Nat.div_eq_of_lt_le x (by rw [Nat.add_mul, Nat.one_mul]; exact y)
    · intro e
      subst e
      have := Nat.div_add_mod a (2 ^ k)
      have := Nat.mod_lt a hp
      rw [Nat.mul_comm]
      omega
  unfold giveW
  by_cases e : a / 2 ^ k = i
  · rw [if_pos (key.2 e), if_pos ⟨by omega, by rw [e]; exact h3'⟩]
  · rw [if_neg (fun h => e (key.1 h))]
    by_cases e2 : a / 2 ^ k < t ∧ (F (a / 2 ^ k)).ow = o
    · rw [if_pos e2, if_pos ⟨by omega, e2.2⟩]
    · rw [if_neg e2]
      by_cases e3 : a / 2 ^ k < i + 1 ∧ (F (a / 2 ^ k)).ow = o
      · exfalso
        have : ¬ a / 2 ^ k < t := fun h => e2 ⟨h, e3.2⟩
        have h5 := of_decide_eq_false (h4 (a / 2 ^ k) (by omega) (by omega))
        exact h5 e3.2
      · rw [if_neg e3]
theorem giveW_all {wd : Nat → Int} {F : Nat → Fr} {o : Int} {k t n a : Nat} (ht : t ≤ n) (h : cntP (owB F o) t = cntP (owB F o) n) (ha : a < n * 2 ^ k) : giveW wd F o k t a = giveW wd F o k n a := by
  have hq : a / 2 ^ k < n := Nat.div_lt_of_lt_mul (by rw [Nat.mul_comm]; exact ha)
  unfold giveW
  by_cases e : a / 2 ^ k < t ∧ (F (a / 2 ^ k)).ow = o
  · rw [if_pos e, if_pos ⟨by omega, e.2⟩]
  · rw [if_neg e]
    by_cases e2 : (F (a / 2 ^ k)).ow = o
    · exfalso
      have h1 : cntP (owB F o) t ≤ cntP (owB F o) (a / 2 ^ k) := cntP_mono _ (by have : ¬ a / 2 ^ k < t := fun h => e ⟨h, e2⟩; omega)
      have h2 : cntP (owB F o) (a / 2 ^ k + 1) ≤ cntP (owB F o) n := cntP_mono _ (by omega)
      have h3 : cntP (owB F o) (a / 2 ^ k + 1) = cntP (owB F o) (a / 2 ^ k) + 1 := by simp only [cntP]; rw [owB_yes e2]; rfl
      omega
    · rw [if_neg (fun h => e2 h.2)]
theorem giveF_all {F : Nat → Fr} {o : Int} {t n j : Nat} (ht : t ≤ n) (h : cntP (owB F o) t = cntP (owB F o) n) (hj : j < n) : giveF F o t j = giveF F o n j := by
  unfold giveF
  by_cases e : j < t ∧ (F j).ow = o
  · rw [if_pos e, if_pos ⟨by omega, e.2⟩]
  · rw [if_neg e]
    by_cases e2 : (F j).ow = o
    · exfalso
      have h1 : cntP (owB F o) t ≤ cntP (owB F o) j := cntP_mono _ (by have : ¬ j < t := fun h => e ⟨h, e2⟩; omega)
      have h2 : cntP (owB F o) (j + 1) ≤ cntP (owB F o) n := cntP_mono _ (by omega)
      have h3 : cntP (owB F o) (j + 1) = cntP (owB F o) j + 1 := by simp only [cntP]; rw [owB_yes e2]; rfl
      omega
    · rw [if_neg (fun h => e2 h.2)]

/-- At the loop's head. -/
def GiveAt (s : Int) (nw : Nat) (wd : Nat → Int) (n : Nat) (F : Nat → Fr) (o : Int) (w : World) (V1 V2 : Value) (base bx g x c1 c2 : Nat) (GA : Option Addr) (gc : Nat) (iv : Value) (wr : World) : Prop :=
  ∃ t j : Nat, t ≤ n ∧ cntP (owB F o) t = j ∧ iv = .int .i64 j ∧ Own wr base (some ⟨x, 0, none⟩) nw c1 (giveW wd F o s.toNat t) ∧ OwnT wr base (some ⟨g, 0, none⟩) n c2 (giveF F o t) ∧
    Nums wr base GA (cntP (owB F o) n) gc (numF (lstP (owB F o) n)) ∧ Blk wr w.heap.size 25 #[.int .i64 s, V1, V2] ∧ Blk wr (w.heap.size + 1) 25 #[.int .i64 0, .slice none 0 0, .slice none 0 0] ∧
    Blk wr bx 25 #[.int .i64 s, .slice (some ⟨x, 0, none⟩) nw c1, .slice (some ⟨g, 0, none⟩) n c2] ∧ Below w.heap.size w wr

end Go.Proofs.Ytjkbjbikofindaa

namespace Go.Proofs.Ytjkbjbikofindaa
open Go.RowKit
set_option maxRecDepth 100000
set_option linter.unusedVariables false

theorem freeN_cnt (F : Nat → Fr) : ∀ n, freeN F n = cntP (owB F (-1)) n
  | 0 => rfl
  | n + 1 => by
    simp only [freeN, cntP, freeN_cnt F n]
    by_cases h : (F n).ow = -1
    · rw [if_pos h, owB_yes h]; rfl
    · rw [if_neg h, owB_no h]; rfl

def FreeRowC (F : Nat → Fr) (w : World) (i v : Value) (n : Nat) (wr : World) : Prop :=
  ∃ t : Nat, t ≤ n ∧ i = .int .i64 t ∧ wr.ownsRow w.heap.size 3 1 v (cntP (owB F (-1)) t) (numL (lstP (owB F (-1)) t)) ∧ Below w.heap.size w wr

set_option maxHeartbeats 1000000 in
theorem refFreeC_any (s : Int) (V1 : Value) (A' : Option Addr) (n c' : Nat) (F : Nat → Fr) (w : World) (hT : Tab w w.heap.size A' n c' F) (hn : n ≤ 64) :
    Calls Try.prog 85 #[.agg #[.int .i64 s, V1, .slice A' n c']] w (GivesNums (ownL F (-1) n) w) := by
  obtain ⟨i0, hi0, hz0, hz1, hz2⟩ := info_parts int_info
  have HT := Lib.hid hT
  have HB0 : Hid (Below w.heap.size w (w.alloc (.cells #[.int .i64 s, V1, .slice A' n c'] 25))) := (Below.refl _ _).alloc (Nat.le_refl _) _
  clear hT
  go_enter Try.func85, Try.ntmps85
  go_wp2
  go_loopw [3, 4, 5, 9] (fun v _ _ i wr => FreeRowC F w i v n wr) (fun _ _ _ i _ => n - (intOf i).toNat)
  case atStart => exact ⟨0, by omega, rfl, World.ownsRow_nil _ _ _ _, HB0.out⟩
  case round =>
    obtain ⟨t, ht, rfl, hown, hb⟩ := hrel
    have HB := Lib.hid hb
    have HO := Lib.hid hown
    have hfl := cntP_le (owB F (-1)) t
    clear hb hown
    by_cases hlt : t < n
    · have hlt2 : 0 ≤ (t : Int) ∧ (t : Int) < n := by omega
      have HTR : Hid (Tab wr w.heap.size A' n c' F) := HT.out.below HB.out
      obtain ⟨b, o, rfl, hbb⟩ := HTR.out.base_ (by omega)
      obtain ⟨_, c0, c1, c2⟩ := HTR.out.cells t hlt
      have bz : b < wr.heap.size := by have := HB.out.size; omega
      obtain ⟨x, hx⟩ : ∃ x, x = (F t).ow := ⟨_, rfl⟩
      rw [← hx] at c0
      by_cases hx0 : x = -1
      · have hf : cntP (owB F (-1)) (t + 1) = cntP (owB F (-1)) t + 1 := by simp only [cntP]; rw [owB_yes (by rw [← hx]; exact hx0)]; rfl
        have hl : numL (lstP (owB F (-1)) (t + 1)) = numL (lstP (owB F (-1)) t) ++ [.int .i64 t] := by simp only [lstP]; rw [owB_yes (by rw [← hx]; exact hx0)]; simp [numL]
        subst hx0
        have HF := Lib.hid hf
        have HL := Lib.hid hl
        clear hx hf hl
        have hob := row_block HO.out
        go_wp2_with (at_builtin; refine wpList_append_own _ rfl _ _ 27 rfl w.heap.size 3 i0 (.int .i64 0) 1 8 Try.underlying27 hi0 hz0 hz1 hz2 rfl (by decide) _ (cntP (owB F (-1)) t) (numL (lstP (owB F (-1)) t)) rfl ((HO.out.alloc _).alloc _) ⟨wr.heap.size + 1, 0, none⟩ 1 1 [.int .i64 t] rfl rfl ?c1 (by simp [Value.oneCell']) (by simp only [maxLen]; omega) (by omega) ?c5 ?_)
        case c1 => exact one_news (by go_simp)
        case c5 => have := HB.out.size; simp; omega
        intro v' w1 hown' hgrow _
        have HN : Hid (w1.ownsRow w.heap.size 3 1 v' (cntP (owB F (-1)) (t + 1)) (numL (lstP (owB F (-1)) (t + 1)))) := by rw [HF.out, HL.out]; exact hown'
        have HBN : Hid (Below w.heap.size w w1) := ((HB.out.alloc HB.out.size _).alloc (by simp; have := HB.out.size; omega) _).grown hgrow (by simp; have := HB.out.size; omega) hob
        clear hown' hgrow hob
        go_wp2
        refine ⟨⟨t + 1, by omega, by go_num, HN.out, HBN.out⟩, by simp [intOf]; omega⟩
      · have hf : cntP (owB F (-1)) (t + 1) = cntP (owB F (-1)) t := by simp only [cntP]; rw [owB_no (by rw [← hx]; exact hx0)]; rfl
        have hl : lstP (owB F (-1)) (t + 1) = lstP (owB F (-1)) t := by simp only [lstP]; rw [owB_no (by rw [← hx]; exact hx0)]; simp
        have hb1 : (x == -1) = false := by simpa using hx0
        have HN : Hid ((wr.alloc (.cells #[.int .i64 x, .int .i64 (F t).st, .int .i64 (F t).nx] 61)).ownsRow w.heap.size 3 1 u3 (cntP (owB F (-1)) (t + 1)) (numL (lstP (owB F (-1)) (t + 1)))) := by rw [hf, hl]; exact HO.out.alloc _
        have HBN : Hid (Below w.heap.size w (wr.alloc (.cells #[.int .i64 x, .int .i64 (F t).st, .int .i64 (F t).nx] 61))) := HB.out.alloc HB.out.size _
        clear hx hf hl hx0
        go_wp2
        refine ⟨⟨t + 1, by omega, by go_num, HN.out, HBN.out⟩, by simp [intOf]; omega⟩
    · obtain rfl : n = t := by omega
      have hlt2 : ¬ (n : Int) < n := by omega
      obtain ⟨A, c, rfl, hnum, hl⟩ := nums_of_row HO.out
      have HN := Lib.hid hnum
      have HL := Lib.hid hl
      clear hnum hl
      go_wp2
      go_ret
      refine ⟨A, c, ?_, ?_, HB.out⟩
      · unfold ownL; rw [← HL.out]; rfl
      · unfold ownL; rw [← HL.out]; exact HN.out

theorem sameInts_yes (A B : Option Addr) (n c d : Nat) (f : Nat → Int) (w : World) (hA : Nums w w.heap.size A n c f) (hB : Nums w w.heap.size B n d f) (hn : n ≤ 1048576) :
    Calls Try.prog 34 #[.slice A n c, .slice B n d] w fun e w' => e = .returned (.bool true) ∧ Below w.heap.size w w' := by
  have H := Lib.hid hA
  have H' := Lib.hid hB
  clear hA hB
  go_enter Try.func34, Try.ntmps34
  go_wp2
  go_loopw [5, 13] (fun _ i wr => ∃ t : Nat, t ≤ n ∧ i = .int .i64 t ∧ ∃ m, wr = w.drewN m) (fun _ i _ => n - (intOf i).toNat)
  case atStart => exact ⟨0, Nat.zero_le _, rfl, 0, rfl⟩
  case round =>
    obtain ⟨t, ht, rfl, m, rfl⟩ := hrel
    by_cases hlt : t < n
    · obtain ⟨b, o, rfl, hb, hc1⟩ := H.out.at_ t hlt
      obtain ⟨b', o', rfl, hb', hc2⟩ := H'.out.at_ t hlt
      have hx : 0 ≤ (t : Int) ∧ (t : Int) < n := by omega
      have hlt2 : (t : Int) < n := by omega
      go_wp2
      go_quiet (fail)
      go_wp2
      exact ⟨⟨t + 1, by omega, by go_num, _, rfl⟩, by simp [intOf]; omega⟩
    · have hlt2 : ¬ (t : Int) < n := by omega
      go_wp2
      go_ret
      exact ⟨rfl, after_drawn _ (Below.refl _ _)⟩

set_option maxHeartbeats 1000000 in
theorem liftNone_any (s : Int) (V1 : Value) (A' : Option Addr) (n c' : Nat) (F : Nat → Fr) (ow bt : Int) (w : World) (hT : Tab w w.heap.size A' n c' F) (hn : n ≤ 64) (hf : cntP (owB F (-1)) n = 0) :
    Calls Try.prog 86 #[.agg #[.int .i64 s, V1, .slice A' n c'], .int .i64 ow, .int .i64 bt] w fun e w' => e = .returned (.int .i64 (-1)) ∧ Below w.heap.size w w' := by
  have HT := Lib.hid hT
  have HF := Lib.hid hf
  have HB0 : Hid (Below w.heap.size w (w.alloc (.cells #[.int .i64 s, V1, .slice A' n c'] 25))) := (Below.refl _ _).alloc (Nat.le_refl _) _
  clear hT hf
  go_enter Try.func86, Try.ntmps86
  go_wp2
  go_loopw [7, 8, 12] (fun _ _ i wr => ∃ t : Nat, t ≤ n ∧ i = .int .i64 t ∧ Below w.heap.size w wr) (fun _ _ i _ => n - (intOf i).toNat)
  case atStart => exact ⟨0, by omega, rfl, HB0.out⟩
  case round =>
    obtain ⟨t, ht, rfl, hb⟩ := hrel
    have HB := Lib.hid hb
    clear hb
    by_cases hlt : t < n
    · have hlt2 : 0 ≤ (t : Int) ∧ (t : Int) < n := by omega
      have HTR : Hid (Tab wr w.heap.size A' n c' F) := HT.out.below HB.out
      obtain ⟨b, o, rfl, hbb⟩ := HTR.out.base_ (by omega)
      obtain ⟨_, c0, c1, c2⟩ := HTR.out.cells t hlt
      have bz : b < wr.heap.size := by have := HB.out.size; omega
      obtain ⟨x, hx⟩ : ∃ x, x = (F t).ow := ⟨_, rfl⟩
      rw [← hx] at c0
      have hx0 : x ≠ -1 := fun e => by
        have h1 : cntP (owB F (-1)) (t + 1) ≤ cntP (owB F (-1)) n := cntP_mono _ (by omega)
        have h2 : cntP (owB F (-1)) (t + 1) = cntP (owB F (-1)) t + 1 := by simp only [cntP]; rw [owB_yes (by rw [← hx]; exact e)]; rfl
        have h3 := HF.out
        omega
      have hb1 : (x == -1) = false := by simpa using hx0
      have HBN : Hid (Below w.heap.size w (wr.alloc (.cells #[.int .i64 x, .int .i64 (F t).st, .int .i64 (F t).nx] 61))) := HB.out.alloc HB.out.size _
      clear hx hx0
      go_wp2
      exact ⟨⟨t + 1, by omega, by go_num, HBN.out⟩, by simp [intOf]; omega⟩
    · obtain rfl : n = t := by omega
      have hlt2 : ¬ (n : Int) < n := by omega
      go_wp2
      go_ret
      exact ⟨rfl, HB.out⟩
end Go.Proofs.Ytjkbjbikofindaa

namespace Go.Proofs.Ytjkbjbikofindaa
open Go.RowKit
set_option maxRecDepth 100000
set_option linter.unusedVariables false

theorem okO_no {o : Int} (h : ¬ (0 ≤ o ∧ o ≤ 4294967295)) : okO o = false := decide_eq_false h
theorem okB_no {b : Int} (h : ¬ (0 ≤ b ∧ b < 4)) : okB b = false := decide_eq_false h
theorem okO_yes {o : Int} (h : 0 ≤ o ∧ o ≤ 4294967295) : okO o = true := decide_eq_true h
theorem okB_yes {b : Int} (h : 0 ≤ b ∧ b < 4) : okB b = true := decide_eq_true h
theorem Own.turnT {w w' : World} {base base' nw c n c2 g : Nat} {A : Option Addr} {wd : Nat → Int} {F : Nat → Fr} (h : Own w base A nw c wd) (hT : OwnT w base' (some ⟨g, 0, none⟩) n c2 F) (hg : w.grownBy w' (some g)) : Own w' base A nw c wd := by
  obtain ⟨h1, h2, ⟨rfl, h3⟩ | ⟨y, cur, rfl, hb, hy, hs⟩⟩ := h
  · exact ⟨h1, h2, .inl ⟨rfl, h3⟩⟩
  · exact Own.turn ⟨h1, h2, .inr ⟨y, cur, rfl, hb, hy, hs⟩⟩ hg (own_apart ⟨h1, h2, .inr ⟨y, cur, rfl, hb, hy, hs⟩⟩ hT)
theorem anyB_next {F : Nat → Fr} {o st : Int} {t n : Nat} (ht : t < n) (h : (F t).ow = o ∧ (F t).st ≠ st) : anyB F o st n = true := (anyB_iff F o st n).2 ⟨t, ht, h⟩

end Go.Proofs.Ytjkbjbikofindaa

namespace Go.Proofs.Ytjkbjbikofindaa
open Go.RowKit
set_option maxRecDepth 100000
set_option linter.unusedVariables false

/-- What turned are the blocks x and g, and what is new. -/
structure Turn2 (x g : Nat) (w w' : World) : Prop where
  os : w'.os = w.os
  tape : w'.tape = w.tape
  output : w'.output = w.output
  size : w.heap.size ≤ w'.heap.size
  block : ∀ b, b < w.heap.size → b ≠ x → b ≠ g → w'.heap[b]? = w.heap[b]?
theorem Turn2.of_below {x g : Nat} {w w' : World} (h : Below w.heap.size w w') : Turn2 x g w w' := ⟨h.os, h.tape, h.output, h.size, fun b hb _ _ => h.block b hb⟩
theorem Turn2.alloc {x g : Nat} {w w' : World} (h : Turn2 x g w w') (o : Obj) : Turn2 x g w (w'.alloc o) :=
  ⟨h.os, h.tape, h.output, by have := h.size; simp; omega, fun b hb h1 h2 => (Below.heap_alloc w' o b (by have := h.size; omega)).trans (h.block b hb h1 h2)⟩
theorem Turn2.setx {x g : Nat} {w w' : World} (h : Turn2 x g w w') (i : Nat) (u : Value) : Turn2 x g w (w'.setCell ⟨x, i, none⟩ u) :=
  ⟨h.os, h.tape, h.output, by simpa using h.size, fun b hb h1 h2 => (Below.heap_setCell w' ⟨x, i, none⟩ u b h1).trans (h.block b hb h1 h2)⟩
theorem Turn2.setg {x g : Nat} {w w' : World} (h : Turn2 x g w w') (i : Nat) (u : Value) : Turn2 x g w (w'.setCell ⟨g, i, none⟩ u) :=
  ⟨h.os, h.tape, h.output, by simpa using h.size, fun b hb h1 h2 => (Below.heap_setCell w' ⟨g, i, none⟩ u b h2).trans (h.block b hb h1 h2)⟩
theorem Turn2.setg3 {x g : Nat} {w w' : World} (h : Turn2 x g w w') (i j k : Nat) (u v y : Value) : Turn2 x g w (((w'.setCell ⟨g, i, none⟩ u).setCell ⟨g, j, none⟩ v).setCell ⟨g, k, none⟩ y) :=
  ((h.setg i u).setg j v).setg k y
theorem Blk.turn2 {x g b : Nat} {w w' : World} {t : TypeId} {cs : Array Value} (h : Blk w b t cs) (hg : Turn2 x g w w') (h1 : b ≠ x) (h2 : b ≠ g) : Blk w' b t cs := (hg.block b h.lt h1 h2).trans h
theorem Turn2.below {x g B : Nat} {w w' : World} (h : Turn2 x g w w') (hx : B ≤ x) (hg : B ≤ g) (hB : B ≤ w.heap.size) : Below B w w' :=
  ⟨h.os, h.tape, h.output, h.size, fun b hb => h.block b (by omega) (by omega) (by omega)⟩

theorem giveF_skip {F : Nat → Fr} {o : Int} {t : Nat} (h : owB F o t = false) (j : Nat) : giveF F o t j = giveF F o (t + 1) j := by
  have h' := of_decide_eq_false h
  unfold giveF
  by_cases e : j < t ∧ (F j).ow = o
  · rw [if_pos e, if_pos ⟨by omega, e.2⟩]
  · rw [if_neg e, if_neg (fun x => e ⟨by rcases (show j < t ∨ j = t by omega) with q | rfl; exact q; exact absurd x.2 h', x.2⟩)]
theorem giveW_skip {wd : Nat → Int} {F : Nat → Fr} {o : Int} {k t : Nat} (h : owB F o t = false) (a : Nat) : giveW wd F o k t a = giveW wd F o k (t + 1) a := by
  have h' := of_decide_eq_false h
  unfold giveW
  by_cases e : a / 2 ^ k < t ∧ (F (a / 2 ^ k)).ow = o
  · rw [if_pos e, if_pos ⟨by omega, e.2⟩]
  · rw [if_neg e, if_neg (fun x => e ⟨by rcases (show a / 2 ^ k < t ∨ a / 2 ^ k = t by omega) with q | q; exact q; exact absurd (q ▸ x.2) h', x.2⟩)]
def ClearAt (k : Nat) (nw n : Nat) (wd : Nat → Int) (F : Nat → Fr) (o : Int) (w : World) (base g x c1 c2 : Nat) (vn vi : Value) (wr : World) : Prop :=
  ∃ t : Nat, t ≤ n ∧ vi = .int .i64 t ∧ vn = .int .i64 (cntP (owB F o) t : Nat) ∧ Own wr base (some ⟨x, 0, none⟩) nw c1 (giveW wd F o k t) ∧ OwnT wr base (some ⟨g, 0, none⟩) n c2 (giveF F o t) ∧
    Blk wr w.heap.size 25 #[.int .i64 k, .slice (some ⟨x, 0, none⟩) nw c1, .slice (some ⟨g, 0, none⟩) n c2] ∧ Turn2 x g w wr

/-- At the inner loop's head: q words of frame t are cleared. -/
def ClearIn (k : Nat) (nw n : Nat) (wd : Nat → Int) (F : Nat → Fr) (o : Int) (w : World) (base g x c1 c2 t lo m : Nat) (va : Value) (wr : World) : Prop :=
  ∃ q : Nat, q ≤ m ∧ va = .int .i64 ((lo + q : Nat) : Int) ∧ Own wr base (some ⟨x, 0, none⟩) nw c1 (fun a => if lo ≤ a ∧ a < lo + q then 0 else giveW wd F o k t a) ∧ OwnT wr base (some ⟨g, 0, none⟩) n c2 (giveF F o (t + 1)) ∧
    Blk wr w.heap.size 25 #[.int .i64 k, .slice (some ⟨x, 0, none⟩) nw c1, .slice (some ⟨g, 0, none⟩) n c2] ∧ Turn2 x g w wr
theorem Own.spotAt {w : World} {base x n c : Nat} {f : Nat → Int} (h : Own w base (some ⟨x, 0, none⟩) n c f) (i : Nat) (hi : i < n) (v : Int) :
    base ≤ x ∧ x < w.heap.size ∧ w.cell? ⟨x, i, none⟩ = some (.int .u64 (f i)) ∧ w.frozen? ⟨x, i, none⟩ = false ∧
      Own (w.setCell ⟨x, i, none⟩ (.int .u64 v)) base (some ⟨x, 0, none⟩) n c (fun j => if j = i then v else f j) := by
  obtain ⟨g, hA, h'⟩ := h.spot i hi v
  injection hA with hA
  injection hA with hA
  subst hA
  exact h'

theorem clear_one {lo q L : Nat} {f : Nat → Int} (hL : L = lo + q) (a : Nat) : (if a = L then 0 else if lo ≤ a ∧ a < lo + q then 0 else f a) = if lo ≤ a ∧ a < lo + (q + 1) then 0 else f a := by
  subst hL
  by_cases e : a = lo + q
  · rw [if_pos e, if_pos (by omega)]
  · rw [if_neg e]
    by_cases e2 : lo ≤ a ∧ a < lo + q
    · rw [if_pos e2, if_pos (by omega)]
    · rw [if_neg e2, if_neg (by omega)]
theorem clear_cnt {p : Nat → Bool} {t : Nat} (h : p t = true) : cntP p (t + 1) = cntP p t + 1 := by simp only [cntP]; rw [h]; rfl

end Go.Proofs.Ytjkbjbikofindaa

namespace Go.Proofs.Ytjkbjbikofindaa
open Go.RowKit
set_option maxRecDepth 100000
set_option linter.unusedVariables false

end Go.Proofs.Ytjkbjbikofindaa
