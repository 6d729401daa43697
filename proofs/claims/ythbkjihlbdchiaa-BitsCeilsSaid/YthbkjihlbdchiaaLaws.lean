/-
  The walks of BitsBack, BitsCeils and BitsParts, and the facts about words that they need. No conditions.
-/
import Derived.Test.YthbkjihlbdchiaaRows
import Derived.Test.YthbkjihlbdchiaaBv
import Derived.Test.YthbkjihlbdchiaaMasks
namespace Go.Proofs.Ythbkjihlbdchiaa
set_option linter.unusedVariables false
open Go.ChangeShapes Go.WideShapes Go.ChangeAt Go.RowKit

theorem and_mask_fits (v n : Int) : fitsB (bits .and .u64 v (maskZ n)) n = true := by
  rw [fits_bits]
  intro i hi hn
  rw [bit_and, bit_mask _ _ hi, decide_eq_false (by omega)]; simp

/-- what was written is read -/
theorem get_put {v a n x : Int} (a0 : 0 ≤ a) (s : a + n ≤ 64) (hf : fitsB x n = true) (x0 : 0 ≤ x) (x1 : x < 18446744073709551616) :
    getZ (putZ v a n x) a n = x := by
  refine ext_bits (get_lo _ _ _) (get_hi _ _ _) x0 x1 fun i hi => ?_
  rw [bit_get (put_lo _ _ _ _) (put_hi _ _ _ _) _ hi]
  by_cases h : (i : Int) < n
  · rw [decide_eq_true h, bit_put a0 hf _ (by omega), if_pos (by omega), show a.toNat + i - a.toNat = i from by omega]; simp
  · rw [decide_eq_false h, (fits_bits.1 hf) i hi (by omega)]; simp

theorem bit_one (i : Nat) : bit 1 i = decide (i = 0) := by
  show (1#64).getLsbD i = _
  rw [BitVec.getLsbD_one]; simp

/-- all other bits stay -/
theorem put_other {v a n x k : Int} (v0 : 0 ≤ v) (v1 : v < 18446744073709551616) (a0 : 0 ≤ a) (hf : fitsB x n = true) (k0 : 0 ≤ k) (k1 : k < 64) (h : ¬ (a ≤ k ∧ k < a + n)) :
    bits .and .u64 (putZ v a n x / 2 ^ k.toNat) 1 = bits .and .u64 (v / 2 ^ k.toNat) 1 := by
  refine ext_bits (and_lo _ _) (and_hi _ _) (and_lo _ _) (and_hi _ _) fun i hi => ?_
  rw [bit_and, bit_and, bit_one, bit_shr (put_lo _ _ _ _) (put_hi _ _ _ _), bit_shr v0 v1]
  by_cases h0 : i = 0
  · subst h0
    rw [bit_put a0 hf _ (by omega), if_neg (by omega)]
  · rw [decide_eq_false h0]; simp

theorem walkBack (a0 a1 a2 a3 a4 : Int) (w0 : (Lit.int .u64 a0).wf = true) (w1 : (Lit.int .u64 a1).wf = true) (w2 : (Lit.int .i64 a2).wf = true) (w3 : (Lit.int .i64 a3).wf = true) (w4 : (Lit.int .i64 a4).wf = true) (w : World) :
    Calls Try.prog 6 #[.int .u64 a0, .int .u64 a1, .int .i64 a2, .int .i64 a3, .int .i64 a4] w fun e w' => e = .returned (.bool true) ∧ Grown w w' := by
  obtain ⟨l0, u0⟩ := bounds_u64 w0
  obtain ⟨l2, u2⟩ := bounds_i64 w2
  obtain ⟨l3, u3⟩ := bounds_i64 w3
  obtain ⟨l4, u4⟩ := bounds_i64 w4
  clear w0 w1 w2 w3 w4
  have m1 := Int.emod_nonneg a2 (show (65 : Int) ≠ 0 by decide)
  have m2 := Int.emod_lt_of_pos a2 (show (0 : Int) < 65 by decide)
  have k1 := Int.emod_nonneg a4 (show (64 : Int) ≠ 0 by decide)
  have k2 := Int.emod_lt_of_pos a4 (show (0 : Int) < 64 by decide)
  go_enter Try.func6, Try.ntmps6
  go_wp2_with fail
  refine (mod_any _ _ (by omega) (by omega) l2 u2 _).mono ?_
  rintro e w' ⟨rfl, rfl⟩
  generalize a2 % 65 = a at *
  go_wp2_with fail
  refine (mod_any _ _ (by omega) (by omega) l3 u3 _).mono ?_
  rintro e w' ⟨rfl, rfl⟩
  have n1 := Int.emod_nonneg a3 (show 65 - a ≠ 0 by omega)
  have n2 := Int.emod_lt_of_pos a3 (show 0 < 65 - a by omega)
  generalize a3 % (65 - a) = n at *
  have hf := and_mask_fits a1 n
  have x0 := and_lo a1 (maskZ n)
  have x1 := and_hi a1 (maskZ n)
  go_wp2_with fail
  refine (refMask_any _ (by omega) (by omega) _).mono ?_
  rintro e w' ⟨rfl, rfl⟩
  go_wp2_with fail
  generalize bits BinOp.and IntKind.u64 a1 (maskZ n) = x at *
  refine (put_yes _ _ _ _ m1 n1 (by omega) hf _).mono ?_
  rintro e w' ⟨rfl, rfl⟩
  have hy := get_put (v := a0) m1 (by omega) hf x0 x1
  have H := Lib.hid hf
  clear hf
  go_wp2_with fail
  refine (get_yes _ _ _ m1 n1 (by omega) _).mono ?_
  rintro e w' ⟨rfl, rfl⟩
  rw [hy]
  clear hy
  go_wp2_with fail
  refine (mod_any _ _ (by omega) (by omega) l4 u4 _).mono ?_
  rintro e w' ⟨rfl, rfl⟩
  generalize a4 % 64 = k at *
  by_cases h : a ≤ k ∧ k < a + n
  · obtain ⟨h1, h2⟩ := h
    go_wp2
    go_ret
    exact ⟨rfl, Grown.refl _⟩
  · have hk := put_other (v := a0) l0 (by omega) m1 H.out k1 k2 h
    rw [← beq_iff_eq] at hk
    go_wp2
    all_goals (go_ret; exact ⟨rfl, Grown.refl _⟩)

theorem ceil_at {n s : Int} (h0 : 0 ≤ n) (h1 : n ≤ 1099511627776) (h2 : 0 ≤ s) (h3 : s ≤ 20) : n ≤ ceilZ n s * 2 ^ s.toNat ∧ ceilZ n s * 2 ^ s.toNat ≤ n + 2 ^ s.toNat - 1 ∧ 0 ≤ ceilZ n s ∧ ceilZ n s ≤ n := by
  obtain ⟨a, b⟩ := pow20 h2 h3
  unfold ceilZ
  rw [if_pos ⟨h0, h1, h2, h3⟩]
  generalize (2 : Int) ^ s.toNat = d at *
  have e := Int.mul_ediv_add_emod (n + d - 1) d
  have r0 := Int.emod_nonneg (n + d - 1) (show d ≠ 0 by omega)
  have r1 := Int.emod_lt_of_pos (n + d - 1) (show 0 < d by omega)
  rw [Int.mul_comm] at e
  have p0 := Int.ediv_nonneg (show 0 ≤ n + d - 1 by omega) (show 0 ≤ d by omega)
  refine ⟨by omega, by omega, p0, ?_⟩
  have lt : (n + d - 1) / d < n + 1 := by
    apply Int.ediv_lt_of_lt_mul (by omega)
    have : n + d ≤ (n + 1) * d + 1 - 1 := by
      have h := Int.mul_le_mul_of_nonneg_left a h0
      rw [Int.add_mul]; omega
    omega
  omega

theorem ceil_sum {x y s : Int} (x0 : 0 ≤ x) (x1 : x ≤ 1048576) (y0 : 0 ≤ y) (y1 : y ≤ 1048576) (h2 : 0 ≤ s) (h3 : s ≤ 20) :
    ceilZ (x + y) s ≤ ceilZ x s + ceilZ y s ∧ ceilZ x s + ceilZ y s - 1 ≤ ceilZ (x + y) s := by
  obtain ⟨a, b⟩ := pow20 h2 h3
  obtain ⟨p1, p2, p3, p4⟩ := ceil_at x0 (by omega) h2 h3
  obtain ⟨q1, q2, q3, q4⟩ := ceil_at y0 (by omega) h2 h3
  obtain ⟨r1, r2, r3, r4⟩ := ceil_at (show 0 ≤ x + y by omega) (by omega) h2 h3
  generalize ceilZ x s = p at *
  generalize ceilZ y s = q at *
  generalize ceilZ (x + y) s = r at *
  generalize (2 : Int) ^ s.toNat = d at *
  constructor
  · have h : r * d < (p + q + 1) * d := by rw [Int.add_mul, Int.add_mul]; omega
    have := Int.lt_of_mul_lt_mul_right h (by omega)
    omega
  · have h : (p + q) * d < (r + 2) * d := by rw [Int.add_mul, Int.add_mul]; omega
    have := Int.lt_of_mul_lt_mul_right h (by omega)
    omega

theorem ceil_wrap {x s : Int} (x0 : 0 ≤ x) (x1 : x ≤ 1048576) (h2 : 0 ≤ s) (h3 : s ≤ 20) : x ≤ wrap64 (ceilZ x s * 2 ^ s.toNat) := by
  obtain ⟨a, b⟩ := pow20 h2 h3
  obtain ⟨p1, p2, p3, p4⟩ := ceil_at x0 (by omega) h2 h3
  generalize ceilZ x s * 2 ^ s.toNat = q at *
  unfold wrap64; omega

theorem ceil_wrap' {x s : Int} (x0 : 0 ≤ x) (x1 : x ≤ 1048576) (h2 : 0 ≤ s) (h3 : s ≤ 20) : wrap64 ((ceilZ x s - 1) * 2 ^ s.toNat) < x := by
  obtain ⟨a, b⟩ := pow20 h2 h3
  obtain ⟨p1, p2, p3, p4⟩ := ceil_at x0 (by omega) h2 h3
  rw [Int.sub_mul, Int.one_mul]
  generalize ceilZ x s * 2 ^ s.toNat = q at *
  unfold wrap64; omega

theorem walkCeils (a0 a1 a2 : Int) (w0 : (Lit.int .i64 a0).wf = true) (w1 : (Lit.int .i64 a1).wf = true) (w2 : (Lit.int .i64 a2).wf = true) (w : World) :
    Calls Try.prog 7 #[.int .i64 a0, .int .i64 a1, .int .i64 a2] w fun e w' => e = .returned (.bool true) ∧ Grown w w' := by
  obtain ⟨l0, u0⟩ := bounds_i64 w0
  obtain ⟨l1, u1⟩ := bounds_i64 w1
  obtain ⟨l2, u2⟩ := bounds_i64 w2
  clear w0 w1 w2
  go_enter Try.func7, Try.ntmps7
  go_wp2_with fail
  refine (mod_any _ _ (by omega) (by omega) l0 u0 _).mono ?_
  rintro e w' ⟨rfl, rfl⟩
  have x0 := Int.emod_nonneg a0 (show (1048576 : Int) ≠ 0 by decide)
  have x1 := Int.emod_lt_of_pos a0 (show (0 : Int) < 1048576 by decide)
  generalize a0 % 1048576 = x at *
  go_wp2_with fail
  refine (mod_any _ _ (by omega) (by omega) l1 u1 _).mono ?_
  rintro e w' ⟨rfl, rfl⟩
  have y0 := Int.emod_nonneg a1 (show (1048576 : Int) ≠ 0 by decide)
  have y1 := Int.emod_lt_of_pos a1 (show (0 : Int) < 1048576 by decide)
  generalize a1 % 1048576 = y at *
  go_wp2_with fail
  refine (mod_any _ _ (by omega) (by omega) l2 u2 _).mono ?_
  rintro e w' ⟨rfl, rfl⟩
  have s0 := Int.emod_nonneg a2 (show (21 : Int) ≠ 0 by decide)
  have s1 := Int.emod_lt_of_pos a2 (show (0 : Int) < 21 by decide)
  generalize a2 % 21 = s at *
  go_wp2_with fail
  refine (ceil_any _ _ _).mono ?_
  rintro e w' ⟨rfl, rfl⟩
  go_wp2_with fail
  refine (ceil_any _ _ _).mono ?_
  rintro e w' ⟨rfl, rfl⟩
  go_wp2_with fail
  refine (ceil_any _ _ _).mono ?_
  rintro e w' ⟨rfl, rfl⟩
  obtain ⟨c1, c2⟩ := ceil_sum x0 (by omega) y0 (by omega) s0 (show s ≤ 20 by omega)
  have c3 := ceil_wrap x0 (by omega) s0 (show s ≤ 20 by omega)
  have c4 := ceil_wrap' x0 (by omega) s0 (show s ≤ 20 by omega)
  obtain ⟨p1, _, p3, p4⟩ := ceil_at x0 (by omega) s0 (show s ≤ 20 by omega)
  obtain ⟨_, _, q3, q4⟩ := ceil_at y0 (by omega) s0 (show s ≤ 20 by omega)
  generalize ceilZ x s = p at *
  generalize ceilZ y s = q at *
  generalize ceilZ (x + y) s = r at *
  by_cases h : p = 0
  · subst h
    have hx : x ≤ 0 := by rw [Int.zero_mul] at p1; exact p1
    clear p1 c3 c4
    go_wp2_with (go_at_call 14; refine (awake_any _).mono ?_; rintro e w' ⟨rfl, rfl⟩)
    all_goals (go_ret; exact ⟨rfl, Grown.refl _⟩)
  · have hb : (p == 0) = false := by simpa using h
    clear h
    go_wp2_with (go_at_call 14; refine (awake_any _).mono ?_; rintro e w' ⟨rfl, rfl⟩)
    all_goals (go_ret; exact ⟨rfl, Grown.refl _⟩)

/-- two fields that follow each other are the parts of the field that they make together -/
theorem get_parts {v p m n : Int} (v0 : 0 ≤ v) (v1 : v < 18446744073709551616) (p0 : 0 ≤ p) (m0 : 0 ≤ m) (n0 : 0 ≤ n) (h : p + m + n ≤ 64) :
    bits .or .u64 (getZ v p m) (IntKind.u64.wrap (getZ v (p + m) n * 2 ^ m.toNat)) = getZ v p (m + n) := by
  refine ext_bits (or_lo _ _) (or_hi _ _) (get_lo _ _ _) (get_hi _ _ _) fun i hi => ?_
  rw [bit_or, bit_shl _ _ _ hi, bit_get v0 v1 _ hi, bit_get v0 v1 _ hi]
  by_cases h1 : i < m.toNat
  · rw [decide_eq_true h1, decide_eq_true (show (i : Int) < m by omega), decide_eq_true (show (i : Int) < m + n by omega)]; simp
  · rw [decide_eq_false h1, decide_eq_false (show ¬ (i : Int) < m by omega), bit_get v0 v1 _ (by omega), show (p + m).toNat + (i - m.toNat) = p.toNat + i from by omega]
    have e : ((i - m.toNat : Nat) : Int) < n ↔ (i : Int) < m + n := by omega
    simp [e]

theorem get_fits {v p n : Int} (v0 : 0 ≤ v) (v1 : v < 18446744073709551616) : fitsB (getZ v p n) n = true := by
  rw [fits_bits]
  intro i hi hn
  rw [bit_get v0 v1 _ hi, decide_eq_false (by omega)]; simp

theorem mask_parts {m n : Int} (m0 : 0 ≤ m) (n0 : 0 ≤ n) : bits .or .u64 (maskZ m) (IntKind.u64.wrap (maskZ n * 2 ^ m.toNat)) = maskZ (m + n) := by
  have a := maskZ_hi (m + n)
  refine ext_bits (or_lo _ _) (or_hi _ _) (maskZ_lo _) (by omega) fun i hi => ?_
  rw [bit_or, bit_shl _ _ _ hi, bit_mask _ _ hi, bit_mask _ _ (by omega), bit_mask _ _ hi]
  by_cases h1 : i < m.toNat
  · rw [decide_eq_true h1, decide_eq_true (show (i : Int) < m by omega), decide_eq_true (show (i : Int) < m + n by omega)]; simp
  · rw [decide_eq_false h1, decide_eq_false (show ¬ (i : Int) < m by omega)]
    have e : ((i - m.toNat : Nat) : Int) < n ↔ (i : Int) < m + n := by omega
    simp [e]

theorem walkParts (a0 a1 a2 a3 : Int) (w0 : (Lit.int .u64 a0).wf = true) (w1 : (Lit.int .i64 a1).wf = true) (w2 : (Lit.int .i64 a2).wf = true) (w3 : (Lit.int .i64 a3).wf = true) (w : World) :
    Calls Try.prog 8 #[.int .u64 a0, .int .i64 a1, .int .i64 a2, .int .i64 a3] w fun e w' => e = .returned (.bool true) ∧ Grown w w' := by
  obtain ⟨l0, u0⟩ := bounds_u64 w0
  obtain ⟨l1, u1⟩ := bounds_i64 w1
  obtain ⟨l2, u2⟩ := bounds_i64 w2
  obtain ⟨l3, u3⟩ := bounds_i64 w3
  clear w0 w1 w2 w3
  go_enter Try.func8, Try.ntmps8
  go_wp2_with fail
  refine (mod_any _ _ (by omega) (by omega) l1 u1 _).mono ?_
  rintro e w' ⟨rfl, rfl⟩
  have p0 := Int.emod_nonneg a1 (show (65 : Int) ≠ 0 by decide)
  have p1 := Int.emod_lt_of_pos a1 (show (0 : Int) < 65 by decide)
  generalize a1 % 65 = p at *
  go_wp2_with fail
  refine (mod_any _ _ (by omega) (by omega) l2 u2 _).mono ?_
  rintro e w' ⟨rfl, rfl⟩
  have m0 := Int.emod_nonneg a2 (show 65 - p ≠ 0 by omega)
  have m1 := Int.emod_lt_of_pos a2 (show 0 < 65 - p by omega)
  generalize a2 % (65 - p) = m at *
  go_wp2_with fail
  refine (mod_any _ _ (by omega) (by omega) l3 u3 _).mono ?_
  rintro e w' ⟨rfl, rfl⟩
  have n0 := Int.emod_nonneg a3 (show 65 - p - m ≠ 0 by omega)
  have n1 := Int.emod_lt_of_pos a3 (show 0 < 65 - p - m by omega)
  generalize a3 % (65 - p - m) = n at *
  have h1 := Lib.hid (get_parts l0 (show a0 < 18446744073709551616 by omega) p0 m0 n0 (by omega))
  have h2 := Lib.hid (get_fits (p := p) (n := m + n) l0 (show a0 < 18446744073709551616 by omega))
  have h3 := Lib.hid (mask_parts m0 n0)
  go_wp2_with fail
  refine (get_yes _ _ _ p0 m0 (by omega) _).mono ?_
  rintro e w' ⟨rfl, rfl⟩
  go_wp2_with fail
  refine (get_yes _ _ _ (by omega) n0 (by omega) _).mono ?_
  rintro e w' ⟨rfl, rfl⟩
  go_wp2_with fail
  refine (get_yes _ _ _ p0 (by omega) (by omega) _).mono ?_
  rintro e w' ⟨rfl, rfl⟩
  have t1 : (getZ a0 p (m + n) == bits .or .u64 (getZ a0 p m) (IntKind.u64.wrap (getZ a0 (p + m) n * 2 ^ m.toNat))) = true := by rw [h1.out]; simp
  have t3 : (bits .or .u64 (maskZ m) (IntKind.u64.wrap (maskZ n * 2 ^ m.toNat)) == maskZ (m + n)) = true := by rw [h3.out]; simp
  go_wp2_with fail
  refine (fits_any _ _ (by omega) (by omega) _).mono ?_
  rintro e w' ⟨rfl, rfl⟩
  rw [h2.out]
  go_wp2_with fail
  refine (mask_any _ (by omega) (by omega) _).mono ?_
  rintro e w' ⟨rfl, rfl⟩
  go_wp2_with fail
  refine (mask_any _ (by omega) (by omega) _).mono ?_
  rintro e w' ⟨rfl, rfl⟩
  go_wp2_with fail
  refine (mask_any _ (by omega) (by omega) _).mono ?_
  rintro e w' ⟨rfl, rfl⟩
  go_wp2_with fail
  refine (awake_any _).mono ?_
  rintro e w' ⟨rfl, rfl⟩
  go_wp2
  go_ret
  exact ⟨rfl, Grown.refl _⟩
end Go.Proofs.Ythbkjihlbdchiaa
