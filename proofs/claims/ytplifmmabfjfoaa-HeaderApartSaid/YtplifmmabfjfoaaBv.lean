/-
  Words of 64 bits as bit vectors: what the bit operations, shifts and masks of layer 1 do to each bit. No Go in sight.
-/
import Derived.Test.YtplifmmabfjfoaaMath
namespace Go.Proofs.Ytplifmmabfjfoaa

/-- the bits of a word -/
def bv (z : Int) : BitVec 64 := BitVec.ofInt 64 z
def bit (z : Int) (i : Nat) : Bool := (bv z).getLsbD i

theorem bv_toNat (b : BitVec 64) : bv (b.toNat : Int) = b := by
  unfold bv; rw [BitVec.ofInt_natCast, BitVec.ofNat_toNat, BitVec.setWidth_eq]

theorem bits_u64_eq {b : BitVec 64} : IntKind.u64.wrap (b.toNat : Int) = b.toNat := by
  have := b.isLt
  rw [IntKind.wrap_u64]; omega

theorem and_eq (x y : Int) : bits .and .u64 x y = ((bv x &&& bv y).toNat : Int) := bits_u64_eq
theorem or_eq (x y : Int) : bits .or .u64 x y = ((bv x ||| bv y).toNat : Int) := bits_u64_eq
theorem andNot_eq (x y : Int) : bits .andNot .u64 x y = ((bv x &&& ~~~bv y).toNat : Int) := bits_u64_eq

theorem bv_and (x y : Int) : bv (bits .and .u64 x y) = bv x &&& bv y := by rw [and_eq, bv_toNat]
theorem bv_or (x y : Int) : bv (bits .or .u64 x y) = bv x ||| bv y := by rw [or_eq, bv_toNat]
theorem bv_andNot (x y : Int) : bv (bits .andNot .u64 x y) = bv x &&& ~~~bv y := by rw [andNot_eq, bv_toNat]

theorem and_lo (x y : Int) : 0 ≤ bits .and .u64 x y := by rw [and_eq]; omega
theorem and_hi (x y : Int) : bits .and .u64 x y < 18446744073709551616 := by rw [and_eq]; have := (bv x &&& bv y).isLt; omega
theorem or_lo (x y : Int) : 0 ≤ bits .or .u64 x y := by rw [or_eq]; omega
theorem or_hi (x y : Int) : bits .or .u64 x y < 18446744073709551616 := by rw [or_eq]; have := (bv x ||| bv y).isLt; omega

theorem bv_inj {x y : Int} (x0 : 0 ≤ x) (x1 : x < 18446744073709551616) (y0 : 0 ≤ y) (y1 : y < 18446744073709551616) (h : bv x = bv y) : x = y := by
  have h' := congrArg BitVec.toNat h
  unfold bv at h'
  rw [BitVec.toNat_ofInt, BitVec.toNat_ofInt] at h'
  have e : ((2 ^ 64 : Nat) : Int) = 18446744073709551616 := by decide
  rw [e] at h'; omega

theorem ext_bits {x y : Int} (x0 : 0 ≤ x) (x1 : x < 18446744073709551616) (y0 : 0 ≤ y) (y1 : y < 18446744073709551616) (h : ∀ i, i < 64 → bit x i = bit y i) : x = y :=
  bv_inj x0 x1 y0 y1 (BitVec.eq_of_getLsbD_eq h)

theorem bit_and (x y : Int) (i : Nat) : bit (bits .and .u64 x y) i = (bit x i && bit y i) := by unfold bit; rw [bv_and, BitVec.getLsbD_and]
theorem bit_or (x y : Int) (i : Nat) : bit (bits .or .u64 x y) i = (bit x i || bit y i) := by unfold bit; rw [bv_or, BitVec.getLsbD_or]
theorem bit_andNot (x y : Int) (i : Nat) (h : i < 64) : bit (bits .andNot .u64 x y) i = (bit x i && !bit y i) := by
  unfold bit; rw [bv_andNot, BitVec.getLsbD_and, BitVec.getLsbD_not]; simp [h]

theorem bit_big (x : Int) {i : Nat} (h : 64 ≤ i) : bit x i = false := by unfold bit; exact BitVec.getLsbD_of_ge _ _ h

theorem bv_shl (x : Int) (s : Nat) : bv (IntKind.u64.wrap (x * 2 ^ s)) = bv x <<< s := by
  apply BitVec.eq_of_toNat_eq
  unfold bv
  rw [BitVec.toNat_shiftLeft, BitVec.toNat_ofInt, BitVec.toNat_ofInt, IntKind.wrap_u64, Nat.shiftLeft_eq]
  have e : ((2 ^ 64 : Nat) : Int) = 18446744073709551616 := by decide
  have em : (x * 2 ^ s) % 18446744073709551616 = (x % 18446744073709551616 * 2 ^ s) % 18446744073709551616 := by
    rw [Int.mul_emod x, Int.mul_emod (x % 18446744073709551616) (2 ^ s), Int.emod_emod]
  rw [e, Int.emod_emod, em]
  have p : (0 : Int) ≤ x % 18446744073709551616 := Int.emod_nonneg _ (by decide)
  obtain ⟨m, hm⟩ := Int.eq_ofNat_of_zero_le p
  rw [hm, Int.toNat_natCast]
  have hp : ((2 : Int) ^ s) = ((2 ^ s : Nat) : Int) := by simp
  rw [hp, ← Int.natCast_mul]
  generalize m * 2 ^ s = q
  omega

theorem bv_shr {x : Int} (x0 : 0 ≤ x) (x1 : x < 18446744073709551616) (s : Nat) : bv (x / 2 ^ s) = bv x >>> s := by
  obtain ⟨m, rfl⟩ := Int.eq_ofNat_of_zero_le x0
  apply BitVec.eq_of_toNat_eq
  unfold bv
  have hp : ((2 : Int) ^ s) = ((2 ^ s : Nat) : Int) := by simp
  rw [hp, ← Int.natCast_ediv, BitVec.ofInt_natCast, BitVec.ofInt_natCast, BitVec.toNat_ushiftRight, BitVec.toNat_ofNat, BitVec.toNat_ofNat, Nat.shiftRight_eq_div_pow]
  have h : m / 2 ^ s ≤ m := Nat.div_le_self _ _
  rw [Nat.mod_eq_of_lt (show m < 2 ^ 64 by omega), Nat.mod_eq_of_lt (show m / 2 ^ s < 2 ^ 64 by omega)]

theorem bit_shl (x : Int) (s i : Nat) (h : i < 64) : bit (IntKind.u64.wrap (x * 2 ^ s)) i = (!decide (i < s) && bit x (i - s)) := by
  unfold bit; rw [bv_shl, BitVec.getLsbD_shiftLeft]; simp [h]

theorem bit_shr {x : Int} (x0 : 0 ≤ x) (x1 : x < 18446744073709551616) (s i : Nat) : bit (x / 2 ^ s) i = bit x (s + i) := by
  unfold bit; rw [bv_shr x0 x1, BitVec.getLsbD_ushiftRight]

theorem shr_lo {x : Int} (x0 : 0 ≤ x) (s : Nat) : 0 ≤ x / 2 ^ s := Int.ediv_nonneg x0 (Int.le_of_lt (Int.pow_pos (by decide)))
theorem shr_hi {x : Int} (x0 : 0 ≤ x) (x1 : x < 18446744073709551616) (s : Nat) : x / 2 ^ s < 18446744073709551616 := by
  have := Int.ediv_le_self (2 ^ s) x0
  omega
theorem shl_lo (x : Int) (s : Nat) : 0 ≤ IntKind.u64.wrap (x * 2 ^ s) := by rw [IntKind.wrap_u64]; omega
theorem shl_hi (x : Int) (s : Nat) : IntKind.u64.wrap (x * 2 ^ s) < 18446744073709551616 := by rw [IntKind.wrap_u64]; omega

theorem bit_mask (n : Int) (i : Nat) (h : i < 64) : bit (maskZ n) i = decide ((i : Int) < n) := by
  unfold bit bv maskZ maskN
  rw [BitVec.ofInt_natCast, BitVec.getLsbD_ofNat, Nat.testBit_two_pow_sub_one]
  have e : (i < min n.toNat 64) ↔ ((i : Int) < n) := by omega
  simp [h]; omega

theorem bit_zero (i : Nat) : bit 0 i = false := by unfold bit bv; simp

theorem bit_get {v a n : Int} (v0 : 0 ≤ v) (v1 : v < 18446744073709551616) (i : Nat) (h : i < 64) : bit (getZ v a n) i = (decide ((i : Int) < n) && bit v (a.toNat + i)) := by
  unfold getZ; rw [bit_and, bit_shr v0 v1, bit_mask _ _ h, Bool.and_comm]

theorem get_lo (v a n : Int) : 0 ≤ getZ v a n := and_lo _ _
theorem get_hi (v a n : Int) : getZ v a n < 18446744073709551616 := and_hi _ _
theorem put_lo (v a n x : Int) : 0 ≤ putZ v a n x := or_lo _ _
theorem put_hi (v a n x : Int) : putZ v a n x < 18446744073709551616 := or_hi _ _

theorem fits_bits {v n : Int} : fitsB v n = true ↔ ∀ i : Nat, i < 64 → n ≤ (i : Int) → bit v i = false := by
  unfold fitsB
  rw [beq_iff_eq]
  constructor
  · intro h i hi hn
    have e := bit_andNot v (maskZ n) i hi
    rw [h, bit_zero, bit_mask _ _ hi, decide_eq_false (by omega)] at e
    simpa using e.symm
  · intro h
    refine ext_bits (by rw [andNot_eq]; omega) (by rw [andNot_eq]; have := (bv v &&& ~~~bv (maskZ n)).isLt; omega) (by decide) (by decide) fun i hi => ?_
    rw [bit_andNot _ _ _ hi, bit_mask _ _ hi, bit_zero]
    by_cases hn : n ≤ (i : Int)
    · rw [h i hi hn]; rfl
    · rw [decide_eq_true (by omega)]; simp

theorem bit_put {v a n x : Int} (a0 : 0 ≤ a) (hf : fitsB x n = true) (i : Nat) (h : i < 64) :
    bit (putZ v a n x) i = if a ≤ (i : Int) ∧ (i : Int) < a + n then bit x (i - a.toNat) else bit v i := by
  unfold putZ
  rw [bit_or, bit_andNot _ _ _ h, bit_shl _ _ _ h, bit_shl _ _ _ h]
  by_cases h1 : i < a.toNat
  · rw [if_neg (by omega), decide_eq_true h1]; simp
  · rw [decide_eq_false h1]
    have hi : i - a.toNat < 64 := by omega
    rw [bit_mask _ _ hi]
    by_cases h2 : (i : Int) < a + n
    · rw [if_pos (by omega), decide_eq_true (by omega)]; simp
    · rw [if_neg (by omega), decide_eq_false (by omega), (fits_bits.1 hf) _ hi (by omega)]; simp

end Go.Proofs.Ytplifmmabfjfoaa
