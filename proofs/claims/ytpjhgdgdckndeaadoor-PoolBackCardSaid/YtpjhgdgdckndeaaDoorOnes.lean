/-
  Contracts of math/bits: OnesCount64, TrailingZeros64.
-/
import Derived.Test.YtpjhgdgdckndeaaDoorRows
import Derived.Test.YtpjhgdgdckndeaaDoorBitset
import Derived.WalkKit
import Derived.Laws.Bits64b
import Derived.Laws.BitsLemmas
import Derived.Lib.Hide
namespace Go.Proofs.YtpjhgdgdckndeaaDoor
open Go.RowKit
set_option linter.unusedVariables false

/-- The table of math/bits in its variable. -/
def Db (w : World) : Prop := ∀ j, j < 64 → w.cell? ⟨0, j, none⟩ = some (.int .u8 (Lib.deBruijn64tab.getD j 0))
theorem Db.size {w : World} (h : Db w) : 0 < w.heap.size := by
  have := h 0 (by omega)
  rcases Nat.lt_or_ge 0 w.heap.size with hl | hg
  · exact hl
  · simp [World.cell?, Array.getElem?_eq_none hg] at this
theorem Db.below {w w' : World} {B : Nat} (h : Db w) (hb : Below B w w') (hB : 0 < B) : Db w' := fun j hj => (hb.cell (p := ⟨0, j, none⟩) hB).trans (h j hj)
theorem Db.next {w w' : World} (h : Db w) (hb : Below w.heap.size w w') : Db w' := h.below hb h.size

set_option maxHeartbeats 1000000 in
theorem tz_core (x k idx : Nat) (w : World) (hx0 : ((x : Int) == 0) = false)
    (key : IntKind.u64.wrap (bits BinOp.and IntKind.u64 (x : Int) (IntKind.u64.wrap (-(x : Int))) * 285870213051353865) / 288230376151711744 = (idx : Int))
    (hi : idx < 64) (hk : k < 64) (hcell : w.cell? ⟨0, idx, none⟩ = some (.int .u8 k)) :
    Calls Tryd.prog 35 #[.int .u64 x] w fun e w' => e = .returned (.int .i64 k) ∧ w = w' := by
  go_enter Tryd.func35, Tryd.ntmps35
  go_wp2_with (simp only [key])
  go_ret
  exact ⟨rfl, rfl⟩
theorem tz_key (x a : Nat) (hx : x < 18446744073709551616) (hx0 : x ≠ 0) (hlow : x &&& (18446744073709551616 - x) = a) :
    IntKind.u64.wrap (bits BinOp.and IntKind.u64 (x : Int) (IntKind.u64.wrap (-(x : Int))) * 285870213051353865) / 288230376151711744 = ((a * 285870213051353865 % 18446744073709551616 / 288230376151711744 : Nat) : Int) := by
  have e1 : IntKind.u64.wrap (-(x : Int)) = ((18446744073709551616 - x : Nat) : Int) := by rw [IntKind.wrap_u64]; omega
  rw [e1, bits_and_u64_nat x _ hx (by omega), hlow, IntKind.wrap_u64]
  omega
/-- The least bit of a word that is not 0. -/
theorem tz_any (x : Nat) (hx : x < 18446744073709551616) (hx0 : x ≠ 0) (w : World) (hT : Db w) :
    Calls Tryd.prog 35 #[.int .u64 x] w fun e w' => e = .returned (.int .i64 (Lib.ctz 64 x : Nat)) ∧ w = w' := by
  obtain ⟨hlow, hk⟩ := Lib.lowest_bit 64 x hx0 hx
  obtain ⟨hi, htab⟩ := Lib.deBruijn64_at _ hk
  have hcell := hT _ hi
  rw [htab] at hcell
  exact tz_core x _ _ w (by simp; omega) (tz_key x _ hx hx0 hlow) hi hk hcell

theorem and_127 (y : Nat) (h : y < 9223372036854775808) : bits BinOp.and IntKind.i64 (y : Int) 127 = ((y % 128 : Nat) : Int) := by
  have h1 : (BitVec.ofInt 64 (y : Int)).toNat = y := by
    rw [BitVec.ofInt_natCast, BitVec.toNat_ofNat]; exact Nat.mod_eq_of_lt (by omega)
  have h2 : (BitVec.ofInt 64 (127 : Int)).toNat = 127 := by decide
  show IntKind.i64.wrap ((BitVec.ofInt 64 (y : Int) &&& BitVec.ofInt 64 (127 : Int)).toNat : Int) = _
  rw [BitVec.toNat_and, h1, h2, show (127 : Nat) = 2 ^ 7 - 1 by rfl, Nat.and_two_pow_sub_one_eq_mod, IntKind.wrap_i64]
  omega
set_option maxHeartbeats 4000000 in
theorem ones_any (x : Nat) (hx : x < 18446744073709551616) (w : World) :
    Calls Tryd.prog 29 #[.int .u64 x] w fun e w' => e = .returned (.int .i64 (bitsT x 64 : Nat)) ∧ w = w' := by
  obtain ⟨y1, h1⟩ : ∃ y, y = (x / 2 &&& 6148914691236517205) + (x &&& 6148914691236517205) := ⟨_, rfl⟩
  obtain ⟨y2, h2⟩ : ∃ y, y = (y1 / 4 &&& 3689348814741910323) + (y1 &&& 3689348814741910323) := ⟨_, rfl⟩
  obtain ⟨y3, h3⟩ : ∃ y, y = (y2 / 16 + y2) &&& 1085102592571150095 := ⟨_, rfl⟩
  obtain ⟨b1, b2, b3, b4, b5⟩ := swar x y1 y2 y3 hx h1 h2 h3
  go_enter Tryd.func29, Tryd.ntmps29
  go_wp2
  go_ret
  have k1 : IntKind.u64.wrap (bits BinOp.and IntKind.u64 ((x : Int) / 2) 6148914691236517205 + bits BinOp.and IntKind.u64 (x : Int) 6148914691236517205) = (y1 : Int) := by
    have a := bits_and_u64_nat (x / 2) 6148914691236517205 (by omega) (by decide)
    have b := bits_and_u64_nat x 6148914691236517205 (by omega) (by decide)
    rw [show ((x : Int) / 2) = ((x / 2 : Nat) : Int) by omega, show (6148914691236517205 : Int) = ((6148914691236517205 : Nat) : Int) by rfl, a, b, IntKind.wrap_u64]
    omega
  have k2 : IntKind.u64.wrap (bits BinOp.and IntKind.u64 ((y1 : Int) / 4) 3689348814741910323 + bits BinOp.and IntKind.u64 (y1 : Int) 3689348814741910323) = (y2 : Int) := by
    have a := bits_and_u64_nat (y1 / 4) 3689348814741910323 (by omega) (by decide)
    have b := bits_and_u64_nat y1 3689348814741910323 (by omega) (by decide)
    rw [show ((y1 : Int) / 4) = ((y1 / 4 : Nat) : Int) by omega, show (3689348814741910323 : Int) = ((3689348814741910323 : Nat) : Int) by rfl, a, b, IntKind.wrap_u64]
    omega
  have k3 : bits BinOp.and IntKind.u64 (IntKind.u64.wrap ((y2 : Int) / 16 + (y2 : Int))) 1085102592571150095 = (y3 : Int) := by
    have a := bits_and_u64_nat (y2 / 16 + y2) 1085102592571150095 (by omega) (by decide)
    have e : IntKind.u64.wrap ((y2 : Int) / 16 + (y2 : Int)) = ((y2 / 16 + y2 : Nat) : Int) := by rw [IntKind.wrap_u64]; omega
    rw [e, show (1085102592571150095 : Int) = ((1085102592571150095 : Nat) : Int) by rfl, a, ← h3]
  have k4 : IntKind.u64.wrap ((y3 : Int) + (y3 : Int) / 256) = ((y3 + y3 / 256 : Nat) : Int) := by rw [IntKind.wrap_u64]; omega
  obtain ⟨y4, h4⟩ : ∃ y, y = y3 + y3 / 256 := ⟨_, rfl⟩
  have c4 : y4 < 1152921504606846976 * 2 := by have q := b3; clear k1 k2 k3 k4 b4 b5 h1 h2 h3; omega
  rw [← h4] at k4 b4
  have k5 : IntKind.u64.wrap ((y4 : Int) + (y4 : Int) / 65536) = ((y4 + y4 / 65536 : Nat) : Int) := by clear k1 k2 k3 k4 b4 b5 h1 h2 h3 h4; rw [IntKind.wrap_u64]; omega
  obtain ⟨y5, h5⟩ : ∃ y, y = y4 + y4 / 65536 := ⟨_, rfl⟩
  have c5 : y5 < 1152921504606846976 * 3 := by have q := c4; clear k1 k2 k3 k4 b4 b5 h1 h2 h3; omega
  rw [← h5] at k5 b4
  have k6 : IntKind.u64.wrap ((y5 : Int) + (y5 : Int) / 4294967296) = ((y5 + y5 / 4294967296 : Nat) : Int) := by clear k1 k2 k3 k4 k5 b4 b5 h1 h2 h3 h4 h5; rw [IntKind.wrap_u64]; omega
  obtain ⟨y6, h6⟩ : ∃ y, y = y5 + y5 / 4294967296 := ⟨_, rfl⟩
  have c6 : y6 < 1152921504606846976 * 4 := by have q := c5; clear k1 k2 k3 k4 b4 b5 h1 h2 h3; omega
  rw [← h6] at k6 b4
  simp only [k1, k2, k3, k4, k5, k6]
  have hw : wrap64 (y6 : Int) = (y6 : Int) := by clear k1 k2 k3 k4 k5 k6 b4 b5 h1 h2 h3 h4 h5 h6; unfold wrap64; omega
  refine ⟨?_, trivial⟩
  rw [hw]
  show Ending.returned (.int .i64 (bits BinOp.and IntKind.i64 (y6 : Int) 127)) = _
  rw [and_127 y6 (by clear k1 k2 k3 k4 k5 k6 b4 b5 h1 h2 h3 h4 h5 h6; omega), b4]
end Go.Proofs.YtpjhgdgdckndeaaDoor
