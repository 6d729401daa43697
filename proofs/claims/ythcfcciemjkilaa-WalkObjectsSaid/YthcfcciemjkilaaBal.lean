/-
  Alloc of package bump for every raw space, every increment and every number of words. (Made by mkbal-s9.py.)
-/
import Derived.Test.YthcfcciemjkilaaBap
import Derived.Test.YthcfcciemjkilaaMSpace
import Derived.Deep.RegionHeld3
import Derived.Deep.DeepCutAuto
namespace Go.Proofs.Ythcfcciemjkilaa
open Go.RowKit
set_option maxRecDepth 100000
set_option linter.unusedVariables false

theorem extZ_nat {k W d : Nat} (hW : W ≤ 16384) (hd : d ≤ 48) (hk : k ≤ 8) : extZ k W d = (moreK k W d : Nat) := by
  unfold extZ moreK
  have h1 := ceilV_mono k (show W ≤ W + d by omega)
  have h2 := ceilV_le (a := W + d) (k := k) Nat.one_le_two_pow
  rw [IntWalk.i64_in ((W : Int) + d) (by omega), show (W : Int) + d = ((W + d : Nat) : Int) by simp, ceilZ_nat (by omega) (by omega), ceilZ_nat (by omega) (by omega), IntWalk.i64_in _ (by omega)]
  omega
/-- The word behind W others of a chain, as Step finds it from the chain's beginning. -/
theorem stp_val {k nw n : Nat} {wd : Nat → Int} {G : Nat → Fr} {p m W : Nat} {la sq st : Int} (hv : ValidP k nw wd n G) (hc : ChainP G n p la m sq st) (hst : stB st sq = true) (hW : W < m * 2 ^ k) : stpV k nw wd n G ((p : Int) * 2 ^ k) W = addrP G k p W := by
  have hm : 0 < m := by
    rcases Nat.eq_zero_or_pos m with h | h
    · rw [h] at hW; omega
    · exact h
  obtain ⟨q, hq1, hq2, hq3, _⟩ := hc.at_ hv.fv hst hm
  have hlen : LenP G p m := ⟨hc.end_ hm, fun i hi he => by obtain ⟨q, hq1, _⟩ := hc.at_ hv.fv hst hi; omega⟩
  have hpq : p = q := by
    rcases hc with ⟨h7, _⟩ | ⟨_, p', l, h7, _, h8, _, h9, _⟩
    · omega
    · simp only [iter] at hq1; omega
  subst hpq
  have hz : (0 : Int) < 2 ^ k := Int.pow_pos (by decide)
  have ez : ((2 ^ k : Nat) : Int) = (2 : Int) ^ k := by simp
  have hnw : nw = n * 2 ^ k := by have := hv.2.2.1; rw [Int.toNat_natCast] at this; exact this
  have hdv : (p : Int) * 2 ^ k / 2 ^ (Int.toNat (k : Int)) = p := by rw [Int.toNat_natCast]; exact Int.mul_ediv_cancel _ (by omega)
  have hmd : (p : Int) * 2 ^ k % 2 ^ (Int.toNat (k : Int)) = 0 := by rw [Int.toNat_natCast]; exact Int.mul_emod_left _ _
  have hso : (G p).ow ≠ -1 := by have := (stB_yes hst).1; omega
  have hlt : p * 2 ^ k < n * 2 ^ k := Nat.mul_lt_mul_of_pos_right hq2 (Nat.two_pow_pos k)
  have hE : stpE k nw wd n G ((p : Int) * 2 ^ k) W = 0 := by
    unfold stpE
    rw [hdv, hmd, Int.toNat_natCast, if_neg (by rw [validB_yes hv]; decide), if_neg, if_neg hso, if_neg]
    · rw [chL_length hlen (hlen.bound hv.fv rfl hq2), Int.toNat_natCast, ← ez]
      have : ((m * 2 ^ k : Nat) : Int) = (m : Int) * ((2 ^ k : Nat) : Int) := by simp
      omega
    · simp only [adB, not_or, Bool.not_eq_false, Bool.and_eq_true, decide_eq_true_eq]
      have h1 : ((p * 2 ^ k : Nat) : Int) = (p : Int) * 2 ^ k := by simp
      refine ⟨⟨by omega, by omega⟩, by omega⟩
  unfold stpV
  rw [if_pos hE, hdv, hmd, Int.zero_add, Int.toNat_natCast, Int.toNat_natCast]

end Go.Proofs.Ythcfcciemjkilaa
