/-
  Layer 19: words within increments, their frames and stamps (pure).
-/
import Derived.Test.YtjkbjbikofindaaVNot
import Derived.Test.YtjkbjbikofindaaVBef
import Derived.Test.YtjkbjbikofindaaMSpace
namespace Go.Proofs.Ytjkbjbikofindaa
open Go.RowKit
set_option maxRecDepth 100000
set_option linter.unusedVariables false

theorem stp_both {k nw n : Nat} {wd : Nat → Int} {G : Nat → Fr} {p m W : Nat} {la sq st : Int} (hv : ValidP k nw wd n G) (hc : ChainP G n p la m sq st) (hst : stB st sq = true) (hW : W < m * 2 ^ k) : stpE k nw wd n G ((p : Int) * 2 ^ k) W = 0 ∧ stpV k nw wd n G ((p : Int) * 2 ^ k) W = addrP G k p W := by
  have hm : 0 < m := by
    rcases Nat.eq_zero_or_pos m with h | h
    · rw [h] at hW; omega
    · exact h
  obtain ⟨q, hq1, hq2, hq3, _⟩ := hc.at_ hv.fv hst hm
  have hlen : LenP G p m := ⟨hc.end_ hm, fun i hi he => by obtain ⟨q, hq1, _⟩ := hc.at_ hv.fv hst hi; omega⟩
  have hpq : p = q := by
    rcases hc with ⟨h7, _⟩ | ⟨_, p', l, h7, _, h8, _, h9, _⟩
    · omega
    · simp only [iter] at hq1; omega
  subst hpq
  have hz : (0 : Int) < 2 ^ k := Int.pow_pos (by decide)
  have ez : ((2 ^ k : Nat) : Int) = (2 : Int) ^ k := by simp
  have hnw : nw = n * 2 ^ k := by have := hv.2.2.1; rw [Int.toNat_natCast] at this; exact this
  have hdv : (p : Int) * 2 ^ k / 2 ^ (Int.toNat (k : Int)) = p := by rw [Int.toNat_natCast]; exact Int.mul_ediv_cancel _ (by omega)
  have hmd : (p : Int) * 2 ^ k % 2 ^ (Int.toNat (k : Int)) = 0 := by rw [Int.toNat_natCast]; exact Int.mul_emod_left _ _
  have hso : (G p).ow ≠ -1 := by have := (stB_yes hst).1; omega
  have hlt : p * 2 ^ k < n * 2 ^ k := Nat.mul_lt_mul_of_pos_right hq2 (Nat.two_pow_pos k)
  have hE : stpE k nw wd n G ((p : Int) * 2 ^ k) W = 0 := by
    unfold stpE
    rw [hdv, hmd, Int.toNat_natCast, if_neg (by rw [validB_yes hv]; decide), if_neg, if_neg hso, if_neg]
    · rw [chL_length hlen (hlen.bound hv.fv rfl hq2), Int.toNat_natCast, ← ez]
      have : ((m * 2 ^ k : Nat) : Int) = (m : Int) * ((2 ^ k : Nat) : Int) := by simp
      omega
    · simp only [adB, not_or, Bool.not_eq_false, Bool.and_eq_true, decide_eq_true_eq]
      have h1 : ((p * 2 ^ k : Nat) : Int) = (p : Int) * 2 ^ k := by simp
      refine ⟨⟨by omega, by omega⟩, by omega⟩
  refine ⟨hE, ?_⟩
  unfold stpV
  rw [if_pos hE, hdv, hmd, Int.zero_add, Int.toNat_natCast, Int.toNat_natCast]

/-- A word within an increment: where it lies, and whose its frame is. -/
theorem inc_at {k nw n : Nat} {wd : Nat → Int} {F : Nat → Fr} {sq bt fi la wo : Int} (hv : ValidP k nw wd n F) (hp : IncP F n k sq bt fi la wo) (hw : 0 < wo) :
    ∃ p : Nat, fi = p ∧ p < n ∧ wo ≤ ((n * 2 ^ k : Nat) : Int) ∧ ∀ J : Nat, (J : Int) < wo → ∃ q r : Nat, q < n ∧ r < 2 ^ k ∧ stpE k nw wd n F ((p : Int) * 2 ^ k) J = 0 ∧ stpV k nw wd n F ((p : Int) * 2 ^ k) J = ((q * 2 ^ k + r : Nat) : Int) ∧ (F q).ow = sq ∧ (F q).st = bt * 4294967296 + sq := by
  obtain ⟨a1, a2, a3, a4, W, hW, hc, hcn⟩ := hp
  have hst : stB (bt * 4294967296 + sq) sq = true := by
    rw [← stB_of]
    exact ⟨a1, by omega, by omega⟩
  have hcov := ceilV_cover W k
  have hpos : 0 < ceilV W k := by
    rcases Nat.eq_zero_or_pos (ceilV W k) with e | e
    · rw [e] at hcov; omega
    · exact e
  obtain ⟨p, hf, hp, hc'⟩ : ∃ p : Nat, fi = p ∧ p < n ∧ ChainP F n (p : Int) la (ceilV W k) sq (bt * 4294967296 + sq) := by
    rcases id hc with ⟨h, _⟩ | ⟨_, p, l, hf, hp, _⟩
    · omega
    · exact ⟨p, hf, hp, hf ▸ hc⟩
  refine ⟨p, hf, hp, ?_, fun J hJ => ?_⟩
  · have h1 := cntO_le F sq n
    have h2 := Nat.mul_le_mul_right (2 ^ k) (show ceilV W k ≤ n by omega)
    omega
  have hJ2 : J < ceilV W k * 2 ^ k := by omega
  obtain ⟨h1, h2⟩ := stp_both hv hc' hst hJ2
  have hz : 0 < 2 ^ k := Nat.two_pow_pos k
  obtain ⟨q, hq1, hq2, hq3, hq4⟩ := hc'.at_ hv.fv hst (i := J / 2 ^ k) (Nat.div_lt_of_lt_mul (by rw [Nat.mul_comm]; exact hJ2))
  refine ⟨q, J % 2 ^ k, hq2, Nat.mod_lt _ hz, h1, ?_, hq3, hq4⟩
  rw [h2, addrP, hq1]
  simp

/-- Whether a slot within one increment has to be remembered for a word within another. -/
theorem prB_at {k nw n : Nat} {F : Nat → Fr} {q r q' r' : Nat} (hnw : nw = n * 2 ^ k) (hq : q < n) (hr : r < 2 ^ k) (hq' : q' < n) (hr' : r' < 2 ^ k) (ho : (F q).ow ≠ -1) (ho' : (F q').ow ≠ -1) :
    prB k nw F ((q * 2 ^ k + r : Nat) : Int) (((q' * 2 ^ k + r' : Nat) : Int) + 1) = decide ((F q').st < (F q).st) := by
  have hz : 0 < 2 ^ k := Nat.two_pow_pos k
  have b1 : q * 2 ^ k + r < nw := by
    have := Nat.mul_le_mul_right (2 ^ k) (show q + 1 ≤ n by omega)
    rw [Nat.add_mul, Nat.one_mul] at this
    omega
  have b2 : q' * 2 ^ k + r' < nw := by
    have := Nat.mul_le_mul_right (2 ^ k) (show q' + 1 ≤ n by omega)
    rw [Nat.add_mul, Nat.one_mul] at this
    omega
  have hk : prOk nw ((q * 2 ^ k + r : Nat) : Int) (((q' * 2 ^ k + r' : Nat) : Int) + 1) = true := prOk_yes ⟨by omega, by omega, by omega, by omega⟩
  have d1 : (((q * 2 ^ k + r : Nat) : Int) / 2 ^ k).toNat = q := by
    rw [show (2 : Int) ^ k = ((2 ^ k : Nat) : Int) by simp, ← Int.natCast_ediv, Int.toNat_natCast, Nat.mul_comm, Nat.mul_add_div hz, Nat.div_eq_of_lt hr, Nat.add_zero]
  have d2 : ((((q' * 2 ^ k + r' : Nat) : Int) + 1 - 1) / 2 ^ k).toNat = q' := by
    rw [Int.add_sub_cancel, show (2 : Int) ^ k = ((2 ^ k : Nat) : Int) by simp, ← Int.natCast_ediv, Int.toNat_natCast, Nat.mul_comm, Nat.mul_add_div hz, Nat.div_eq_of_lt hr', Nat.add_zero]
  rw [prB, hk, d1, d2, decide_eq_true ho, decide_eq_true ho', Bool.true_and, Bool.true_and, Bool.true_and]

theorem stampZ_at {bt sq : Int} (h1 : 0 ≤ sq) (h2 : sq ≤ 50) (h3 : 0 ≤ bt) (h4 : bt ≤ 2) : stampZ bt sq = bt * 4294967296 + sq := by
  unfold stampZ wrap64
  omega

/-- A slot that is noted twice. -/
theorem putS_twice (f g s : Int) : putS f g s (putS f g s []) = putS f g s [] := by
  simp [putS, bef, withL]
theorem noteS_twice (K nw : Nat) (F : Nat → Fr) (slot x : Int) : noteS K nw F slot x (noteS K nw F slot x []) = noteS K nw F slot x [] := by
  unfold noteS
  split
  · exact putS_twice _ _ _
  · rfl
theorem noteS_len (K nw : Nat) (F : Nat → Fr) (slot x : Int) : (noteS K nw F slot x []).length = if prB K nw F slot x = true then 1 else 0 := by
  unfold noteS
  split <;> simp [putS]
end Go.Proofs.Ytjkbjbikofindaa
