/-
  Plain mathematics of ChainGrows: frames taken and linked one after the other.
-/
import Derived.Test.YtpbcpobbjoopnaaOrd5
import Derived.Test.YtpbcpobbjoopnaaLnk
import Derived.Test.YtpbcpobbjoopnaaRefTake
import Derived.Deep.CutBlock
namespace Go.Proofs.Ytpbcpobbjoopnaa
open Go.RowKit
set_option maxRecDepth 100000
set_option linter.unusedVariables false

/-- The stamp of the frames that the law takes. -/
def gst : Int := 2 * 4294967296 + 7
/-- j frames in one chain, the others free. -/
def Gj (j : Nat) : Nat → Fr := fun t => if t < j then ⟨7, gst, if t + 1 < j then ((t + 1 : Nat) : Int) else -1⟩ else frFree
/-- One more frame, not linked yet. -/
def Hj (j : Nat) : Nat → Fr := lift (Gj j) j 7 gst
theorem gj_in {j t : Nat} (h : t < j) : Gj j t = ⟨7, gst, if t + 1 < j then ((t + 1 : Nat) : Int) else -1⟩ := if_pos h
theorem gj_out {j t : Nat} (h : ¬ t < j) : Gj j t = frFree := if_neg h
theorem hj_zero : Hj 0 = Gj 1 := by
  funext t
  unfold Hj lift
  by_cases h : t = 0
  · subst h; rw [if_pos rfl, gj_in (by omega)]; rfl
  · rw [if_neg h, gj_out (by omega), gj_out (by omega)]
theorem hj_succ {j : Nat} (hj : 0 < j) : link (Hj j) (j - 1) j = Gj (j + 1) := by
  funext t
  unfold link
  by_cases h : t = j - 1
  · rw [if_pos h, h]
    unfold Hj
    rw [lift_other (by omega), gj_in (show j - 1 < j by omega), gj_in (show j - 1 < j + 1 by omega), if_pos (show j - 1 + 1 < j + 1 by omega)]
    show (⟨7, gst, (j : Int)⟩ : Fr) = ⟨7, gst, ((j - 1 + 1 : Nat) : Int)⟩
    rw [show j - 1 + 1 = j by omega]
  · rw [if_neg h]
    unfold Hj lift
    by_cases h2 : t = j
    · rw [if_pos h2, h2, gj_in (by omega), if_neg (by omega)]
    · rw [if_neg h2]
      by_cases h3 : t < j
      · rw [gj_in h3, gj_in (by omega), if_pos (by omega), if_pos (by omega)]
      · rw [gj_out h3, gj_out (by omega)]
theorem seven : (7 : Int) ≠ -1 := by decide
theorem gj_free {j : Nat} : Gj j j = frFree := gj_out (by omega)
theorem gst_ok : stB gst 7 = true := by decide
theorem hj_nx (j t : Nat) : (Hj j t).nx = (Gj j t).nx := lift_nx gj_free 7 gst t
theorem gj_nx {j t : Nat} : (Gj j t).nx = -1 ∨ ((Gj j t).nx = ((t + 1 : Nat) : Int) ∧ t + 1 < j) := by
  by_cases h : t < j
  · rw [gj_in h]
    by_cases h2 : t + 1 < j
    · right; exact ⟨if_pos h2, h2⟩
    · left; exact if_neg h2
  · left; rw [gj_out h]; rfl
theorem gj_fv : ∀ j, j ≤ 20 → FV (Gj j) 20
  | 0, _ => by
    have e : Gj 0 = fun _ => frFree := funext fun t => gj_out (by omega)
    rw [e]
    exact (valid_fresh (k := 3) (n := 20) (by decide) (by decide) (by decide) (by decide)).fv
  | j + 1, h => by
    have ih := gj_fv j (by omega)
    have hh : FV (Hj j) 20 := lift_fv ih gj_free gst_ok
    rcases Nat.eq_zero_or_pos j with rfl | hj
    · rw [← hj_zero]; exact hh
    · rw [← hj_succ hj]
      have e1 : Hj j (j - 1) = Gj j (j - 1) := by unfold Hj; exact lift_other (by omega) 7 gst
      have e2 : Hj j j = ⟨7, gst, -1⟩ := by unfold Hj; exact lift_same j 7 gst
      refine link_fv hh (by omega) (by omega) (by omega) ?_ (by rw [e2]) ?_ ?_ ?_ ?_
      · rw [e1, gj_in (by omega)]; exact if_neg (by omega)
      · rw [e1, gj_in (by omega)]; exact seven
      · rw [e1, e2, gj_in (by omega)]
      · rw [e1, e2, gj_in (by omega)]
      · intro t ht e
        rw [hj_nx] at e
        rcases gj_nx (j := j) (t := t) with h1 | ⟨h1, h2⟩ <;> omega
theorem gj_valid {j : Nat} (h : j ≤ 20) : ValidP (3 : Int) 160 (fun _ => 0) 20 (Gj j) := ValidP.mk_ (by decide) (by decide) (by decide) (gj_fv j h) (fun f _ _ => by simp [zeroB])
theorem hj_valid {j : Nat} (h : j < 20) : ValidP (3 : Int) 160 (fun _ => 0) 20 (Hj j) := ValidP.mk_ (by decide) (by decide) (by decide) (lift_fv (gj_fv j (by omega)) gj_free gst_ok) (fun f _ _ => by simp [zeroB])
theorem gj_least {j : Nat} (h : j < 20) : Least (Gj j) 20 j := ⟨h, by rw [gj_free]; rfl, fun t ht => by rw [gj_in ht]; exact seven⟩
theorem gj_take {j : Nat} (h : j < 20) : takeE (3 : Int) 160 (fun _ => 0) 20 (Gj j) 7 2 = 0 := by
  refine takeE_ok (gj_valid (by omega)) (by decide) (by decide) (fun f hf he => ?_) ⟨j, h, by rw [gj_free]; rfl⟩
  by_cases h2 : f < j
  · rw [gj_in h2]; rfl
  · rw [gj_out h2] at he; exact absurd he (by decide)
theorem hj_link {j : Nat} (h0 : 0 < j) (h : j < 20) : lnkE (3 : Int) 160 (fun _ => 0) 20 (Hj j) ((j - 1 : Nat) : Int) (j : Int) = 0 := by
  refine lnk_ok (validB_yes (hj_valid h)) (by omega) h ?_
  have hv := (hj_valid h).fv
  have e1 : Hj j (j - 1) = Gj j (j - 1) := by unfold Hj; exact lift_other (by omega) 7 gst
  have e2 : Hj j j = ⟨7, gst, -1⟩ := by unfold Hj; exact lift_same j 7 gst
  have h1 : (Hj j (j - 1)).ow ≠ -1 := by rw [e1, gj_in (by omega)]; exact seven
  have h2 : (Hj j (j - 1)).st = (Hj j j).st := by rw [e1, e2, gj_in (by omega)]
  have h3 : (Hj j (j - 1)).nx = -1 := by rw [e1, gj_in (by omega)]; exact if_neg (by omega)
  have h4 : fol (Hj j) 20 j = false := by
    cases e : fol (Hj j) 20 j
    · rfl
    · obtain ⟨t, ht, hx⟩ := (fol_iff (Hj j) 20 j).1 e
      rw [hj_nx] at hx
      rcases gj_nx (j := j) (t := t) with h5 | ⟨h5, h6⟩ <;> omega
  rw [lnkB_rest h1 h2 h3 h4]
  refine decide_eq_false ?_
  have hl : LenP (Hj j) (j : Nat) 1 := ⟨by simp only [iter]; rw [if_neg (by omega), Int.toNat_natCast, e2], fun i hi => by
    obtain rfl : i = 0 := by omega
    simp only [iter]; omega⟩
  rw [mem_chL' hv h hl]
  rintro ⟨i, hi, he⟩
  obtain rfl : i = 0 := by omega
  simp only [iter] at he
  omega
theorem gj_iter {k t : Nat} : ∀ q, t + q < k → iter (Gj k) q t = ((t + q : Nat) : Int)
  | 0, _ => rfl
  | q + 1, h => by
    rw [iter_succ, gj_iter q (by omega), if_neg (by omega), Int.toNat_natCast, gj_in (by omega), if_pos (by omega)]
    rfl
theorem gj_len {k t : Nat} (h : t < k) : LenP (Gj k) t (k - t) := by
  refine ⟨?_, fun i hi => by rw [gj_iter i (by omega)]; omega⟩
  obtain ⟨d, hd⟩ : ∃ d, k - t = d + 1 := ⟨k - t - 1, by omega⟩
  rw [hd, iter_succ, gj_iter d (by omega), if_neg (by omega), Int.toNat_natCast, gj_in (by omega), if_neg (by omega)]
theorem gj_list {k t : Nat} (hk : k ≤ 20) (h : t < k) : lstE (3 : Int) 160 (fun _ => 0) 20 (Gj k) t = 0 ∧ lstL (3 : Int) 160 (fun _ => 0) 20 (Gj k) t = chL (Gj k) 20 t ∧ (chL (Gj k) 20 t).length = k - t ∧ ∀ i, i < k - t → numF (chL (Gj k) 20 t) i = ((t + i : Nat) : Int) := by
  have hv := gj_valid hk
  obtain ⟨h1, h2⟩ := lst_ok (validB_yes hv) (show t < 20 by omega) (by rw [gj_in h]; exact seven)
  refine ⟨h1, h2, chL_length (gj_len h) (by omega), fun i hi => ?_⟩
  show (((chL (Gj k) 20 t).getD i 0 : Nat) : Int) = _
  rw [numF_chL hv.fv (by omega) (gj_len h) hi, gj_iter i (by omega)]
theorem gj_loop {k : Nat} (h0 : 0 < k) (hk : k ≤ 20) : lnkE (3 : Int) 160 (fun _ => 0) 20 (Gj k) ((k - 1 : Nat) : Int) ((0 : Nat) : Int) = 5 := by
  have hv := gj_valid hk
  have h1 : lnkB (Gj k) 20 (k - 1) 0 = true := by
    have h5 : k - 1 ∈ chL (Gj k) 20 0 := by
      rw [mem_chL' hv.fv (by omega) (gj_len h0)]
      exact ⟨k - 1, by omega, by rw [gj_iter (k - 1) (by omega), Nat.zero_add]⟩
    simp [lnkB, h5]
  have hvb := validB_yes hv
  unfold lnkE
  rw [if_neg (by rw [hvb]; decide), if_neg (by simp [inB]; omega), Int.toNat_natCast, Int.toNat_natCast, if_pos h1]
end Go.Proofs.Ytpbcpobbjoopnaa
