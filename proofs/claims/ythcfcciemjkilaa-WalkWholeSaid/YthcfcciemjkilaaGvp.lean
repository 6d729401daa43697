/-
  What giving back leaves of a valid space, and the increments of Space's list. (Made by mkbdr-s9.py.)
-/
import Derived.Test.YthcfcciemjkilaaDrp
namespace Go.Proofs.Ythcfcciemjkilaa
open Go.RowKit
set_option maxRecDepth 100000
set_option linter.unusedVariables false

section
variable {F : Nat → Fr} {n : Nat} {o : Int}
theorem giveF_own {j : Nat} (hj : j < n) (h : (F j).ow = o) : giveF F o n j = frFree := if_pos ⟨hj, h⟩
theorem giveF_other {j : Nat} (h : (F j).ow ≠ o) : giveF F o n j = F j := if_neg fun e => h e.2
theorem giveF_iter (hv : FV F n) (ho : 0 ≤ o) {p : Nat} (hp : p < n) (hpo : (F p).ow ≠ o) (h1 : (F p).ow ≠ -1) : ∀ i, iter (giveF F o n) i p = iter F i p
  | 0 => rfl
  | i + 1 => by
    have ih := giveF_iter hv ho hp hpo h1 i
    rw [iter_succ, iter_succ, ih]
    by_cases e : iter F i p = -1
    · rw [if_pos e, if_pos e]
    · rw [if_neg e, if_neg e]
      have h2 := (hv.along hp h1 i e).1
      rw [giveF_other (by rw [h2]; exact hpo)]
theorem give_fv (hv : FV F n) (ho : 0 ≤ o) : FV (giveF F o n) n := by
  have hin : Inside (giveF F o n) n := by
    intro f hf
    by_cases e : (F f).ow = o
    · rw [giveF_own hf e]; exact .inl rfl
    · rw [giveF_other e]; exact hv.inside f hf
  refine ⟨fun f hf => ?_, ?_, ?_⟩
  · by_cases e : (F f).ow = o
    · exact .inl (giveF_own hf e)
    · rcases hv.1 f hf with h | h
      · left; rw [giveF_other e]; exact h
      · right
        obtain ⟨h1, h2⟩ := ownB_yes h
        refine ownB_of (by rw [giveF_other e]; exact h1) ?_
        rw [giveF_other e]
        rcases h2 with h2 | ⟨g, h2, h3, h4, h5, h6⟩
        · exact .inl h2
        · have eg : (F g).ow ≠ o := by rw [h5]; exact e
          exact .inr ⟨g, h2, h3, h4, by rw [giveF_other eg]; exact h5, by rw [giveF_other eg]; exact h6⟩
  · intro f g hf hg he hn
    have ef : (F f).ow ≠ o := fun e => by rw [giveF_own hf e] at hn; exact hn rfl
    rw [giveF_other ef] at he hn
    have eg : (F g).ow ≠ o := fun e => by rw [giveF_own hg e] at he; exact hn he
    rw [giveF_other eg] at he
    exact hv.2.1 f g hf hg he hn
  · refine ends_of hin fun f hf => ?_
    by_cases e : (F f).ow = o
    · refine ⟨1, ?_⟩
      simp only [iter]
      rw [if_neg (by omega), Int.toNat_natCast, giveF_own hf e]
      rfl
    · by_cases e1 : (F f).ow = -1
      · refine ⟨1, ?_⟩
        simp only [iter]
        rw [if_neg (by omega), Int.toNat_natCast, giveF_other e, hv.free hf e1]
        rfl
      · exact ⟨n + 1, by rw [giveF_iter hv ho hf e e1]; exact hv.2.2 f hf⟩
theorem give_valid {k nw : Nat} {wd : Nat → Int} (hv : ValidP k nw wd n F) (ho : 0 ≤ o) : ValidP k nw (giveW wd F o k n) n (giveF F o n) := by
  refine ValidP.mk_ hv.1 hv.2.1 hv.2.2.1 (give_fv hv.fv ho) fun f hf he => ?_
  rw [Int.toNat_natCast]
  refine decide_eq_true fun a ha => ?_
  have hq : (f * 2 ^ k + a) / 2 ^ k = f := by
    rw [Nat.mul_comm, Nat.mul_add_div (Nat.two_pow_pos k), Nat.div_eq_of_lt ha, Nat.add_zero]
  unfold giveW
  rw [hq]
  by_cases e : (F f).ow = o
  · rw [if_pos ⟨hf, e⟩]
  · rw [if_neg fun h => e h.2]
    rw [giveF_other e] at he
    have hz := hv.zr f hf he
    rw [Int.toNat_natCast] at hz
    exact of_decide_eq_true hz a ha
theorem give_cnt (ho : o ≠ -1) : ∀ t, t ≤ n → cntP (owB (giveF F o n) (-1)) t = cntP (owB F (-1)) t + cntP (owB F o) t
  | 0, _ => rfl
  | t + 1, ht => by
    have ih := give_cnt ho t (by omega)
    simp only [cntP, ih]
    by_cases e : (F t).ow = o
    · have h1 : owB (giveF F o n) (-1) t = true := owB_yes (by rw [giveF_own (by omega) e]; rfl)
      have h2 : owB F (-1) t = false := owB_no (by rw [e]; exact ho)
      rw [h1, h2, owB_yes e]
      simp
      omega
    · by_cases e2 : (F t).ow = -1
      · have h1 : owB (giveF F o n) (-1) t = true := owB_yes (by rw [giveF_other e]; exact e2)
        rw [h1, owB_yes e2, owB_no e]
        simp
        omega
      · have h1 : owB (giveF F o n) (-1) t = false := owB_no (by rw [giveF_other e]; exact e2)
        rw [h1, owB_no e2, owB_no e]
        simp
theorem giveW_other {wd : Nat → Int} {k f a : Nat} (ha : a < 2 ^ k) (h : (F f).ow ≠ o) : giveW wd F o k n (f * 2 ^ k + a) = wd (f * 2 ^ k + a) := by
  have hq : (f * 2 ^ k + a) / 2 ^ k = f := by
    rw [Nat.mul_comm, Nat.mul_add_div (Nat.two_pow_pos k), Nat.div_eq_of_lt ha, Nat.add_zero]
  unfold giveW
  rw [hq, if_neg fun e => h e.2]
end
/-- An increment of Space's list fits. -/
theorem inc_fits {F : Nat → Fr} {n k nw : Nat} {sq bt fi la wo : Int} (h : IncP F n k sq bt fi la wo) (hw : 0 < wo) (hnw : nw = n * 2 ^ k) : FitsQ k n nw F sq bt fi la wo ∧ 0 < cntO F sq n ∧ Hd.ceilZ wo k = Hd.ceilZ wo k := by
  obtain ⟨h1, h2, h3, h4, W, rfl, h5, h6⟩ := h
  have hcov := ceilV_cover W k
  have hle := cntO_le F sq n
  have hmul : ceilV W k * 2 ^ k ≤ n * 2 ^ k := Nat.mul_le_mul_right _ (by omega)
  have hpos := ceilV_pos (k := k) (W := W) (by omega)
  exact ⟨⟨⟨h1, by omega, h3, by omega, W, rfl, by omega, h5, fun h => by omega⟩, fun _ => by rw [Int.toNat_natCast, h6]⟩, by omega, rfl⟩
end Go.Proofs.Ythcfcciemjkilaa
