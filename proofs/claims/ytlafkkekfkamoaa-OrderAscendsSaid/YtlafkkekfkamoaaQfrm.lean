/-
  The increments of a made space, as belts: plain mathematics.
-/
import Derived.Test.YtlafkkekfkamoaaQque
namespace Go.Proofs.Ytlafkkekfkamoaa
open Go.RowKit
set_option maxRecDepth 100000
set_option linter.unusedVariables false

theorem allP_asc {F : Nat → Fr} {n k : Nat} {I : List IncR} (h : AllP F n k I) : I.Pairwise fun a b => a.sq < b.sq := by
  refine List.pairwise_iff_getElem.2 fun u v hu hv huv => ?_
  have h1 := (h u _ (List.getElem?_eq_getElem hu)).2.2.2
  have h2 := (h v _ (List.getElem?_eq_getElem hv)).2.2.1
  omega
theorem inc_fit {F : Nat → Fr} {n k nw : Nat} {i : IncR} (h : IncP F n k i.sq i.bt i.fi i.la i.wo) (hw : 0 < i.wo) (hnw : nw = n * 2 ^ k) : FitI k n nw F i := by
  obtain ⟨h1, h2, h3, h4, W, e, h5, h6⟩ := h
  have hcov := ceilV_cover W k
  have hle := cntO_le F i.sq n
  have hmul : ceilV W k * 2 ^ k ≤ n * 2 ^ k := Nat.mul_le_mul_right _ (by omega)
  exact ⟨⟨h1, by omega, h3, by omega, W, e, by omega, h5, fun h => by omega⟩, fun _ => by rw [e, Int.toNat_natCast, h6]⟩
theorem allP_belts {F : Nat → Fr} {n k : Nat} {I : List IncR} (h : AllP F n k I) : ∀ i ∈ I, 0 ≤ i.bt ∧ i.bt < 3 := fun i hi => by
  obtain ⟨t, ht⟩ := List.mem_iff_getElem?.1 hi
  obtain ⟨⟨_, _, h3, h4, _⟩, _⟩ := h t i ht
  omega
theorem allP_bel {F : Nat → Fr} {n k nw : Nat} {I : List IncR} (h : AllP F n k I) (hnw : nw = n * 2 ^ k) : BelP k n nw F (qOf I) := by
  refine ⟨by rw [qOf_len]; omega, by rw [qOf_len]; omega, fun b q hq t i hi => ?_⟩
  have hb : b < 3 := get_lt hq
  rw [qOf_get hb] at hq
  injection hq with hq
  have hm : i ∈ q := List.mem_iff_getElem?.2 ⟨t, hi⟩
  rw [← hq, List.mem_filter] at hm
  obtain ⟨u, hu⟩ := List.mem_iff_getElem?.1 hm.1
  obtain ⟨h1, h2, _⟩ := h u i hu
  refine ⟨by simpa using hm.2, h2, inc_fit h1 h2 hnw, fun j h0 hj => ?_⟩
  have hpw : q.Pairwise fun a b => a.sq < b.sq := by rw [← hq]; exact (allP_asc h).filter _
  have := List.pairwise_iff_getElem.1 hpw (t - 1) t (get_lt hj) (get_lt hi) (by omega)
  rw [(List.getElem?_eq_some_iff.1 hj).2, (List.getElem?_eq_some_iff.1 hi).2] at this
  exact this
theorem own_has {I : List IncR} (h : ∀ i ∈ I, 0 ≤ i.bt ∧ i.bt < 3) {x : Int} (ho : OwnI I x) : HasQ (qOf I) x := by
  obtain ⟨i, hi, e⟩ := ho
  obtain ⟨h1, h2⟩ := h i hi
  obtain ⟨b, hb⟩ : ∃ b : Nat, i.bt = b := ⟨i.bt.toNat, by omega⟩
  exact ⟨_, List.mem_iff_getElem?.2 ⟨b, qOf_get (by omega)⟩, i, List.mem_filter.2 ⟨hi, by simpa using hb⟩, e⟩
theorem qOf_total {I : List IncR} (h : ∀ i ∈ I, 0 ≤ i.bt ∧ i.bt < 3) : (qOf I).flatten.length = I.length := by
  induction I with
  | nil => rfl
  | cons i I ih =>
    have ih := ih fun x hx => h x (List.mem_cons_of_mem _ hx)
    obtain ⟨h1, h2⟩ := h i (by simp)
    simp only [qOf, List.flatten_cons, List.flatten_nil, List.length_append, List.length_nil, List.length_cons, List.filter_cons] at ih ⊢
    rcases (by omega : i.bt = 0 ∨ i.bt = 1 ∨ i.bt = 2) with e | e | e <;> simp [e] at ih ⊢ <;> omega
theorem made_snd {F : Nat → Fr} {n k nw : Nat} {I : List IncR} (h : AllP F n k I) (hnw : nw = n * 2 ^ k) (ho : ∀ f, f < n → (F f).ow = -1 ∨ OwnI I (F f).ow) : SndP k n nw F (qOf I) :=
  ⟨allP_bel h hnw, fun f hf => (ho f hf).imp id fun h1 => own_has (allP_belts h) h1⟩

/-- The sum of the words. -/
def sumW (l : List IncR) : Nat := (l.map fun i => i.wo.toNat).sum
theorem wrd_fold : ∀ (l : List IncR) (a : Nat), (∀ i ∈ l, 0 ≤ i.wo) → a + sumW l ≤ 1152921504606846976 → l.foldl (fun x i => wrap64 (x + i.wo)) (a : Int) = ((a + sumW l : Nat) : Int)
  | [], a, _, _ => by simp [sumW]
  | i :: l, a, h, hb => by
    have h0 := h i (by simp)
    simp only [sumW, List.map_cons, List.sum_cons] at hb ⊢
    have e : wrap64 ((a : Int) + i.wo) = ((a + i.wo.toNat : Nat) : Int) := by
      rw [IntWalk.wrap64_in _ (by omega)]
      omega
    rw [List.foldl_cons, e, wrd_fold l (a + i.wo.toNat) (fun x hx => h x (List.mem_cons_of_mem _ hx)) (by unfold sumW; omega)]
    unfold sumW
    omega
theorem wrdQ_sum {Q : List (List IncR)} (h : ∀ i ∈ Q.flatten, 0 ≤ i.wo) (hb : sumW Q.flatten ≤ 1152921504606846976) : wrdQ Q = (sumW Q.flatten : Nat) := by
  have h1 := wrd_fold Q.flatten 0 h (by omega)
  rw [List.foldl_flatten] at h1
  unfold wrdQ
  have e : wrdL = fun a q => List.foldl (fun x i => wrap64 (x + i.wo)) a q := by funext a q; rfl
  rw [e]
  simpa using h1
theorem lg_fold {k : Nat} : ∀ (l : List IncR) (a : Int), 0 ≤ a → (∀ i ∈ l, Hd.ceilZ i.wo k = (ceilV i.wo.toNat k : Nat)) → l.foldl (fun x i => if x < Hd.ceilZ i.wo k then Hd.ceilZ i.wo k else x) a ≤ a + (ownS k l : Nat)
  | [], a, _, _ => by simp [ownS]
  | i :: l, a, ha, h => by
    have h0 := h i (by simp)
    rw [List.foldl_cons]
    have e : ownS k (i :: l) = ceilV i.wo.toNat k + ownS k l := by simp [ownS]
    rw [e]
    by_cases h9 : a < Hd.ceilZ i.wo k
    · rw [if_pos h9]
      have ih := lg_fold l (Hd.ceilZ i.wo k) (by omega) fun x hx => h x (List.mem_cons_of_mem _ hx)
      omega
    · rw [if_neg h9]
      have ih := lg_fold l a ha fun x hx => h x (List.mem_cons_of_mem _ hx)
      omega
theorem lgQ_le {k : Nat} {Q : List (List IncR)} (h : ∀ i ∈ Q.flatten, Hd.ceilZ i.wo k = (ceilV i.wo.toNat k : Nat)) : lgQ k Q ≤ (ownS k Q.flatten : Nat) := by
  have h1 := lg_fold Q.flatten 0 (Int.le_refl _) h
  rw [List.foldl_flatten] at h1
  unfold lgQ
  have e : lgL (k : Int) = fun a q => List.foldl (fun x i => if x < Hd.ceilZ i.wo k then Hd.ceilZ i.wo k else x) a q := by funext a q; rfl
  rw [e]
  rw [Int.zero_add] at h1
  exact h1
theorem ceilV_tight {W k : Nat} (h : 0 < W) : ceilV W k * 2 ^ k + 1 ≤ W + 2 ^ k := by
  unfold ceilV
  have h1 := Nat.div_mul_le_self (W + 2 ^ k - 1) (2 ^ k)
  have := Nat.two_pow_pos k
  omega
/-- Frames and words: no more, and not many fewer. -/
theorem own_words {k : Nat} : ∀ l : List IncR, (∀ i ∈ l, 0 < i.wo) → sumW l ≤ ownS k l * 2 ^ k ∧ ownS k l * 2 ^ k + l.length ≤ sumW l + l.length * 2 ^ k
  | [], _ => by simp [sumW, ownS]
  | i :: l, h => by
    obtain ⟨h1, h2⟩ := own_words (k := k) l fun x hx => h x (List.mem_cons_of_mem _ hx)
    have h0 := h i (by simp)
    have h3 := ceilV_cover i.wo.toNat k
    have h4 := ceilV_tight (W := i.wo.toNat) (k := k) (by omega)
    simp only [sumW, ownS, List.map_cons, List.sum_cons, List.length_cons, Nat.add_mul] at h1 h2 ⊢
    omega
theorem cntU_own (F : Nat → Fr) : ∀ n, cntU F n + cntP (owB F (-1)) n = n
  | 0 => rfl
  | n + 1 => by
    have ih := cntU_own F n
    simp only [cntU, cntP]
    by_cases e : (F n).ow = -1
    · rw [if_pos e, owB_yes e]; simp; omega
    · rw [if_neg e, owB_no e]; simp; omega
end Go.Proofs.Ytlafkkekfkamoaa
