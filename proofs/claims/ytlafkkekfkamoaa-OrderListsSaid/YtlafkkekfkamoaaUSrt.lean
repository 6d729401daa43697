/-
  Numbers sorted and freed of repeated ones: what that says of prefixes. (Plain mathematics.)
-/
import Derived.Test.YtlafkkekfkamoaaUPre
import Derived.Lib.RowBridge
namespace Go.Proofs.Ytlafkkekfkamoaa
open Go.RowKit
set_option linter.unusedVariables false

/-- The numbers sorted. -/
def srt (S : List Int) : List Int := S.mergeSort fun x y => decide (x ≤ y)
theorem srt_perm (S : List Int) : (srt S).Perm S := List.mergeSort_perm S _
theorem srt_length (S : List Int) : (srt S).length = S.length := (srt_perm S).length_eq
theorem srt_sorted (S : List Int) : (srt S).Pairwise (fun a b => a ≤ b) := by
  have h := List.pairwise_mergeSort (le := fun x y : Int => decide (x ≤ y)) (fun a b c h1 h2 => by simp at *; omega) (fun a b => by simp; omega) S
  exact h.imp fun h => by simpa using h
theorem srt_eq {S T : List Int} (h : S.Perm T) : srt S = srt T :=
  List.Perm.eq_of_pairwise (le := fun a b : Int => a ≤ b) (fun a b _ _ h1 h2 => by omega) (srt_sorted S) (srt_sorted T) (((srt_perm S).trans h).trans (srt_perm T).symm)
theorem perm_of_sub : ∀ (S T : List Int), S.Nodup → (∀ x ∈ S, x ∈ T) → T.length ≤ S.length → S.Perm T
  | [], T, _, _, hl => by
    have : T = [] := List.length_eq_zero_iff.1 (by simpa using hl)
    rw [this]
  | a :: S, T, hn, hs, hl => by
    have ha : a ∈ T := hs a (by simp)
    rw [List.nodup_cons] at hn
    refine .trans (.cons a ?_) (List.perm_cons_erase ha).symm
    refine perm_of_sub S (T.erase a) hn.2 (fun x hx => ?_) ?_
    · exact (List.mem_erase_of_ne (fun e : x = a => hn.1 (by rw [← e]; exact hx))).2 (hs x (by simp [hx]))
    · rw [List.length_erase_of_mem ha]
      simp at hl
      omega
/-- Numbers of which no two are one: each place is kept. -/
theorem keeps_all {L : List Int} (hn : L.Nodup) : Lib.compact L = L := by
  refine Lib.compact_all L fun j hj => ?_
  unfold Lib.keeps
  simp only [decide_eq_true_eq]
  rcases Nat.eq_zero_or_pos j with h | h
  · exact .inl h
  · refine .inr fun e => ?_
    rw [getElem!_pos L.toArray j (by simpa using hj), getElem!_pos L.toArray (j - 1) (by simp; omega)] at e
    simp only [List.getElem_toArray] at e
    have := List.getElem_inj hn |>.1 e
    omega
theorem strict_of_keeps {L : List Int} (hs : L.Pairwise (fun a b => a ≤ b)) (hk : ∀ j, j < L.length → Lib.keeps L.toArray j = true) : L.Nodup := by
  rw [List.Nodup, List.pairwise_iff_getElem]
  intro i j hi hj hij e
  have hs' := List.pairwise_iff_getElem.1 hs
  have h1 := hk j hj
  unfold Lib.keeps at h1
  simp only [decide_eq_true_eq] at h1
  rcases h1 with h1 | h1
  · omega
  · rw [getElem!_pos L.toArray j (by simpa using hj), getElem!_pos L.toArray (j - 1) (by simp; omega)] at h1
    simp only [List.getElem_toArray] at h1
    have h2 := hs' (j - 1) j (by omega) hj (by omega)
    rcases (by omega : i = j - 1 ∨ i < j - 1) with h | h
    · subst h
      exact h1 e.symm
    · have h3 := hs' i (j - 1) hi (by omega) h
      omega
theorem compact_whole {L : List Int} (h : (Lib.compact L).length = L.length) : ∀ j, j < L.length → Lib.keeps L.toArray j = true := by
  intro j hj
  unfold Lib.compact Lib.compactUpTo at h
  rw [List.length_map] at h
  have h2 := List.length_filter_eq_length_iff.1 (show ((List.range L.length).filter (Lib.keeps L.toArray)).length = (List.range L.length).length by simpa using h)
  exact h2 j (by simpa using hj)
/-- The Seqs of the first n increments. -/
def firstS (F : List IncR) (n : Nat) : List Int := (F.take n).map (·.sq)
theorem firstS_mem {F : List IncR} {n : Nat} {s : Int} : s ∈ firstS F n ↔ ∃ (t : Nat) (i : IncR), t < n ∧ F[t]? = some i ∧ i.sq = s := by
  unfold firstS
  rw [List.mem_map]
  constructor
  · rintro ⟨i, hi, e⟩
    obtain ⟨t, ht⟩ := List.mem_iff_getElem?.1 hi
    rw [List.getElem?_take] at ht
    split at ht
    · exact ⟨t, i, by assumption, ht, e⟩
    · cases ht
  · rintro ⟨t, i, ht, hi, e⟩
    exact ⟨i, List.mem_iff_getElem?.2 ⟨t, by rw [List.getElem?_take, if_pos ht]; exact hi⟩, e⟩
theorem pre_srt {F : List IncR} {S : List Int} (hl : S.length ≤ F.length) : Lib.compact (srt S) = srt (firstS F S.length) ↔ PreP F S := by
  have hT : (firstS F S.length).length = S.length := by simp [firstS]; omega
  constructor
  · intro h
    have h1 : (Lib.compact (srt S)).length = (srt S).length := by rw [h, srt_length, srt_length, hT]
    have h2 := compact_whole h1
    have hn : (srt S).Nodup := strict_of_keeps (srt_sorted S) h2
    rw [Lib.compact_all _ h2] at h
    have hp : S.Perm (firstS F S.length) := ((srt_perm S).symm.trans (h ▸ .refl _)).trans (srt_perm _)
    have hnS : S.Nodup := (srt_perm S).nodup_iff.1 hn
    refine ⟨hl, fun j k s r hkj hj hk e => ?_, fun j s hj => ?_, fun t i ht hi => ?_⟩
    · have hjl := get_lt hj
      have hkl := get_lt hk
      rw [List.getElem?_eq_getElem hjl] at hj
      rw [List.getElem?_eq_getElem hkl] at hk
      injection hj with hj
      injection hk with hk
      have := (List.getElem_inj (i := k) (j := j) (h₀ := hkl) (h₁ := hjl) hnS).1 (by rw [hj, hk, e])
      omega
    · exact firstS_mem.1 (hp.mem_iff.1 (List.mem_iff_getElem?.2 ⟨j, hj⟩))
    · exact List.mem_iff_getElem?.1 (hp.mem_iff.2 (firstS_mem.2 ⟨t, i, ht, hi, rfl⟩))
  · rintro ⟨_, h1, h2, h3⟩
    have hnS : S.Nodup := by
      rw [List.Nodup, List.pairwise_iff_getElem]
      intro i j hi hj hij e
      exact h1 j i S[j] S[i] hij (List.getElem?_eq_getElem hj) (List.getElem?_eq_getElem hi) e
    have hp : S.Perm (firstS F S.length) := perm_of_sub _ _ hnS (fun x hx => by
      obtain ⟨j, hj⟩ := List.mem_iff_getElem?.1 hx
      exact firstS_mem.2 (h2 j x hj)) (by omega)
    rw [← srt_eq hp]
    exact keeps_all ((srt_perm S).nodup_iff.2 hnS)
end Go.Proofs.Ytlafkkekfkamoaa
