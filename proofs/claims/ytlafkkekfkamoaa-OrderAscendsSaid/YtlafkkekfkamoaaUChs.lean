/-
  Increments that are chosen by bits: they are a prefix if none is chosen behind a gap.
-/
import Derived.Test.YtlafkkekfkamoaaUPre
namespace Go.Proofs.Ytlafkkekfkamoaa
open Go.RowKit
set_option linter.unusedVariables false

def chs (f : Nat → Int) (p : Nat → Bool) : Nat → List Int
  | 0 => []
  | t + 1 => if p t then chs f p t ++ [f t] else chs f p t
def gapB (p : Nat → Bool) : Nat → Bool
  | 0 => false
  | t + 1 => gapB p t || !p t
def cloB (p : Nat → Bool) : Nat → Bool
  | 0 => true
  | t + 1 => if p t then cloB p t && !gapB p t else cloB p t
section
variable {f : Nat → Int} {p : Nat → Bool}
theorem chs_mem {s : Int} : ∀ t, s ∈ chs f p t ↔ ∃ j, j < t ∧ p j = true ∧ f j = s
  | 0 => by simp [chs]
  | t + 1 => by
    have ih := chs_mem (s := s) t
    unfold chs
    by_cases h : p t = true
    · rw [if_pos h, List.mem_append, ih, List.mem_singleton]
      constructor
      · rintro (⟨j, h1, h2, h3⟩ | h1)
        · exact ⟨j, by omega, h2, h3⟩
        · exact ⟨t, by omega, h, h1.symm⟩
      · rintro ⟨j, h1, h2, h3⟩
        rcases (by omega : j < t ∨ j = t) with e | e
        · exact .inl ⟨j, e, h2, h3⟩
        · subst e; exact .inr h3.symm
    · rw [if_neg h, ih]
      constructor
      · rintro ⟨j, h1, h2, h3⟩
        exact ⟨j, by omega, h2, h3⟩
      · rintro ⟨j, h1, h2, h3⟩
        rcases (by omega : j < t ∨ j = t) with e | e
        · exact ⟨j, e, h2, h3⟩
        · subst e; exact absurd h2 h
theorem chs_len : ∀ t, (chs f p t).length ≤ t
  | 0 => by simp [chs]
  | t + 1 => by
    have ih := chs_len t
    unfold chs
    split
    · simp; omega
    · omega
theorem gap_no : ∀ t, gapB p t = false ↔ ∀ j, j < t → p j = true
  | 0 => by simp [gapB]
  | t + 1 => by
    have ih := gap_no t
    unfold gapB
    rw [Bool.or_eq_false_iff, ih]
    constructor
    · rintro ⟨h1, h2⟩ j hj
      rcases (by omega : j < t ∨ j = t) with e | e
      · exact h1 j e
      · subst e; simpa using h2
    · intro h
      exact ⟨fun j hj => h j (by omega), by simp [h t (by omega)]⟩
theorem clo_first : ∀ t, cloB p t = true → ∃ m, m ≤ t ∧ (∀ j, j < t → p j = decide (j < m)) ∧ chs f p t = (List.range m).map f
  | 0, _ => ⟨0, by omega, fun j hj => by omega, rfl⟩
  | t + 1, h => by
    unfold cloB at h
    unfold chs
    by_cases hp : p t = true
    · rw [if_pos hp, Bool.and_eq_true] at h
      have hg : gapB p t = false := by simpa using h.2
      have ha := (gap_no t).1 hg
      obtain ⟨m, h1, h2, h3⟩ := clo_first t h.1
      have hm : m = t := by
        rcases Nat.lt_or_ge m t with e | e
        · have := h2 m e
          rw [ha m e] at this
          simp at this
        · omega
      subst hm
      refine ⟨m + 1, by omega, fun j hj => ?_, ?_⟩
      · have : p j = true := by
          rcases (by omega : j < m ∨ j = m) with e | e
          · exact ha j e
          · subst e; exact hp
        rw [this]; simp [hj]
      · rw [if_pos hp, h3, List.range_succ, List.map_append]; rfl
    · rw [if_neg hp] at h
      obtain ⟨m, h1, h2, h3⟩ := clo_first t h
      refine ⟨m, by omega, fun j hj => ?_, by rw [if_neg hp, h3]⟩
      rcases (by omega : j < t ∨ j = t) with e | e
      · exact h2 j e
      · subst e
        have : p j = false := by simpa using hp
        rw [this]; simp; omega
theorem clo_of {m : Nat} : ∀ t, (∀ j, j < t → p j = decide (j < m)) → cloB p t = true
  | 0, _ => rfl
  | t + 1, h => by
    have ih := clo_of (m := m) t fun j hj => h j (by omega)
    unfold cloB
    by_cases hp : p t = true
    · have ht := h t (by omega)
      rw [hp] at ht
      have ht : t < m := by simpa using ht.symm
      have hg : gapB p t = false := (gap_no t).2 fun j hj => by rw [h j (by omega)]; simp; omega
      rw [if_pos hp, ih, hg]; rfl
    · rw [if_neg hp, ih]
theorem range_get {m j : Nat} {s : Int} : ((List.range m).map f)[j]? = some s ↔ j < m ∧ f j = s := by
  rw [List.getElem?_map]
  rcases Nat.lt_or_ge j m with h | h
  · rw [List.getElem?_range h]; simp [h]
  · rw [List.getElem?_eq_none (by simpa using h)]; simp; omega
/-- What is chosen is a prefix exactly if nothing is chosen behind a gap. -/
theorem pre_chs {F : List IncR} (hf : ∀ (j : Nat) (i : IncR), F[j]? = some i → f j = i.sq) (hi : ∀ j k, j < F.length → k < F.length → f j = f k → j = k) : PreP F (chs f p F.length) ↔ cloB p F.length = true := by
  constructor
  · intro ⟨h1, _, h3, h4⟩
    refine clo_of (m := (chs f p F.length).length) _ fun j hj => ?_
    obtain ⟨i, hij⟩ := nth_of hj
    rw [Bool.eq_iff_iff, decide_eq_true_iff]
    constructor
    · intro hp
      obtain ⟨k, hk⟩ := List.mem_iff_getElem?.1 ((chs_mem (f := f) (p := p) F.length).2 ⟨j, hj, hp, rfl⟩)
      obtain ⟨t, x, ht, hx, e⟩ := h3 k _ hk
      have := hi t j (get_lt hx) hj (by rw [hf t x hx, e])
      omega
    · intro hl
      obtain ⟨k, hk⟩ := h4 j i hl hij
      obtain ⟨t, ht, hp, e⟩ := (chs_mem (f := f) (p := p) F.length).1 (List.mem_iff_getElem?.2 ⟨k, hk⟩)
      have := hi t j ht hj (by rw [e, hf j i hij])
      rw [← this]
      exact hp
  · intro h
    obtain ⟨m, h1, _, h3⟩ := clo_first (f := f) F.length h
    rw [h3]
    have hl : ((List.range m).map f).length = m := by simp
    refine ⟨by rw [hl]; exact h1, fun j k s r hjk hs hr e => ?_, fun j s hs => ?_, fun t i ht hti => ?_⟩
    · obtain ⟨h5, h6⟩ := range_get.1 hs
      obtain ⟨h7, h8⟩ := range_get.1 hr
      have := hi k j (by omega) (by omega) (by rw [h6, h8, e])
      omega
    · obtain ⟨h5, h6⟩ := range_get.1 hs
      obtain ⟨i, hij⟩ := nth_of (show j < F.length by omega)
      exact ⟨j, i, by rw [hl]; exact h5, hij, by rw [← hf j i hij, h6]⟩
    · rw [hl] at ht
      exact ⟨t, range_get.2 ⟨ht, hf t i hti⟩⟩
end
end Go.Proofs.Ytlafkkekfkamoaa
