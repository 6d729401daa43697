/-
  The reference's Drop and Into of remembered sets.
-/
import Derived.Test.YtjkbjbikofindaaRMore
namespace Go.Proofs.Ytjkbjbikofindaa
open Go.RowKit
set_option maxRecDepth 100000
set_option linter.unusedVariables false

/-- A set of a row of the call's own. -/
theorem TOwn.at_ {w : World} {base lo : Nat} {v : Value} {L : List SetR} (h : TOwn w base lo v L) {j : Nat} {x : SetR} (hj : L[j]? = some x) :
    ∃ g cap A c, v = .slice (some ⟨g, 0, none⟩) L.length cap ∧ g < w.heap.size ∧ cap ≤ maxLen ∧ w.cell? ⟨g, j * 3, none⟩ = some (.int .i64 x.fr) ∧ w.cell? ⟨g, j * 3 + 1, none⟩ = some (.int .i64 x.tg) ∧ w.cell? ⟨g, j * 3 + 2, none⟩ = some (.slice A x.sl.length c) ∧ SArr w (Inn w lo) A c x.sl := by
  obtain ⟨_, vs, ⟨hl, h1⟩, h2⟩ := h
  have hjl := get_lt hj
  rcases h1 with ⟨rfl, hz⟩ | ⟨g, cap, cur, rfl, hb, hg, hc, hm, hs, htk⟩
  · omega
  · obtain ⟨a0, a1, A, c, a2, hS⟩ := h2.2 j x hj
    rw [← htk, List.getElem?_take, if_pos (by omega)] at a0 a1 a2
    refine ⟨g, cap, A, c, rfl, blk_lt hg, hm, ?_, ?_, ?_, hS⟩
    · rw [cell_row hg]; simpa using a0
    · rw [cell_row hg]; simpa using a1
    · rw [cell_row hg]; simpa using a2
theorem TOwn.len {w : World} {base lo : Nat} {v : Value} {L : List SetR} (h : TOwn w base lo v L) : ∃ A cap, v = .slice A L.length cap ∧ cap ≤ maxLen ∧ L.length ≤ cap := by
  obtain ⟨_, vs, ⟨hl, h1⟩, h2⟩ := h
  rcases h1 with ⟨rfl, hz⟩ | ⟨g, cap, cur, rfl, hb, hg, hc, hm, hs, htk⟩
  · exact ⟨none, 0, by rw [hz], by simp, by omega⟩
  · exact ⟨_, cap, rfl, hm, hc⟩
theorem drpS_next {F : List Int} {L : List SetR} {t : Nat} {x : SetR} (h : L[t]? = some x) : drpS F (L.take (t + 1)) = if x.fr ∈ F ∨ x.tg ∈ F then drpS F (L.take t) else drpS F (L.take t) ++ [x] := by
  rw [List.take_add_one, h]
  unfold drpS
  rw [List.filter_append]
  by_cases h1 : x.fr ∈ F
  · rw [if_pos (.inl h1)]; simp [h1]
  · by_cases h2 : x.tg ∈ F
    · rw [if_pos (.inr h2)]; simp [h2]
    · rw [if_neg (by simp [h1, h2])]; simp [h1, h2]

end Go.Proofs.Ytjkbjbikofindaa
