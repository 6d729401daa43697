/-
  The order of made belts: strictly ascending stamps.
-/
import Derived.Test.YtlafkkekfkamoaaUStm
import Derived.Test.YtlafkkekfkamoaaLFrames
namespace Go.Proofs.Ytlafkkekfkamoaa
open Go.RowKit
set_option maxRecDepth 100000
set_option linter.unusedVariables false

def stI (i : IncR) : Int := i.bt * 4294967296 + i.sq
theorem stampZ_of {bt sq : Int} (h0 : 0 ≤ bt) (h1 : bt ≤ 3) (h2 : 0 ≤ sq) (h3 : sq < 4294967296) : stampZ bt sq = bt * 4294967296 + sq := by
  unfold stampZ
  have e1 : wrap64 (bt * 4294967296) = bt * 4294967296 := IntWalk.wrap64_in _ (by omega)
  have e2 : wrap64 (bt * 4294967296 + sq) = bt * 4294967296 + sq := IntWalk.wrap64_in _ (by omega)
  rw [e1, e2]
section
variable {F : Nat → Fr} {n k : Nat} {I : List IncR}
theorem made_in (h : AllP F n k I) {i : IncR} (hi : i ∈ I) : 0 ≤ i.bt ∧ i.bt ≤ 2 ∧ 0 ≤ i.sq ∧ i.sq ≤ 50 := by
  obtain ⟨t, ht⟩ := List.mem_iff_getElem?.1 hi
  obtain ⟨⟨h1, h2, h3, h4, _⟩, _⟩ := h t i ht
  exact ⟨h3, h4, h1, h2⟩
theorem made_stamp (h : AllP F n k I) {i : IncR} (hi : i ∈ I) : stampZ i.bt i.sq = stI i := by
  obtain ⟨h1, h2, h3, h4⟩ := made_in h hi
  exact stampZ_of h1 (by omega) h3 (by omega)
theorem made_inj (h : AllP F n k I) {i j : IncR} (hi : i ∈ I) (hj : j ∈ I) (e : i.sq = j.sq) : i = j := by
  obtain ⟨t, ht⟩ := List.mem_iff_getElem?.1 hi
  obtain ⟨u, hu⟩ := List.mem_iff_getElem?.1 hj
  obtain ⟨_, _, a, b⟩ := h t i ht
  obtain ⟨_, _, c, d⟩ := h u j hu
  have : t = u := by omega
  subst this
  rw [ht] at hu
  injection hu
theorem flat_mem (h : AllP F n k I) {i : IncR} : i ∈ (qOf I).flatten ↔ i ∈ I := by
  simp only [qOf, List.flatten_cons, List.flatten_nil, List.mem_append, List.mem_filter]
  constructor
  · rintro (⟨h, _⟩ | ⟨h, _⟩ | ⟨h, _⟩ | h)
    · exact h
    · exact h
    · exact h
    · cases h
  · intro hi
    obtain ⟨h1, h2, _⟩ := made_in h hi
    rcases (by omega : i.bt = 0 ∨ i.bt = 1 ∨ i.bt = 2) with e | e | e
    · exact .inl ⟨hi, by simp [e]⟩
    · exact .inr (.inl ⟨hi, by simp [e]⟩)
    · exact .inr (.inr (.inl ⟨hi, by simp [e]⟩))
theorem flat_asc (h : AllP F n k I) : (qOf I).flatten.Pairwise fun a b => stI a < stI b := by
  have hp : ∀ c : Int, (I.filter fun i => i.bt == c).Pairwise fun a b => stI a < stI b := by
    intro c
    refine List.Pairwise.imp_of_mem ?_ ((allP_asc h).sublist List.filter_sublist)
    intro a b ha hb hab
    rw [List.mem_filter, beq_iff_eq] at ha hb
    unfold stI
    omega
  have hx : ∀ (c d : Int), c < d → ∀ a ∈ (I.filter fun i => i.bt == c), ∀ b ∈ (I.filter fun i => i.bt == d), stI a < stI b := by
    intro c d hcd a ha b hb
    rw [List.mem_filter, beq_iff_eq] at ha hb
    obtain ⟨_, _, _, a4⟩ := made_in h ha.1
    obtain ⟨_, _, b3, _⟩ := made_in h hb.1
    unfold stI
    omega
  simp only [qOf, List.flatten_cons, List.flatten_nil, List.append_nil]
  refine List.pairwise_append.2 ⟨hp 0, List.pairwise_append.2 ⟨hp 1, hp 2, fun a ha b hb => hx 1 2 (by decide) a ha b hb⟩, fun a ha b hb => ?_⟩
  rcases List.mem_append.1 hb with hb | hb
  · exact hx 0 1 (by decide) a ha b hb
  · exact hx 0 2 (by decide) a ha b hb
end
theorem pre_nil (F : List IncR) : PreP F [] := ⟨by simp, fun j k s r _ h => by simp at h, fun j s h => by simp at h, fun t i h => by simp at h⟩
theorem pre_one {f : IncR} {R : List IncR} {s : Int} : PreP (f :: R) [s] ↔ f.sq = s := by
  constructor
  · intro h
    obtain ⟨t, i, h1, h2, h3⟩ := h.2.2.1 0 s rfl
    have : t = 0 := by simp at h1; exact h1
    subst this
    simp at h2
    rw [h2]
    exact h3
  · intro h
    refine ⟨by simp, fun j k a b hjk ha hb => ?_, fun j a ha => ?_, fun t i ht hi => ?_⟩
    · have := get_lt ha
      simp at this
      omega
    · have hj := get_lt ha
      simp at hj
      subst hj
      simp at ha
      exact ⟨0, f, by simp, rfl, by rw [h, ha]⟩
    · simp at ht
      subst ht
      simp at hi
      exact ⟨0, by rw [← hi, h]; rfl⟩
end Go.Proofs.Ytlafkkekfkamoaa
