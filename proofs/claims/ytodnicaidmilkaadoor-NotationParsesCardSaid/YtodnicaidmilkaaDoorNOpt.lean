/-
  The reference's reader, told by what is left of the text: some K, or nothing once the text is bad.
-/
import Derived.Test.YtodnicaidmilkaaDoorNNum
namespace Go.Proofs.YtodnicaidmilkaaDoor
open Go.RowKit
set_option maxRecDepth 100000
set_option linter.unusedVariables false

/-- The reader at rd: what is left is K, or the text is bad. -/
def RdP (w : World) (rd : Nat) (o : Option (List Nat)) : Prop := ∃ (L : List Nat) (b : Bool), Byt L ∧ L.length ≤ 1024 ∧ Blk w rd 65 #[.string (tx L), .bool b] ∧ (∀ K, o = some K → L = K ∧ b = false) ∧ (o = none → b = true)
theorem RdP.next {w w' : World} {rd : Nat} {o : Option (List Nat)} (h : RdP w rd o) (hb : Below w.heap.size w w') : RdP w' rd o := by
  obtain ⟨L, b, h1, h2, h3, h4⟩ := h
  exact ⟨L, b, h1, h2, h3.next hb, h4⟩
theorem RdP.turn {w w' : World} {rd g : Nat} {o : Option (List Nat)} (h : RdP w rd o) (hg : w.grownBy w' (some g)) (hn : rd ≠ g) : RdP w' rd o := by
  obtain ⟨L, b, h1, h2, h3, h4⟩ := h
  exact ⟨L, b, h1, h2, h3.turn hg hn, h4⟩
def TakeOf (w : World) (rd : Nat) (o : Option (List Nat)) (e : Ending) (w' : World) : Prop := e = .returned (.tuple #[]) ∧ RdP w' rd o ∧ w.grownBy w' (some rd)
theorem takeP_any (rd : Nat) (t : List Nat) (o : Option (List Nat)) (w : World) (ht : Byt t) (h : RdP w rd o) :
    Calls Tryd.prog 28 #[.pointer (some ⟨rd, 0, none⟩), .string (tx t)] w (TakeOf w rd (o.bind (fixP t))) := by
  obtain ⟨L, b, h1, h2, h3, h4, h5⟩ := h
  refine (take_any rd t L b w ht h1 h2 h3).mono ?_
  rintro e w' ⟨rfl, hb, hg⟩
  refine ⟨rfl, ⟨tkS t L, tkB t L b, ?_, ?_, hb, fun K hK => ?_, fun hK => ?_⟩, hg⟩
  · by_cases hp : t.isPrefixOf L = true
    · rw [(tk_yes hp b).1]; exact h1.drop _
    · rw [(tk_no hp b).1]; exact h1
  · by_cases hp : t.isPrefixOf L = true
    · rw [(tk_yes hp b).1, List.length_drop]; omega
    · rw [(tk_no hp b).1]; exact h2
  · rw [Option.bind_eq_some_iff] at hK
    obtain ⟨M, hM, hf⟩ := hK
    obtain ⟨rfl, rfl⟩ := h4 M hM
    unfold tkS tkB
    rw [hf]
    exact ⟨rfl, rfl⟩
  · rcases o with _ | M
    · have hb1 := h5 rfl
      subst hb1
      by_cases hp : t.isPrefixOf L = true
      · exact (tk_yes hp true).2
      · exact (tk_no hp true).2
    · obtain ⟨rfl, rfl⟩ := h4 M rfl
      rw [Option.bind_some] at hK
      unfold tkB
      rw [hK]
def NumOf (w : World) (rd : Nat) (o : Option (List Nat)) (e : Ending) (w' : World) : Prop := ∃ n : Nat, e = .returned (.int .i64 n) ∧ n ≤ 9999 ∧ RdP w' rd ((o.bind numP).map (·.2)) ∧ (∀ x, o.bind numP = some x → n = x.1) ∧ w.grownBy w' (some rd)
theorem numberP_any (rd : Nat) (o : Option (List Nat)) (w : World) (h : RdP w rd o) :
    Calls Tryd.prog 29 #[.pointer (some ⟨rd, 0, none⟩)] w (NumOf w rd o) := by
  obtain ⟨L, b, h1, h2, h3, h4, h5⟩ := h
  refine (number_any rd L b w h1 h2 h3).mono ?_
  rintro e w' ⟨rfl, hb, hg⟩
  have key : (∃ (n : Nat) (K : List Nat), numP L = some (n, K) ∧ nmV L = n ∧ nmS L = K ∧ (∀ c, nmB L c = c) ∧ n ≤ 9999 ∧ L = decL n ++ K) ∨ (numP L = none ∧ nmV L = 0 ∧ nmS L = L ∧ ∀ c, nmB L c = true) := by
    rcases e : numP L with _ | ⟨n, K⟩
    · refine .inr ⟨rfl, ?_, ?_, fun c => ?_⟩
      · unfold nmV; rw [e]
      · unfold nmS; rw [e]
      · unfold nmB; rw [e]
    · obtain ⟨p1, p2, _⟩ := numP_of e
      refine .inl ⟨n, K, rfl, ?_, ?_, fun c => ?_, p2, p1⟩
      · unfold nmV; rw [e]
      · unfold nmS; rw [e]
      · unfold nmB; rw [e]
  rcases key with ⟨n, K, e, v, s, c, p2, p1⟩ | ⟨e, v, s, c⟩
  · refine ⟨n, by rw [v], p2, ⟨K, b, ?_, ?_, by rw [s, c] at hb; exact hb, fun M hM => ?_, fun hM => ?_⟩, fun x hx => ?_, hg⟩
    · rw [p1] at h1; exact h1.right
    · rw [p1, List.length_append] at h2; omega
    · rcases o with _ | N
      · simp at hM
      · obtain ⟨rfl, rfl⟩ := h4 N rfl
        rw [Option.bind_some, e] at hM
        injection hM with hM
        exact ⟨hM, rfl⟩
    · rcases o with _ | N
      · exact h5 rfl
      · obtain ⟨rfl, rfl⟩ := h4 N rfl
        rw [Option.bind_some, e] at hM
        cases hM
    · rcases o with _ | N
      · cases hx
      · obtain ⟨rfl, _⟩ := h4 N rfl
        rw [Option.bind_some, e] at hx
        injection hx with hx
        rw [← hx]
  · refine ⟨0, by rw [v]; rfl, by omega, ⟨L, true, h1, h2, by rw [s, c] at hb; exact hb, fun M hM => ?_, fun _ => rfl⟩, fun x hx => ?_, hg⟩
    · rcases o with _ | N
      · simp at hM
      · obtain ⟨rfl, _⟩ := h4 N rfl
        rw [Option.bind_some, e] at hM
        cases hM
    · rcases o with _ | N
      · cases hx
      · obtain ⟨rfl, _⟩ := h4 N rfl
        rw [Option.bind_some, e] at hx
        cases hx
end Go.Proofs.YtodnicaidmilkaaDoor
