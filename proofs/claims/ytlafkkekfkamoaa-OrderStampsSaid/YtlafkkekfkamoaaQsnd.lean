/-
  When belts are sound, as plain mathematics: the frames of different increments, counted.
-/
import Derived.Test.YtlafkkekfkamoaaMSpace
import Derived.Test.YtlafkkekfkamoaaBap
namespace Go.Proofs.Ytlafkkekfkamoaa
open Go.RowKit
set_option maxRecDepth 100000
set_option linter.unusedVariables false

def FitI (k n nw : Nat) (F : Nat → Fr) (i : IncR) : Prop := FitsQ k n nw F i.sq i.bt i.fi i.la i.wo
/-- The t-th increment of belt b is as it should be. -/
def OkB (k n nw : Nat) (F : Nat → Fr) (b : Nat) (q : List IncR) (t : Nat) (i : IncR) : Prop :=
  i.bt = b ∧ 0 < i.wo ∧ FitI k n nw F i ∧ ∀ j, 0 < t → q[t - 1]? = some j → j.sq < i.sq
def QueP (k n nw : Nat) (F : Nat → Fr) (b : Nat) (q : List IncR) : Prop := ∀ (t : Nat) (i : IncR), q[t]? = some i → OkB k n nw F b q t i
def BelP (k n nw : Nat) (F : Nat → Fr) (Q : List (List IncR)) : Prop := 1 ≤ Q.length ∧ Q.length ≤ 4 ∧ ∀ (b : Nat) (q : List IncR), Q[b]? = some q → QueP k n nw F b q
/-- Whether some increment has this number. -/
def HasQ (Q : List (List IncR)) (x : Int) : Prop := ∃ q ∈ Q, ∃ i ∈ q, i.sq = x
def SndP (k n nw : Nat) (F : Nat → Fr) (Q : List (List IncR)) : Prop := BelP k n nw F Q ∧ ∀ f, f < n → (F f).ow = -1 ∨ HasQ Q (F f).ow

theorem QueP.asc {k n nw : Nat} {F : Nat → Fr} {b : Nat} {q : List IncR} (h : QueP k n nw F b q) : ∀ {t u : Nat} {i j : IncR}, t < u → q[t]? = some i → q[u]? = some j → i.sq < j.sq := by
  intro t u
  induction u with
  | zero => intro i j h1; omega
  | succ u ih =>
    intro i j h1 hi hj
    have hu : u < q.length := by have := (List.getElem?_eq_some_iff.1 hj).1; omega
    obtain ⟨x, hx⟩ : ∃ x, q[u]? = some x := ⟨q[u], List.getElem?_eq_getElem hu⟩
    have h2 := (h (u + 1) j hj).2.2.2 x (by omega) (by simpa using hx)
    rcases (by omega : t = u ∨ t < u) with e | e
    · subst e
      rw [hi] at hx
      injection hx with hx
      subst hx
      exact h2
    · have := ih e hi hx
      omega
theorem fit_belt {k n nw : Nat} {F : Nat → Fr} {i j : IncR} (hv : FV F n) (hi : FitI k n nw F i) (hj : FitI k n nw F j) (h0 : 0 < i.wo) (h1 : 0 < j.wo) (he : i.sq = j.sq) : i.bt = j.bt := by
  have h2 := fits_stamp hv hi (fun e => by omega)
  obtain ⟨p, _, hp, ho, hs, _⟩ := fits_first hj h1
  have h3 := h2 p hp (by omega)
  omega
theorem fit_sq {k n nw : Nat} {F : Nat → Fr} {i : IncR} (hi : FitI k n nw F i) : 0 ≤ i.sq := hi.1.1
theorem bel_nodup {k n nw : Nat} {F : Nat → Fr} {Q : List (List IncR)} (hv : FV F n) (h : BelP k n nw F Q) : (Q.flatten.map fun i => i.sq).Nodup := by
  rw [List.Nodup, List.pairwise_map, List.pairwise_flatten]
  constructor
  · intro q hq
    obtain ⟨b, hb⟩ := List.mem_iff_getElem?.1 hq
    refine List.pairwise_iff_getElem.2 fun t u ht hu htu => ?_
    have := (h.2.2 b q hb).asc htu (List.getElem?_eq_getElem ht) (List.getElem?_eq_getElem hu)
    omega
  · refine List.pairwise_iff_getElem.2 fun b c hb hc hbc x hx y hy e => ?_
    obtain ⟨t, ht⟩ := List.mem_iff_getElem?.1 hx
    obtain ⟨u, hu⟩ := List.mem_iff_getElem?.1 hy
    obtain ⟨h1, h2, h3, _⟩ := h.2.2 b _ (List.getElem?_eq_getElem hb) t x ht
    obtain ⟨h4, h5, h6, _⟩ := h.2.2 c _ (List.getElem?_eq_getElem hc) u y hu
    have := fit_belt hv h3 h6 h2 h5 e
    omega

/-- How many of the first frames have an owner of the list; how many are not free. -/
def cntS (F : Nat → Fr) (S : List Int) : Nat → Nat
  | 0 => 0
  | t + 1 => cntS F S t + (if (F t).ow ∈ S then 1 else 0)
def cntU (F : Nat → Fr) : Nat → Nat
  | 0 => 0
  | t + 1 => cntU F t + (if (F t).ow = -1 then 0 else 1)
theorem cntU_le (F : Nat → Fr) : ∀ t, cntU F t ≤ t
  | 0 => Nat.le_refl _
  | t + 1 => by have := cntU_le F t; simp only [cntU]; split <;> omega
theorem sum_add {α : Type} (f g : α → Nat) : ∀ l : List α, (l.map fun x => f x + g x).sum = (l.map f).sum + (l.map g).sum
  | [] => rfl
  | x :: l => by simp only [List.map_cons, List.sum_cons, sum_add f g l]; omega
theorem sum_one (x : Int) : ∀ S : List Int, S.Nodup → (S.map fun s => if x = s then 1 else 0).sum = if x ∈ S then 1 else 0
  | [], _ => by simp
  | s :: S, h => by
    obtain ⟨h1, h2⟩ := List.nodup_cons.1 h
    simp only [List.map_cons, List.sum_cons, sum_one x S h2, List.mem_cons]
    by_cases e : x = s
    · subst e
      rw [if_pos rfl, if_neg h1, if_pos (.inl rfl)]
    · rw [if_neg e]
      by_cases e2 : x ∈ S
      · rw [if_pos e2, if_pos (.inr e2)]
      · rw [if_neg e2, if_neg (fun h => h.elim e e2)]
theorem sum_cntO (F : Nat → Fr) (S : List Int) (h : S.Nodup) : ∀ t, (S.map fun s => cntO F s t).sum = cntS F S t
  | 0 => by
    simp only [cntO, cntS]
    have : ∀ l : List Int, (l.map fun _ => 0).sum = 0 := by intro l; induction l with
      | nil => rfl
      | cons x l ih => simp [ih]
    exact this S
  | t + 1 => by
    simp only [cntO, cntS]
    rw [sum_add, sum_cntO F S h t, sum_one _ S h]
theorem cntS_U {F : Nat → Fr} {S : List Int} (hS : ∀ s ∈ S, s ≠ -1) : ∀ t, cntS F S t ≤ cntU F t ∧ (cntS F S t = cntU F t ↔ ∀ f, f < t → (F f).ow = -1 ∨ (F f).ow ∈ S)
  | 0 => ⟨Nat.le_refl _, fun _ f hf => absurd hf (by omega), fun _ => rfl⟩
  | t + 1 => by
    obtain ⟨h1, h2⟩ := cntS_U hS t
    simp only [cntS, cntU]
    by_cases e : (F t).ow = -1
    · rw [if_neg (fun h => hS _ h e), if_pos e]
      refine ⟨by omega, fun h f hf => ?_, fun h => ?_⟩
      · rcases (by omega : f = t ∨ f < t) with rfl | hf
        · exact .inl e
        · exact h2.1 (by omega) f hf
      · have := h2.2 (fun f hf => h f (by omega)); omega
    · rw [if_neg e]
      by_cases e2 : (F t).ow ∈ S
      · rw [if_pos e2]
        refine ⟨by omega, fun h f hf => ?_, fun h => ?_⟩
        · rcases (by omega : f = t ∨ f < t) with rfl | hf
          · exact .inr e2
          · exact h2.1 (by omega) f hf
        · have := h2.2 (fun f hf => h f (by omega)); omega
      · rw [if_neg e2]
        refine ⟨by omega, fun h => by omega, fun h => ?_⟩
        rcases h t (by omega) with h | h
        · exact absurd h e
        · exact absurd h e2

/-- The frames that increments need. -/
def ownS (k : Nat) (l : List IncR) : Nat := (l.map fun i => ceilV i.wo.toNat k).sum
theorem ownS_snoc (k : Nat) (l : List IncR) (i : IncR) : ownS k (l ++ [i]) = ownS k l + ceilV i.wo.toNat k := by simp [ownS]
theorem ownS_cnt {k n nw : Nat} {F : Nat → Fr} : ∀ l : List IncR, (∀ i ∈ l, 0 < i.wo ∧ FitI k n nw F i) → ownS k l = ((l.map fun i => i.sq).map fun s => cntO F s n).sum
  | [], _ => rfl
  | i :: l, h => by
    have ih := ownS_cnt l fun x hx => h x (List.mem_cons_of_mem _ hx)
    obtain ⟨h1, h2⟩ := h i (by simp)
    have h3 := h2.2 h1
    simp only [ownS, List.map_cons, List.sum_cons] at ih ⊢
    omega
theorem ownS_le {k n nw : Nat} {F : Nat → Fr} : ∀ l : List IncR, (∀ i ∈ l, 0 < i.wo ∧ FitI k n nw F i) → ownS k l ≤ n * l.length
  | [], _ => by simp [ownS]
  | i :: l, h => by
    have ih := ownS_le l fun x hx => h x (List.mem_cons_of_mem _ hx)
    obtain ⟨h1, h2⟩ := h i (by simp)
    have h3 := h2.2 h1
    have h4 := cntO_le F i.sq n
    simp only [ownS, List.map_cons, List.sum_cons, List.length_cons, Nat.mul_add] at ih ⊢
    omega
theorem bel_mem {k n nw : Nat} {F : Nat → Fr} {Q : List (List IncR)} (h : BelP k n nw F Q) : ∀ i ∈ Q.flatten, 0 < i.wo ∧ FitI k n nw F i := by
  intro i hi
  obtain ⟨q, hq, hiq⟩ := List.mem_flatten.1 hi
  obtain ⟨b, hb⟩ := List.mem_iff_getElem?.1 hq
  obtain ⟨t, ht⟩ := List.mem_iff_getElem?.1 hiq
  obtain ⟨_, h2, h3, _⟩ := h.2.2 b q hb t i ht
  exact ⟨h2, h3⟩
theorem hasQ_iff {Q : List (List IncR)} {x : Int} : HasQ Q x ↔ x ∈ Q.flatten.map fun i => i.sq := by
  constructor
  · rintro ⟨q, hq, i, hi, e⟩
    exact List.mem_map.2 ⟨i, List.mem_flatten.2 ⟨q, hq, hi⟩, e⟩
  · intro h
    obtain ⟨i, hi, e⟩ := List.mem_map.1 h
    obtain ⟨q, hq, hiq⟩ := List.mem_flatten.1 hi
    exact ⟨q, hq, i, hiq, e⟩
/-- Belts that are sound: all frames that are not free are counted. -/
theorem snd_iff {k n nw : Nat} {F : Nat → Fr} {Q : List (List IncR)} (hv : FV F n) (h : BelP k n nw F Q) : SndP k n nw F Q ↔ cntU F n = ownS k Q.flatten := by
  have hm := bel_mem h
  have h1 := ownS_cnt Q.flatten hm
  have h2 := sum_cntO F _ (bel_nodup hv h) n
  obtain ⟨h3, h4⟩ := cntS_U (F := F) (S := Q.flatten.map fun i => i.sq) (fun s hs => by
    obtain ⟨i, hi, rfl⟩ := List.mem_map.1 hs
    have := fit_sq (hm i hi).2
    omega) n
  constructor
  · rintro ⟨_, h5⟩
    have := h4.2 fun f hf => (h5 f hf).imp id hasQ_iff.1
    omega
  · intro h5
    exact ⟨h, fun f hf => ((h4.1 (by omega)) f hf).imp id hasQ_iff.2⟩
end Go.Proofs.Ytlafkkekfkamoaa
