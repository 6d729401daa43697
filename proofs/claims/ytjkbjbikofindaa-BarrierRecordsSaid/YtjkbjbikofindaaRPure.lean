/-
  Remembered sets as plain lists: order, validity, insertion, what is dropped and what points into frames.
-/
import Derived.Test.YtjkbjbikofindaaRBase
namespace Go.Proofs.Ytjkbjbikofindaa
open Go.RowKit
set_option maxRecDepth 100000
set_option linter.unusedVariables false

/-- A remembered set: the two frames, and the slots. -/
structure SetR where
  fr : Int
  tg : Int
  sl : List Int

theorem SetR.ext' {x y : SetR} (h1 : x.fr = y.fr) (h2 : x.tg = y.tg) (h3 : x.sl = y.sl) : x = y := by
  cases x; cases y; simp_all

/-- One pair of frames comes before another. -/
def bef (f t g u : Int) : Prop := f < g ∨ f = g ∧ t < u
instance (f t g u : Int) : Decidable (bef f t g u) := by unfold bef; infer_instance
theorem bef_irrefl (f t : Int) : ¬ bef f t f t := by unfold bef; omega
theorem bef_trans {f t g u h v : Int} (h1 : bef f t g u) (h2 : bef g u h v) : bef f t h v := by unfold bef at *; omega
theorem bef_asymm {f t g u : Int} (h1 : bef f t g u) : ¬ bef g u f t := by unfold bef at *; omega
theorem bef_eq {f t g u : Int} (h1 : ¬ bef f t g u) (h2 : ¬ bef g u f t) : f = g ∧ t = u := by unfold bef at *; omega
theorem bef_of {f t g u : Int} (h1 : ¬ bef f t g u) (h2 : ¬ (f = g ∧ t = u)) : bef g u f t := by unfold bef at *; omega

/-- The number of a frame. -/
def numP (f : Int) : Prop := 0 ≤ f ∧ f < 64
instance (f : Int) : Decidable (numP f) := by unfold numP; infer_instance

/-- Each number is greater than the one before. -/
def AscN : List Int → Prop
  | [] => True
  | [_] => True
  | a :: b :: l => a < b ∧ AscN (b :: l)
theorem ascN_iff : ∀ S : List Int, AscN S ↔ ∀ (k : Nat) (a b : Int), S[k]? = some a → S[k + 1]? = some b → a < b
  | [] => by simp [AscN]
  | [x] => by simp [AscN]
  | x :: y :: S => by
    rw [AscN, ascN_iff (y :: S)]
    constructor
    · rintro ⟨h1, h2⟩ k a b ha hb
      rcases k with _ | k
      · simp at ha hb
        omega
      · exact h2 k a b (by simpa using ha) (by simpa using hb)
    · intro h
      exact ⟨h 0 x y (by simp) (by simp), fun k a b ha hb => h (k + 1) a b (by simpa using ha) (by simpa using hb)⟩
theorem AscN.tail {a : Int} {l : List Int} (h : AscN (a :: l)) : AscN l := by
  cases l with
  | nil => trivial
  | cons b l => exact h.2
theorem AscN.all {a : Int} {l : List Int} (h : AscN (a :: l)) : ∀ x ∈ l, a < x := by
  induction l generalizing a with
  | nil => simp
  | cons b l ih =>
    intro x hx
    rcases List.mem_cons.1 hx with rfl | hx
    · exact h.1
    · have := ih h.2 x hx
      have := h.1
      omega
theorem ascN_cons {a : Int} {l : List Int} (h1 : AscN l) (h2 : ∀ x ∈ l, a < x) : AscN (a :: l) := by
  cases l with
  | nil => trivial
  | cons b l => exact ⟨h2 b (by simp), h1⟩
/-- A number more at its place. -/
def withL (v : Int) : List Int → List Int
  | [] => [v]
  | x :: l => if x < v then x :: withL v l else if x = v then x :: l else v :: x :: l
theorem mem_withL {v y : Int} : ∀ l : List Int, y ∈ withL v l ↔ y = v ∨ y ∈ l
  | [] => by simp [withL]
  | x :: l => by
    have ih := mem_withL (v := v) (y := y) l
    unfold withL
    by_cases h : x < v
    · rw [if_pos h]
      simp only [List.mem_cons, ih]
      constructor
      · rintro (h | h | h) <;> simp [h]
      · rintro (h | h | h) <;> simp [h]
    · rw [if_neg h]
      by_cases h2 : x = v
      · rw [if_pos h2]
        subst h2
        simp
      · rw [if_neg h2]
        simp
theorem withL_asc {v : Int} : ∀ l : List Int, AscN l → AscN (withL v l)
  | [], _ => trivial
  | x :: l, h => by
    have ih := withL_asc (v := v) l h.tail
    unfold withL
    by_cases h1 : x < v
    · rw [if_pos h1]
      refine ascN_cons ih fun y hy => ?_
      rcases (mem_withL l).1 hy with rfl | hy
      · exact h1
      · exact h.all y hy
    · rw [if_neg h1]
      by_cases h2 : x = v
      · rw [if_pos h2]; exact h
      · rw [if_neg h2]
        exact ⟨by omega, h⟩
theorem withL_ne (v : Int) (l : List Int) : withL v l ≠ [] := by
  intro h
  have := (mem_withL (v := v) (y := v) l).2 (.inl rfl)
  rw [h] at this
  simp at this
theorem withL_pos {v : Int} {l : List Int} (hv : 0 ≤ v) (hl : ∀ x ∈ l, 0 ≤ x) : ∀ x ∈ withL v l, 0 ≤ x := by
  intro x hx
  rcases (mem_withL l).1 hx with rfl | hx
  · exact hv
  · exact hl x hx
/-- At the place where the numbers below end. -/
theorem withL_at {v : Int} : ∀ (l : List Int) (n : Nat), n ≤ l.length → (∀ (j : Nat) (x : Int), j < n → l[j]? = some x → x < v) → (∀ x, l[n]? = some x → ¬ x < v) →
    withL v l = if l[n]? = some v then l else l.take n ++ [v] ++ l.drop n
  | [], n, hn, _, _ => by simp [withL]
  | x :: l, 0, _, _, h => by
    have h0 := h x (by simp)
    unfold withL
    rw [if_neg h0]
    by_cases h2 : x = v
    · rw [if_pos h2, if_pos (by simp [h2])]
    · rw [if_neg h2, if_neg (by simp [h2])]
      simp
  | x :: l, n + 1, hn, hb, h => by
    have h0 := hb 0 x (by omega) (by simp)
    unfold withL
    rw [if_pos h0, withL_at l n (by simpa using hn) (fun j y hj hy => hb (j + 1) y (by omega) (by simpa using hy)) (fun y hy => h y (by simpa using hy))]
    by_cases h2 : l[n]? = some v
    · rw [if_pos h2, if_pos (by simpa using h2)]
    · rw [if_neg h2, if_neg (by simpa using h2)]
      simp
theorem withL_len (v : Int) : ∀ l : List Int, l.length ≤ (withL v l).length ∧ (withL v l).length ≤ l.length + 1
  | [] => by simp [withL]
  | x :: l => by
    have ih := withL_len v l
    unfold withL
    by_cases h : x < v
    · rw [if_pos h]; simp; omega
    · rw [if_neg h]
      by_cases h2 : x = v
      · rw [if_pos h2]; simp
      · rw [if_neg h2]; simp

/-- One set as it should be. -/
def SetOk (x : SetR) : Prop := numP x.fr ∧ numP x.tg ∧ x.sl ≠ [] ∧ (∀ s ∈ x.sl, 0 ≤ s) ∧ AscN x.sl
/-- The pairs ascend. -/
def AscS : List SetR → Prop
  | [] => True
  | [_] => True
  | x :: y :: l => bef x.fr x.tg y.fr y.tg ∧ AscS (y :: l)
theorem AscS.tail {a : SetR} {l : List SetR} (h : AscS (a :: l)) : AscS l := by
  cases l with
  | nil => trivial
  | cons b l => exact h.2
theorem AscS.all {a : SetR} {l : List SetR} (h : AscS (a :: l)) : ∀ x ∈ l, bef a.fr a.tg x.fr x.tg := by
  induction l generalizing a with
  | nil => simp
  | cons b l ih =>
    intro x hx
    rcases List.mem_cons.1 hx with rfl | hx
    · exact h.1
    · exact bef_trans h.1 (ih h.2 x hx)
theorem ascS_cons {a : SetR} {l : List SetR} (h1 : AscS l) (h2 : ∀ x ∈ l, bef a.fr a.tg x.fr x.tg) : AscS (a :: l) := by
  cases l with
  | nil => trivial
  | cons b l => exact ⟨h2 b (by simp), h1⟩
theorem ascS_iff : ∀ S : List SetR, AscS S ↔ ∀ (k : Nat) (a b : SetR), S[k]? = some a → S[k + 1]? = some b → bef a.fr a.tg b.fr b.tg
  | [] => by simp [AscS]
  | [x] => by simp [AscS]
  | x :: y :: S => by
    rw [AscS, ascS_iff (y :: S)]
    constructor
    · rintro ⟨h1, h2⟩ k a b ha hb
      rcases k with _ | k
      · simp at ha hb
        rw [← ha, ← hb]
        exact h1
      · exact h2 k a b (by simpa using ha) (by simpa using hb)
    · intro h
      exact ⟨h 0 x y (by simp) (by simp), fun k a b ha hb => h (k + 1) a b (by simpa using ha) (by simpa using hb)⟩
/-- Sets as they should be. -/
def ValS (L : List SetR) : Prop := (∀ x ∈ L, SetOk x) ∧ AscS L
theorem ValS.nil : ValS [] := ⟨by simp, trivial⟩
theorem ValS.tail {a : SetR} {l : List SetR} (h : ValS (a :: l)) : ValS l := ⟨fun x hx => h.1 x (List.mem_cons_of_mem _ hx), h.2.tail⟩
/-- How many slots. -/
def cntT (L : List SetR) : Nat := (L.map fun x => x.sl.length).sum
/-- A slot is there. -/
def HasS (L : List SetR) (f t s : Int) : Prop := ∃ x ∈ L, x.fr = f ∧ x.tg = t ∧ s ∈ x.sl
/-- A slot more. -/
def putS (f t s : Int) : List SetR → List SetR
  | [] => [⟨f, t, [s]⟩]
  | x :: l => if bef x.fr x.tg f t then x :: putS f t s l else if bef f t x.fr x.tg then ⟨f, t, [s]⟩ :: x :: l else ⟨x.fr, x.tg, withL s x.sl⟩ :: l
theorem putS_has {f t s g u v : Int} : ∀ L : List SetR, HasS (putS f t s L) g u v ↔ (g = f ∧ u = t ∧ v = s) ∨ HasS L g u v
  | [] => by simp [putS, HasS]; constructor <;> rintro ⟨rfl, rfl, rfl⟩ <;> simp
  | x :: l => by
    have ih := putS_has (f := f) (t := t) (s := s) (g := g) (u := u) (v := v) l
    unfold putS
    by_cases h : bef x.fr x.tg f t
    · rw [if_pos h]
      unfold HasS at ih ⊢
      simp only [List.mem_cons, exists_eq_or_imp, ih]
      constructor
      · rintro (h | h | h)
        · exact .inr (.inl h)
        · exact .inl h
        · exact .inr (.inr h)
      · rintro (h | h | h)
        · exact .inr (.inl h)
        · exact .inl h
        · exact .inr (.inr h)
    · rw [if_neg h]
      by_cases h2 : bef f t x.fr x.tg
      · rw [if_pos h2]
        unfold HasS
        simp only [List.mem_cons, exists_eq_or_imp, List.not_mem_nil, or_false]
        constructor
        · rintro (⟨h1, h2, h3⟩ | h)
          · exact .inl ⟨h1.symm, h2.symm, h3⟩
          · exact .inr h
        · rintro (⟨h1, h2, h3⟩ | h)
          · exact .inl ⟨h1.symm, h2.symm, h3⟩
          · exact .inr h
      · rw [if_neg h2]
        obtain ⟨e1, e2⟩ := bef_eq h h2
        unfold HasS
        simp only [List.mem_cons, exists_eq_or_imp, mem_withL]
        constructor
        · rintro (⟨h1, h2, h3 | h3⟩ | h)
          · exact .inl ⟨by omega, by omega, h3⟩
          · exact .inr (.inl ⟨h1, h2, h3⟩)
          · exact .inr (.inr h)
        · rintro (⟨h1, h2, h3⟩ | ⟨h1, h2, h3⟩ | h)
          · exact .inl ⟨by omega, by omega, .inl h3⟩
          · exact .inl ⟨h1, h2, .inr h3⟩
          · exact .inr h
theorem putS_mem {f t s : Int} : ∀ {L : List SetR} {y : SetR}, y ∈ putS f t s L → (y.fr = f ∧ y.tg = t ∧ (y.sl = [s] ∨ ∃ x ∈ L, y.sl = withL s x.sl)) ∨ y ∈ L
  | [], y, h => by simp [putS] at h; subst h; exact .inl ⟨rfl, rfl, .inl rfl⟩
  | x :: l, y, h => by
    unfold putS at h
    by_cases h1 : bef x.fr x.tg f t
    · rw [if_pos h1] at h
      rcases List.mem_cons.1 h with rfl | h
      · exact .inr (by simp)
      · rcases putS_mem h with ⟨a, b, c⟩ | h
        · refine .inl ⟨a, b, c.imp id ?_⟩
          rintro ⟨x, hx, e⟩
          exact ⟨x, List.mem_cons_of_mem _ hx, e⟩
        · exact .inr (List.mem_cons_of_mem _ h)
    · rw [if_neg h1] at h
      by_cases h2 : bef f t x.fr x.tg
      · rw [if_pos h2] at h
        rcases List.mem_cons.1 h with rfl | h
        · exact .inl ⟨rfl, rfl, .inl rfl⟩
        · exact .inr h
      · rw [if_neg h2] at h
        obtain ⟨e1, e2⟩ := bef_eq h1 h2
        rcases List.mem_cons.1 h with rfl | h
        · exact .inl ⟨e1, e2, .inr ⟨x, by simp, rfl⟩⟩
        · exact .inr (List.mem_cons_of_mem _ h)
theorem SetOk.with_ {x : SetR} (h : SetOk x) {s : Int} (hs : 0 ≤ s) : SetOk ⟨x.fr, x.tg, withL s x.sl⟩ :=
  ⟨h.1, h.2.1, withL_ne s x.sl, withL_pos hs h.2.2.2.1, withL_asc _ h.2.2.2.2⟩
theorem putS_ok {f t s : Int} (hf : numP f) (ht : numP t) (hs : 0 ≤ s) : ∀ {L : List SetR}, ValS L → ValS (putS f t s L)
  | [], _ => ⟨by simp [putS]; exact ⟨hf, ht, by simp, by simpa using hs, trivial⟩, trivial⟩
  | x :: l, h => by
    have ih := putS_ok hf ht hs (L := l) h.tail
    unfold putS
    by_cases h1 : bef x.fr x.tg f t
    · rw [if_pos h1]
      refine ⟨fun y hy => ?_, ascS_cons ih.2 fun y hy => ?_⟩
      · rcases List.mem_cons.1 hy with rfl | hy
        · exact h.1 _ (by simp)
        · exact ih.1 y hy
      · rcases putS_mem hy with ⟨a, b, _⟩ | hy
        · rw [a, b]; exact h1
        · exact h.2.all y hy
    · rw [if_neg h1]
      by_cases h2 : bef f t x.fr x.tg
      · rw [if_pos h2]
        refine ⟨fun y hy => ?_, h2, h.2⟩
        rcases List.mem_cons.1 hy with rfl | hy
        · exact ⟨hf, ht, by simp, by simpa using hs, trivial⟩
        · exact h.1 y hy
      · rw [if_neg h2]
        refine ⟨fun y hy => ?_, ascS_cons h.2.tail fun y hy => h.2.all y hy⟩
        rcases List.mem_cons.1 hy with rfl | hy
        · exact (h.1 x (by simp)).with_ hs
        · exact h.1 y (List.mem_cons_of_mem _ hy)
/-- At the place where the pairs before end. -/
theorem putS_at {f t s : Int} : ∀ (L : List SetR) (n : Nat), n ≤ L.length → (∀ (j : Nat) (x : SetR), j < n → L[j]? = some x → bef x.fr x.tg f t) → (∀ x, L[n]? = some x → ¬ bef x.fr x.tg f t) →
    putS f t s L = match L[n]? with
      | some x => if bef f t x.fr x.tg then L.take n ++ [⟨f, t, [s]⟩] ++ L.drop n else L.set n ⟨x.fr, x.tg, withL s x.sl⟩
      | none => L ++ [⟨f, t, [s]⟩]
  | [], n, hn, _, _ => by simp [putS]
  | x :: l, 0, _, _, h => by
    have h0 := h x (by simp)
    unfold putS
    rw [if_neg h0]
    simp
  | x :: l, n + 1, hn, hb, h => by
    have h0 := hb 0 x (by omega) (by simp)
    unfold putS
    rw [if_pos h0, putS_at l n (by simpa using hn) (fun j y hj hy => hb (j + 1) y (by omega) (by simpa using hy)) (fun y hy => h y (by simpa using hy))]
    simp only [List.getElem?_cons_succ]
    cases l[n]? with
    | none => simp
    | some y =>
      by_cases h2 : bef f t y.fr y.tg
      · simp [h2]
      · simp [h2]
/-- Sets that say the same are the same. -/
theorem valS_ext : ∀ {L M : List SetR}, ValS L → ValS M → (∀ f t s, HasS L f t s ↔ HasS M f t s) → L = M
  | [], [], _, _, _ => rfl
  | [], y :: M, _, hM, h => by
    exfalso
    obtain ⟨s, hs⟩ := List.exists_mem_of_ne_nil _ (hM.1 y (by simp)).2.2.1
    obtain ⟨x, hx, _⟩ := (h y.fr y.tg s).2 ⟨y, by simp, rfl, rfl, hs⟩
    simp at hx
  | x :: L, [], hL, _, h => by
    exfalso
    obtain ⟨s, hs⟩ := List.exists_mem_of_ne_nil _ (hL.1 x (by simp)).2.2.1
    obtain ⟨y, hy, _⟩ := (h x.fr x.tg s).1 ⟨x, by simp, rfl, rfl, hs⟩
    simp at hy
  | x :: L, y :: M, hL, hM, h => by
    have hx := hL.1 x (by simp)
    have hy := hM.1 y (by simp)
    have e : x.fr = y.fr ∧ x.tg = y.tg := by
      obtain ⟨s, hs⟩ := List.exists_mem_of_ne_nil _ hx.2.2.1
      obtain ⟨s', hs'⟩ := List.exists_mem_of_ne_nil _ hy.2.2.1
      obtain ⟨y', hy', a1, a2, _⟩ := (h x.fr x.tg s).1 ⟨x, by simp, rfl, rfl, hs⟩
      obtain ⟨x', hx', b1, b2, _⟩ := (h y.fr y.tg s').2 ⟨y, by simp, rfl, rfl, hs'⟩
      refine bef_eq (fun hb => ?_) (fun hb => ?_)
      · rcases List.mem_cons.1 hy' with rfl | hy'
        · rw [a1, a2] at hb; exact bef_irrefl _ _ hb
        · have := hM.2.all y' hy'
          rw [a1, a2] at this
          exact bef_asymm hb this
      · rcases List.mem_cons.1 hx' with rfl | hx'
        · rw [b1, b2] at hb; exact bef_irrefl _ _ hb
        · have := hL.2.all x' hx'
          rw [b1, b2] at this
          exact bef_asymm hb this
    have hsl : ∀ s, s ∈ x.sl ↔ s ∈ y.sl := by
      intro s
      constructor
      · intro hs
        obtain ⟨y', hy', a1, a2, a3⟩ := (h x.fr x.tg s).1 ⟨x, by simp, rfl, rfl, hs⟩
        rcases List.mem_cons.1 hy' with rfl | hy'
        · exact a3
        · have := hM.2.all y' hy'
          rw [a1, a2, e.1, e.2] at this
          exact absurd this (bef_irrefl _ _)
      · intro hs
        obtain ⟨y', hy', a1, a2, a3⟩ := (h y.fr y.tg s).2 ⟨y, by simp, rfl, rfl, hs⟩
        rcases List.mem_cons.1 hy' with rfl | hy'
        · exact a3
        · have := hL.2.all y' hy'
          rw [a1, a2, e.1, e.2] at this
          exact absurd this (bef_irrefl _ _)
    have hse : x.sl = y.sl := asc_ext hx.2.2.2.2 hy.2.2.2.2 hsl
    have hxy : x = y := SetR.ext' e.1 e.2 hse
    subst hxy
    refine congrArg _ (valS_ext hL.tail hM.tail fun f t s => ?_)
    have low : ∀ {K : List SetR}, ValS (x :: K) → (HasS K f t s ↔ HasS (x :: K) f t s ∧ ¬ (x.fr = f ∧ x.tg = t)) := by
      intro K hK
      constructor
      · rintro ⟨z, hz, a1, a2, a3⟩
        refine ⟨⟨z, List.mem_cons_of_mem _ hz, a1, a2, a3⟩, fun hc => ?_⟩
        have := hK.2.all z hz
        rw [a1, a2, hc.1, hc.2] at this
        exact bef_irrefl _ _ this
      · rintro ⟨⟨z, hz, a1, a2, a3⟩, hc⟩
        rcases List.mem_cons.1 hz with rfl | hz
        · exact absurd ⟨a1, a2⟩ hc
        · exact ⟨z, hz, a1, a2, a3⟩
    rw [low hL, low hM, h]
where
  asc_ext : ∀ {S T : List Int}, AscN S → AscN T → (∀ s, s ∈ S ↔ s ∈ T) → S = T
    | [], [], _, _, _ => rfl
    | [], y :: T, _, _, h => by have := (h y).2 (by simp); simp at this
    | x :: S, [], _, _, h => by have := (h x).1 (by simp); simp at this
    | x :: S, y :: T, hS, hT, h => by
      have e : x = y := by
        rcases List.mem_cons.1 ((h x).1 (by simp)) with e | h1
        · exact e
        · rcases List.mem_cons.1 ((h y).2 (by simp)) with e | h2
          · exact e.symm
          · have := hT.all x h1
            have := hS.all y h2
            omega
      subst e
      refine congrArg _ (asc_ext hS.tail hT.tail fun s => ?_)
      constructor
      · intro hs
        have := hS.all s hs
        rcases List.mem_cons.1 ((h s).1 (List.mem_cons_of_mem _ hs)) with e | h1
        · omega
        · exact h1
      · intro hs
        have := hT.all s hs
        rcases List.mem_cons.1 ((h s).2 (List.mem_cons_of_mem _ hs)) with e | h1
        · omega
        · exact h1
/-- What is left without some frames. -/
def drpS (F : List Int) (L : List SetR) : List SetR := L.filter fun x => !F.contains x.fr && !F.contains x.tg
/-- The sets that point into some frames from outside. -/
def inS (F : List Int) (x : SetR) : Bool := F.contains x.tg && !F.contains x.fr
/-- Their slots. -/
def intoS (F : List Int) (L : List SetR) : List Int := (L.filter (inS F)).foldl (fun a x => x.sl.foldl (fun a s => withL s a) a) []
theorem fold_with (S : List Int) : ∀ a : List Int, AscN a → AscN (S.foldl (fun a s => withL s a) a) ∧ (∀ y, y ∈ S.foldl (fun a s => withL s a) a ↔ y ∈ a ∨ y ∈ S) ∧ (S.foldl (fun a s => withL s a) a).length ≤ a.length + S.length := by
  induction S with
  | nil => intro a h; simp [h]
  | cons x S ih =>
    intro a h
    obtain ⟨h1, h2, h3⟩ := ih (withL x a) (withL_asc a h)
    refine ⟨h1, fun y => ?_, ?_⟩
    · rw [List.foldl_cons, h2, mem_withL, List.mem_cons]
      constructor
      · rintro ((h | h) | h) <;> simp [h]
      · rintro (h | h | h) <;> simp [h]
    · rw [List.foldl_cons]
      have := (withL_len x a).2
      simp
      omega
theorem drpS_sub (F : List Int) : ∀ {L : List SetR}, ValS L → ValS (drpS F L)
  | [], _ => ValS.nil
  | x :: L, h => by
    have ih := drpS_sub F (L := L) h.tail
    have e : drpS F (x :: L) = if (!F.contains x.fr && !F.contains x.tg) = true then x :: drpS F L else drpS F L := by
      unfold drpS
      rw [List.filter_cons]
    rw [e]
    by_cases hp : (!F.contains x.fr && !F.contains x.tg) = true
    · rw [if_pos hp]
      refine ⟨fun y hy => ?_, ascS_cons ih.2 fun y hy => h.2.all y (List.mem_filter.1 hy).1⟩
      rcases List.mem_cons.1 hy with rfl | hy
      · exact h.1 _ (by simp)
      · exact ih.1 y hy
    · rw [if_neg hp]
      exact ih
theorem intoS_facts (F : List Int) (L : List SetR) : AscN (intoS F L) ∧ (∀ y, y ∈ intoS F L ↔ ∃ x ∈ L, inS F x = true ∧ y ∈ x.sl) ∧ (intoS F L).length ≤ cntT (L.filter (inS F)) := by
  have key : ∀ (M : List SetR) (a : List Int), AscN a → AscN (M.foldl (fun a x => x.sl.foldl (fun a s => withL s a) a) a) ∧ (∀ y, y ∈ M.foldl (fun a x => x.sl.foldl (fun a s => withL s a) a) a ↔ y ∈ a ∨ ∃ x ∈ M, y ∈ x.sl) ∧
      (M.foldl (fun a x => x.sl.foldl (fun a s => withL s a) a) a).length ≤ a.length + cntT M := by
    intro M
    induction M with
    | nil => intro a h; simp [h, cntT]
    | cons x M ih =>
      intro a h
      obtain ⟨b1, b2, b3⟩ := fold_with x.sl a h
      obtain ⟨h1, h2, h3⟩ := ih _ b1
      refine ⟨h1, fun y => ?_, ?_⟩
      · rw [List.foldl_cons, h2, b2]
        simp only [List.mem_cons, exists_eq_or_imp]
        exact or_assoc
      · rw [List.foldl_cons]
        simp only [cntT, List.map_cons, List.sum_cons] at h3 ⊢
        omega
  obtain ⟨h1, h2, h3⟩ := key (L.filter (inS F)) [] trivial
  refine ⟨h1, fun y => ?_, by simpa [intoS] using h3⟩
  unfold intoS
  rw [h2]
  simp only [List.not_mem_nil, false_or, List.mem_filter]
  constructor
  · rintro ⟨x, ⟨a, b⟩, c⟩; exact ⟨x, a, b, c⟩
  · rintro ⟨x, a, b, c⟩; exact ⟨x, ⟨a, b⟩, c⟩
/-- What is left does not point into the frames any more. -/
theorem drp_in (F : List Int) (L : List SetR) : (drpS F L).filter (inS F) = [] := by
  unfold drpS
  rw [List.filter_filter, List.filter_eq_nil_iff]
  intro x _
  unfold inS
  cases F.contains x.tg <;> cases F.contains x.fr <;> simp
theorem cnt_parts (F : List Int) : ∀ L : List SetR, cntT (drpS F L) + cntT (L.filter (inS F)) ≤ cntT L
  | [] => by simp [cntT, drpS]
  | x :: L => by
    have ih := cnt_parts F L
    unfold drpS at ih ⊢
    rw [List.filter_cons, List.filter_cons]
    unfold inS at ih ⊢
    cases F.contains x.tg <;> cases F.contains x.fr <;> simp [cntT] at ih ⊢ <;> omega
end Go.Proofs.Ytjkbjbikofindaa
