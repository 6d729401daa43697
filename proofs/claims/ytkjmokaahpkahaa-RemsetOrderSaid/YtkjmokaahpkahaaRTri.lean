/-
  Rows of triples that a law draws; insertion in any order.
-/
import Derived.Test.YtkjmokaahpkahaaRWPa
namespace Go.Proofs.Ytkjmokaahpkahaa
open Go.RowKit
set_option maxRecDepth 100000
set_option linter.unusedVariables false

/-- Triples in a row of the call's own, each in a block of its own. -/
def POwn (w : World) (base : Nat) (v : Value) (P : List (Int × Int × Int)) : Prop :=
  ∃ vs, w.ownsRow base 23 1 v P.length vs ∧ ∀ (j : Nat) (x : Int × Int × Int), P[j]? = some x → ∃ b, vs[j]? = some (.slice (some ⟨b, 0, none⟩) 3 3) ∧ Blk w b 3 #[.int .i64 x.1, .int .i64 x.2.1, .int .i64 x.2.2]
section
variable {w w' : World} {base : Nat} {v : Value} {P : List (Int × Int × Int)}
theorem POwn.nil (w : World) (base : Nat) : POwn w base (.slice none 0 0) [] := ⟨[], World.ownsRow_nil _ _ _ _, fun j x h => by simp at h⟩
theorem POwn.below (h : POwn w base v P) (hb : Below w.heap.size w w') : POwn w' base v P := by
  obtain ⟨vs, h1, h2⟩ := h
  refine ⟨vs, ownsRow_keep h1 fun g _ _ hl => hb.block g hl, fun j x hj => ?_⟩
  obtain ⟨b, e, hB⟩ := h2 j x hj
  exact ⟨b, e, hB.next hb⟩
theorem POwn.turn {dk : Nat} (h : POwn w base v P) (hd : DeckP w dk) (hg : w.grownBy w' (some dk)) : POwn w' base v P := by
  obtain ⟨A, n, c, p, hb, _⟩ := hd
  obtain ⟨vs, h1, h2⟩ := h
  refine ⟨vs, ownsRow_keep h1 fun g hg1 _ hl => hg.block g hl (fun e => ?_), fun j x hj => ?_⟩
  · injection e with e
    subst e
    obtain ⟨cur, hh, _⟩ := row_t h1 hg1
    rw [show w.heap[g]? = _ from hb] at hh
    injection hh with hh
    injection hh with _ hh _
    exact absurd hh (by decide)
  · obtain ⟨b, e, hB⟩ := h2 j x hj
    refine ⟨b, e, hB.turn hg (fun e => ?_)⟩
    subst e
    have h3 := (show w.heap[b]? = _ from hB).symm.trans (show w.heap[b]? = _ from hb)
    injection h3 with h3
    injection h3 with _ h3 _
    exact absurd h3 (by decide)
theorem POwn.len (h : POwn w base v P) : ∃ A cap, v = .slice A P.length cap ∧ cap ≤ maxLen ∧ P.length ≤ cap := by
  obtain ⟨vs, ⟨hl, h1⟩, h2⟩ := h
  rcases h1 with ⟨rfl, hz⟩ | ⟨g, cap, cur, rfl, hb, hg, hc, hm, hs, htk⟩
  · exact ⟨none, 0, by rw [hz], by simp, by omega⟩
  · exact ⟨_, cap, rfl, hm, hc⟩
theorem POwn.at_ (h : POwn w base v P) {j : Nat} {x : Int × Int × Int} (hj : P[j]? = some x) :
    ∃ g cap b, v = .slice (some ⟨g, 0, none⟩) P.length cap ∧ g < w.heap.size ∧ w.cell? ⟨g, j, none⟩ = some (.slice (some ⟨b, 0, none⟩) 3 3) ∧ Blk w b 3 #[.int .i64 x.1, .int .i64 x.2.1, .int .i64 x.2.2] := by
  obtain ⟨vs, ⟨hl, h1⟩, h2⟩ := h
  have hjl := get_lt hj
  rcases h1 with ⟨rfl, hz⟩ | ⟨g, cap, cur, rfl, hb, hg, hc, hm, hs, htk⟩
  · omega
  · obtain ⟨b, e, hB⟩ := h2 j x hj
    rw [← htk, List.getElem?_take, if_pos (by omega)] at e
    exact ⟨g, cap, b, rfl, blk_lt hg, by rw [cell_row hg]; simpa using e, hB⟩
theorem POwn.push_ {w2 : World} {v2 : Value} {b n : Nat} {x : Int × Int × Int} {vs : List Value} (h1 : w.ownsRow base 23 1 v P.length vs)
    (h2 : ∀ (j : Nat) (x : Int × Int × Int), P[j]? = some x → ∃ b, vs[j]? = some (.slice (some ⟨b, 0, none⟩) 3 3) ∧ Blk w b 3 #[.int .i64 x.1, .int .i64 x.2.1, .int .i64 x.2.2])
    (hx : Blk w b 3 #[.int .i64 x.1, .int .i64 x.2.1, .int .i64 x.2.2]) (hown : w2.ownsRow base 23 1 v2 n (vs ++ [.slice (some ⟨b, 0, none⟩) 3 3])) (hn : n = P.length + 1) (hg : w.grownBy w2 v.ownBlock) : POwn w2 base v2 (P ++ [x]) := by
  have keep : ∀ (b : Nat) (cs : Array Value), Blk w b 3 cs → Blk w2 b 3 cs := fun b cs hB => (hg.block b hB.lt (fun e => by
    obtain ⟨cur, hh, _⟩ := row_t h1 e.symm
    rw [show w.heap[b]? = _ from hB] at hh
    injection hh with hh
    injection hh with _ hh _
    exact absurd hh (by decide))).trans hB
  have hvl := h1.1
  refine ⟨vs ++ [.slice (some ⟨b, 0, none⟩) 3 3], by rw [List.length_append]; subst hn; exact hown, fun j y hj => ?_⟩
  rcases Nat.lt_or_ge j P.length with hl | hl
  · rw [List.getElem?_append_left hl] at hj
    obtain ⟨b', e, hB⟩ := h2 j y hj
    exact ⟨b', by rw [List.getElem?_append_left (by omega)]; exact e, keep _ _ hB⟩
  · rw [List.getElem?_append_right hl] at hj
    have := get_lt hj
    simp at this
    have hjp : j = P.length := by omega
    subst hjp
    simp at hj
    subst hj
    exact ⟨b, by rw [List.getElem?_append_right (by omega), hvl, Nat.mul_one, Nat.sub_self]; rfl, keep _ _ hx⟩
end
/-- What is there already changes nothing. -/
theorem putS_same {f t s : Int} {L : List SetR} (hf : numP f) (ht : numP t) (hs : 0 ≤ s) (hv : ValS L) (h : HasS L f t s) : putS f t s L = L :=
  valS_ext (putS_ok hf ht hs hv) hv fun g u v => by
    rw [putS_has]
    constructor
    · rintro (⟨rfl, rfl, rfl⟩ | h')
      · exact h
      · exact h'
    · exact .inr
/-- The sets that the first t triples make. -/
def MadeS (P : List (Int × Int × Int)) (ix : Nat → Nat) (t : Nat) (L : List SetR) : Prop := ValS L ∧ L.length ≤ t ∧ cntT L ≤ t ∧ ∀ f g s, HasS L f g s ↔ ∃ i, i < t ∧ P[ix i]? = some (f, g, s)
theorem MadeS.nil (P : List (Int × Int × Int)) (ix : Nat → Nat) : MadeS P ix 0 [] := ⟨ValS.nil, by simp, by simp [cntT], fun f g s => ⟨fun ⟨x, hx, _⟩ => by simp at hx, fun ⟨i, hi, _⟩ => by omega⟩⟩
theorem MadeS.next {P : List (Int × Int × Int)} {ix : Nat → Nat} {t : Nat} {L : List SetR} {x : Int × Int × Int} (h : MadeS P ix t L) (hx : P[ix t]? = some x) (hf : numP x.1) (hg : numP x.2.1) (hs : 0 ≤ x.2.2) : MadeS P ix (t + 1) (putS x.1 x.2.1 x.2.2 L) := by
  obtain ⟨h1, h2, h3, h4⟩ := h
  refine ⟨putS_ok hf hg hs h1, by have := putS_len x.1 x.2.1 x.2.2 L; omega, by have := putS_cnt x.1 x.2.1 x.2.2 L; omega, fun f g s => ?_⟩
  rw [putS_has, h4]
  constructor
  · rintro (⟨rfl, rfl, rfl⟩ | ⟨i, hi, e⟩)
    · exact ⟨t, by omega, hx⟩
    · exact ⟨i, by omega, e⟩
  · rintro ⟨i, hi, e⟩
    rcases (by omega : i < t ∨ i = t) with h | h
    · exact .inr ⟨i, h, e⟩
    · subst h
      rw [hx] at e
      injection e with e
      subst e
      exact .inl ⟨rfl, rfl, rfl⟩
/-- All of them, in whatever order. -/
theorem made_same {P : List (Int × Int × Int)} {ix iy : Nat → Nat} {L M : List SetR} {n : Nat} (hn : n = P.length) (hL : MadeS P ix n L) (hM : MadeS P iy n M) (h1 : ∀ j, j < n → ∃ i, i < n ∧ ix i = j) (h2 : ∀ j, j < n → ∃ i, i < n ∧ iy i = j) : L = M := by
  subst hn
  refine valS_ext hL.1 hM.1 fun f g s => ?_
  rw [hL.2.2.2, hM.2.2.2]
  constructor
  · rintro ⟨i, hi, e⟩
    obtain ⟨k, hk, ek⟩ := h2 (ix i) (get_lt e)
    exact ⟨k, hk, by rw [ek]; exact e⟩
  · rintro ⟨i, hi, e⟩
    obtain ⟨k, hk, ek⟩ := h1 (iy i) (get_lt e)
    exact ⟨k, hk, by rw [ek]; exact e⟩
theorem rot_all {n m : Nat} : ∀ j, j < n → ∃ i, i < n ∧ (i + m % n) % n = j := by
  intro j hj
  have hm := Nat.mod_lt m (show 0 < n by omega)
  obtain ⟨k, hk⟩ : ∃ k, k = m % n := ⟨_, rfl⟩
  rw [← hk] at hm ⊢
  rcases Nat.lt_or_ge j k with h | h
  · refine ⟨j + n - k, by omega, ?_⟩
    rw [show j + n - k + k = j + n by omega, Nat.add_mod_right, Nat.mod_eq_of_lt hj]
  · exact ⟨j - k, by omega, by rw [show j - k + k = j by omega, Nat.mod_eq_of_lt hj]⟩
theorem rev_all {n : Nat} : ∀ j, j < n → ∃ i, i < n ∧ n - 1 - i = j := fun j hj => ⟨n - 1 - j, by omega, by omega⟩
end Go.Proofs.Ytkjmokaahpkahaa
