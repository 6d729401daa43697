/-
  Words for rows of increments and for belts (rows of such rows): what may only be read, and what the call itself has made.
-/
import Derived.Test.YtmhbbjbbckdlbaaDoorMSpace
namespace Go.Proofs.YtmhbbjbbckdlbaaDoor
open Go.RowKit
set_option maxRecDepth 100000
set_option linter.unusedVariables false

theorem get_lt {α : Type} {l : List α} {j : Nat} {x : α} (h : l[j]? = some x) : j < l.length := (List.getElem?_eq_some_iff.1 h).1

/-- The slice at A (capacity c) holds the increments I, in a block of which P is true. -/
def LArr (w : World) (P : Nat → Prop) (A : Option Addr) (c : Nat) (I : List IncR) : Prop :=
  I.length ≤ c ∧ c ≤ maxLen ∧ (A = none → c = 0) ∧
    (0 < I.length → ∃ b o, A = some ⟨b, o, none⟩ ∧ P b ∧ ∀ (j : Nat) (i : IncR), I[j]? = some i → w.cell? ⟨b, o + j * 5, none⟩ = some (.int .i64 i.sq) ∧ w.cell? ⟨b, o + j * 5 + 1, none⟩ = some (.int .i64 i.bt) ∧
      w.cell? ⟨b, o + j * 5 + 2, none⟩ = some (.int .i64 i.fi) ∧ w.cell? ⟨b, o + j * 5 + 3, none⟩ = some (.int .i64 i.la) ∧ w.cell? ⟨b, o + j * 5 + 4, none⟩ = some (.int .i64 i.wo))

/-- The slice at A (capacity c) holds the belts Q, in blocks of which P is true. -/
def QArr (w : World) (P : Nat → Prop) (A : Option Addr) (c : Nat) (Q : List (List IncR)) : Prop :=
  Q.length ≤ c ∧ c ≤ maxLen ∧ (A = none → c = 0) ∧
    (0 < Q.length → ∃ b o, A = some ⟨b, o, none⟩ ∧ P b ∧ ∀ (j : Nat) (q : List IncR), Q[j]? = some q → ∃ A' c', w.cell? ⟨b, o + j, none⟩ = some (.slice A' q.length c') ∧ LArr w P A' c' q)

def Lt (B : Nat) : Nat → Prop := fun b => b < B
def Rng (lo hi : Nat) : Nat → Prop := fun b => lo ≤ b ∧ b < hi

section
variable {w w' : World} {P P' : Nat → Prop} {A : Option Addr} {c : Nat} {I : List IncR} {Q : List (List IncR)}
theorem LArr.at_ (h : LArr w P A c I) {j : Nat} {i : IncR} (hj : I[j]? = some i) : ∃ b o, A = some ⟨b, o, none⟩ ∧ P b ∧ b < w.heap.size ∧ w.cell? ⟨b, o + j * 5, none⟩ = some (.int .i64 i.sq) ∧ w.cell? ⟨b, o + j * 5 + 1, none⟩ = some (.int .i64 i.bt) ∧
      w.cell? ⟨b, o + j * 5 + 2, none⟩ = some (.int .i64 i.fi) ∧ w.cell? ⟨b, o + j * 5 + 3, none⟩ = some (.int .i64 i.la) ∧ w.cell? ⟨b, o + j * 5 + 4, none⟩ = some (.int .i64 i.wo) := by
  obtain ⟨b, o, hA, hb, hc⟩ := h.2.2.2 (by have := get_lt hj; omega)
  exact ⟨b, o, hA, hb, cell_lt (hc j i hj).1, hc j i hj⟩
theorem QArr.at_ (h : QArr w P A c Q) {j : Nat} {q : List IncR} (hj : Q[j]? = some q) : ∃ b o A' c', A = some ⟨b, o, none⟩ ∧ P b ∧ b < w.heap.size ∧ w.cell? ⟨b, o + j, none⟩ = some (.slice A' q.length c') ∧ LArr w P A' c' q := by
  obtain ⟨b, o, hA, hb, hc⟩ := h.2.2.2 (by have := get_lt hj; omega)
  obtain ⟨A', c', h1, h2⟩ := hc j q hj
  exact ⟨b, o, A', c', hA, hb, cell_lt h1, h1, h2⟩
theorem LArr.keep (h : LArr w P A c I) (hk : ∀ b o, P b → w'.cell? ⟨b, o, none⟩ = w.cell? ⟨b, o, none⟩) : LArr w' P A c I := by
  refine ⟨h.1, h.2.1, h.2.2.1, fun hn => ?_⟩
  obtain ⟨b, o, hA, hb, hc⟩ := h.2.2.2 hn
  exact ⟨b, o, hA, hb, fun j i hj => ⟨(hk _ _ hb).trans (hc j i hj).1, (hk _ _ hb).trans (hc j i hj).2.1, (hk _ _ hb).trans (hc j i hj).2.2.1, (hk _ _ hb).trans (hc j i hj).2.2.2.1, (hk _ _ hb).trans (hc j i hj).2.2.2.2⟩⟩
theorem LArr.mono (h : LArr w P A c I) (hp : ∀ b, P b → P' b) : LArr w P' A c I := by
  refine ⟨h.1, h.2.1, h.2.2.1, fun hn => ?_⟩
  obtain ⟨b, o, hA, hb, hc⟩ := h.2.2.2 hn
  exact ⟨b, o, hA, hp b hb, hc⟩
theorem LArr.nil (w : World) (P : Nat → Prop) : LArr w P none 0 [] := ⟨by simp, by simp, fun _ => rfl, fun h => absurd h (by simp)⟩
theorem QArr.keep (h : QArr w P A c Q) (hk : ∀ b o, P b → w'.cell? ⟨b, o, none⟩ = w.cell? ⟨b, o, none⟩) : QArr w' P A c Q := by
  refine ⟨h.1, h.2.1, h.2.2.1, fun hn => ?_⟩
  obtain ⟨b, o, hA, hb, hc⟩ := h.2.2.2 hn
  refine ⟨b, o, hA, hb, fun j q hj => ?_⟩
  obtain ⟨A', c', h1, h2⟩ := hc j q hj
  exact ⟨A', c', (hk _ _ hb).trans h1, h2.keep hk⟩
theorem QArr.mono (h : QArr w P A c Q) (hp : ∀ b, P b → P' b) : QArr w P' A c Q := by
  refine ⟨h.1, h.2.1, h.2.2.1, fun hn => ?_⟩
  obtain ⟨b, o, hA, hb, hc⟩ := h.2.2.2 hn
  refine ⟨b, o, hA, hp b hb, fun j q hj => ?_⟩
  obtain ⟨A', c', h1, h2⟩ := hc j q hj
  exact ⟨A', c', h1, h2.mono hp⟩
theorem QArr.nil (w : World) (P : Nat → Prop) : QArr w P none 0 [] := ⟨by simp, by simp, fun _ => rfl, fun h => absurd h (by simp)⟩
theorem LArr.below {B : Nat} (h : LArr w (Lt B) A c I) (hb : Below B w w') : LArr w' (Lt B) A c I := h.keep fun b o hp => hb.cell hp
theorem QArr.below {B : Nat} (h : QArr w (Lt B) A c Q) (hb : Below B w w') : QArr w' (Lt B) A c Q := h.keep fun b o hp => hb.cell hp
theorem LArr.next (h : LArr w (Lt w.heap.size) A c I) (hb : Below w.heap.size w w') : LArr w' (Lt w'.heap.size) A c I := (h.below hb).mono fun b hp => Nat.lt_of_lt_of_le hp hb.size
theorem QArr.next (h : QArr w (Lt w.heap.size) A c Q) (hb : Below w.heap.size w w') : QArr w' (Lt w'.heap.size) A c Q := (h.below hb).mono fun b hp => Nat.lt_of_lt_of_le hp hb.size
theorem QArr.rng {lo hi : Nat} (h : QArr w (Rng lo hi) A c Q) (hb : ∀ b o, lo ≤ b → b < hi → w'.cell? ⟨b, o, none⟩ = w.cell? ⟨b, o, none⟩) : QArr w' (Rng lo hi) A c Q := h.keep fun b o hp => hb b o hp.1 hp.2
/-- What may be read of a row is in blocks that are there. -/
theorem LArr.lt (h : LArr w P A c I) : LArr w (Lt w.heap.size) A c I := by
  refine ⟨h.1, h.2.1, h.2.2.1, fun hn => ?_⟩
  obtain ⟨b, o, hA, hb, hc⟩ := h.2.2.2 hn
  refine ⟨b, o, hA, ?_, hc⟩
  obtain ⟨i, hi⟩ : ∃ i, I[0]? = some i := ⟨I[0], List.getElem?_eq_getElem hn⟩
  exact cell_lt (hc 0 i hi).1
theorem QArr.lt (h : QArr w P A c Q) : QArr w (Lt w.heap.size) A c Q := by
  refine ⟨h.1, h.2.1, h.2.2.1, fun hn => ?_⟩
  obtain ⟨b, o, hA, hb, hc⟩ := h.2.2.2 hn
  obtain ⟨i, hi⟩ : ∃ i, Q[0]? = some i := ⟨Q[0], List.getElem?_eq_getElem hn⟩
  obtain ⟨_, _, h0, _⟩ := hc 0 i hi
  refine ⟨b, o, hA, cell_lt h0, fun j q hj => ?_⟩
  obtain ⟨A', c', h1, h2⟩ := hc j q hj
  exact ⟨A', c', h1, h2.lt⟩
theorem QArr.grow (h : QArr w P A c Q) (hb : Below w.heap.size w w') : QArr w' (Lt w'.heap.size) A c Q := h.lt.next hb
theorem QArr.take (h : QArr w P A c Q) (k : Nat) : QArr w P A c (Q.take k) := by
  refine ⟨Nat.le_trans (by simp; omega) h.1, h.2.1, h.2.2.1, fun hn => ?_⟩
  obtain ⟨b, o, hA, hb, hc⟩ := h.2.2.2 (by simp at hn; omega)
  refine ⟨b, o, hA, hb, fun j q hj => hc j q ?_⟩
  rw [List.getElem?_take] at hj
  split at hj
  · exact hj
  · cases hj
end

theorem incCells_length : ∀ I : List IncR, (incCells I).length = I.length * 5
  | [] => rfl
  | i :: I => by
    have := incCells_length I
    simp only [incCells, List.flatMap_cons, List.length_append, List.length_cons, List.length_nil] at this ⊢
    omega
theorem incCells_one (I : List IncR) : ∀ u ∈ incCells I, u.oneCell' = true := by
  intro u hu
  simp only [incCells, List.mem_flatMap] at hu
  obtain ⟨i, _, hu⟩ := hu
  simp at hu
  rcases hu with rfl | rfl | rfl | rfl | rfl <;> rfl
theorem incCells_append (I J : List IncR) : incCells (I ++ J) = incCells I ++ incCells J := by simp [incCells]

/-- A row of increments of the call's own, as one that may be read. -/
theorem larr_of {w : World} {B : Nat} {v : Value} {I : List IncR} (h : w.ownsRow B 38 5 v I.length (incCells I)) : ∃ A c, v = .slice A I.length c ∧ LArr w (Rng B w.heap.size) A c I := by
  have h0 := h
  obtain ⟨hl, h⟩ := h
  rcases h with ⟨rfl, hz⟩ | ⟨g, cap, cur, rfl, hb, hg, hc, hm, hs, htk⟩
  · have hz2 : I = [] := List.length_eq_zero_iff.1 hz
    subst hz2
    exact ⟨none, 0, rfl, LArr.nil _ _⟩
  · refine ⟨_, _, rfl, hc, hm, (fun e => by cases e), fun _ => ⟨g, 0, rfl, ⟨hb, blk_lt hg⟩, fun j i hj => ?_⟩⟩
    obtain ⟨g', cap', e, _, _, _, c0, c1, c2, c3, c4⟩ := lrow_cells (ib := w.heap.size) ⟨h0, fun x hx => by simp [Value.ownBlock] at hx; subst hx; exact blk_lt hg⟩ hj
    injection e with e1 _ _
    injection e1 with e1
    injection e1 with e1 _
    subst e1
    rw [Nat.zero_add]
    exact ⟨c0, c1, c2, c3, c4⟩
/-- The cells of a row, as a source of append. -/
theorem LArr.cells {w : World} {P : Nat → Prop} {b o c : Nat} {I : List IncR} (h : LArr w P (some ⟨b, o, none⟩) c I) : ∀ (j : Nat) (u : Value), (incCells I)[j]? = some u → w.cell? ((⟨b, o, none⟩ : Addr).add j) = some u := by
  intro j u hu
  have hj := get_lt hu
  rw [incCells_length] at hj
  obtain ⟨i, hi⟩ : ∃ i, I[j / 5]? = some i := ⟨I[j / 5]'(by omega), List.getElem?_eq_getElem (by omega)⟩
  obtain ⟨b', o', e, _, _, c0, c1, c2, c3, c4⟩ := h.at_ hi
  injection e with e
  injection e with e1 e2
  subst e1 e2
  obtain ⟨d0, d1, d2, d3, d4⟩ := incCells_get I _ i hi
  rw [add_at]
  rcases (by omega : j = j / 5 * 5 ∨ j = j / 5 * 5 + 1 ∨ j = j / 5 * 5 + 2 ∨ j = j / 5 * 5 + 3 ∨ j = j / 5 * 5 + 4) with e | e | e | e | e
  · rw [e] at hu ⊢
    rw [c0, ← hu]; exact d0.symm
  · rw [e] at hu ⊢
    rw [← Nat.add_assoc, c1, ← hu]; exact d1.symm
  · rw [e] at hu ⊢
    rw [← Nat.add_assoc, c2, ← hu]; exact d2.symm
  · rw [e] at hu ⊢
    rw [← Nat.add_assoc, c3, ← hu]; exact d3.symm
  · rw [e] at hu ⊢
    rw [← Nat.add_assoc, c4, ← hu]; exact d4.symm

/-- Belts of the call's own: the outer row may be written. -/
def QOwn (w : World) (base : Nat) (v : Value) (Q : List (List IncR)) (P : Nat → Prop) : Prop :=
  ∃ xs : List Value, w.ownsRow base 39 1 v Q.length xs ∧ ∀ (j : Nat) (q : List IncR), Q[j]? = some q → ∃ A' c', xs[j]? = some (.slice A' q.length c') ∧ LArr w P A' c' q
theorem qarr_of {w : World} {B : Nat} {v : Value} {Q : List (List IncR)} {P P' : Nat → Prop} (h : QOwn w B v Q P) (hp : ∀ b, P b → P' b) (hr : ∀ b, B ≤ b → b < w.heap.size → P' b) : ∃ A c, v = .slice A Q.length c ∧ QArr w P' A c Q := by
  obtain ⟨xs, ⟨hl, h⟩, hx⟩ := h
  rcases h with ⟨rfl, hz⟩ | ⟨g, cap, cur, rfl, hb, hg, hc, hm, hs, htk⟩
  · have hz2 : Q = [] := List.length_eq_zero_iff.1 hz
    subst hz2
    exact ⟨none, 0, rfl, QArr.nil _ _⟩
  · refine ⟨_, _, rfl, hc, hm, (fun e => by cases e), fun _ => ⟨g, 0, rfl, hr g hb (blk_lt hg), fun j q hj => ?_⟩⟩
    obtain ⟨A', c', h1, h2⟩ := hx j q hj
    refine ⟨A', c', ?_, h2.mono hp⟩
    have := get_lt hj
    rw [← htk, List.getElem?_take, if_pos (by omega)] at h1
    rw [cell_row hg, Nat.zero_add]
    simpa using h1
end Go.Proofs.YtmhbbjbbckdlbaaDoor
