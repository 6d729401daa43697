/-
  Words for memory of layer 2: a slice of words that reads as a function of the place; a row of the call's own.
-/
import Derived.Test.YthecjlglcnpniaaRows
import Derived.WalkKit
import Derived.Lib.Hide
import Derived.Laws.CopyOwn
namespace Go.Proofs.Ythecjlglcnpniaa
open Go.RowKit

/-- The n words of the slice at A (capacity c) are f 0, f 1, ..; the block that holds them lies below B. -/
def Arr (w : World) (B : Nat) (A : Option Addr) (n c : Nat) (f : Nat → Int) : Prop :=
  n ≤ c ∧ c ≤ maxLen ∧ (A = none → c = 0) ∧
    (0 < n → ∃ b o, A = some ⟨b, o, none⟩ ∧ b < B ∧ ∀ j, j < n → w.cell? ⟨b, o + j, none⟩ = some (.int .u64 (f j)))

/-- The same for a row that the call itself made (blocks from base on): it may be written. -/
def Own (w : World) (base : Nat) (A : Option Addr) (n c : Nat) (f : Nat → Int) : Prop :=
  n ≤ c ∧ c ≤ maxLen ∧
    ((A = none ∧ c = 0) ∨
      ∃ g cur, A = some ⟨g, 0, none⟩ ∧ base ≤ g ∧ w.heap[g]? = some (.cells cur 23 (0, 0)) ∧ cur.size = c ∧ ∀ j, j < n → cur[j]? = some (.int .u64 (f j)))

theorem blk_lt {w : World} {g : Nat} {o : Obj} (h : w.heap[g]? = some o) : g < w.heap.size := by
  rcases Nat.lt_or_ge g w.heap.size with hl | hg
  · exact hl
  · rw [Array.getElem?_eq_none hg] at h
    cases h

theorem cell_lt {w : World} {b o : Nat} {u : Value} (h : w.cell? ⟨b, o, none⟩ = some u) : b < w.heap.size := by
  rcases Nat.lt_or_ge b w.heap.size with hl | hg
  · exact hl
  · simp [World.cell?, Array.getElem?_eq_none hg] at h

theorem cell_row {w : World} {g i : Nat} {cur : Array Value} {t : TypeId} {z : Nat × Nat} (h : w.heap[g]? = some (.cells cur t z)) : w.cell? ⟨g, i, none⟩ = cur[i]? := by
  simp [World.cell?, h]

theorem free_row {w : World} {g i : Nat} {cur : Array Value} {t : TypeId} (h : w.heap[g]? = some (.cells cur t (0, 0))) : w.frozen? ⟨g, i, none⟩ = false := by
  simp [World.frozen?, h]

section
variable {w w' : World} {B base n c : Nat} {A : Option Addr} {f f' : Nat → Int}

theorem Arr.le (h : Arr w B A n c f) : n ≤ c := h.1
theorem Arr.at_ (h : Arr w B A n c f) (k : Nat) (hk : k < n) : ∃ b o, A = some ⟨b, o, none⟩ ∧ b < B ∧ w.cell? ⟨b, o + k, none⟩ = some (.int .u64 (f k)) := by
  obtain ⟨b, o, hA, hb, hc⟩ := h.2.2.2 (by omega)
  exact ⟨b, o, hA, hb, hc k hk⟩
theorem Arr.keep (h : Arr w B A n c f) (hk : ∀ b o, b < B → w'.cell? ⟨b, o, none⟩ = w.cell? ⟨b, o, none⟩) : Arr w' B A n c f := by
  refine ⟨h.1, h.2.1, h.2.2.1, fun hn => ?_⟩
  obtain ⟨b, o, hA, hb, hc⟩ := h.2.2.2 hn
  exact ⟨b, o, hA, hb, fun j hj => (hk _ _ hb).trans (hc j hj)⟩
theorem Arr.below (h : Arr w B A n c f) (hb : Below B w w') : Arr w' B A n c f := h.keep fun _ _ hp => hb.cell hp
theorem Arr.more {B' : Nat} (h : Arr w B A n c f) (hB : B ≤ B') : Arr w B' A n c f := by
  refine ⟨h.1, h.2.1, h.2.2.1, fun hn => ?_⟩
  obtain ⟨b, o, hA, hb, hc⟩ := h.2.2.2 hn
  exact ⟨b, o, hA, by omega, hc⟩
theorem Arr.congr (h : Arr w B A n c f) (e : ∀ j, j < n → f j = f' j) : Arr w B A n c f' := by
  refine ⟨h.1, h.2.1, h.2.2.1, fun hn => ?_⟩
  obtain ⟨b, o, hA, hb, hc⟩ := h.2.2.2 hn
  exact ⟨b, o, hA, hb, fun j hj => by rw [← e j hj]; exact hc j hj⟩
theorem Arr.nil (w : World) (B : Nat) (f : Nat → Int) : Arr w B none 0 0 f := ⟨by simp, by simp, fun _ => rfl, fun h => absurd h (by omega)⟩

theorem Own.arr (h : Own w base A n c f) : Arr w w.heap.size A n c f := by
  obtain ⟨h1, h2, h3⟩ := h
  rcases h3 with ⟨rfl, rfl⟩ | ⟨g, cur, rfl, _, hg, _, hc⟩
  · exact ⟨h1, h2, fun _ => rfl, fun hn => by omega⟩
  · refine ⟨h1, h2, (fun e => by cases e), fun _ => ⟨g, 0, rfl, blk_lt hg, fun j hj => ?_⟩⟩
    rw [cell_row hg, Nat.zero_add]
    exact hc j hj
theorem Own.nil_ (w : World) (base : Nat) (f : Nat → Int) : Own w base none 0 0 f := ⟨by simp, by simp, .inl ⟨rfl, rfl⟩⟩
theorem Own.le (h : Own w base A n c f) : n ≤ c := h.1
theorem Own.congr (h : Own w base A n c f) (e : ∀ j, j < n → f j = f' j) : Own w base A n c f' := by
  obtain ⟨h1, h2, h3⟩ := h
  refine ⟨h1, h2, ?_⟩
  rcases h3 with h3 | ⟨g, cur, hA, hb, hg, hs, hc⟩
  · exact .inl h3
  · exact .inr ⟨g, cur, hA, hb, hg, hs, fun j hj => by rw [← e j hj]; exact hc j hj⟩
theorem Own.keep (h : Own w base A n c f) (hk : ∀ g, base ≤ g → g < w.heap.size → w'.heap[g]? = w.heap[g]?) : Own w' base A n c f := by
  obtain ⟨h1, h2, h3⟩ := h
  refine ⟨h1, h2, ?_⟩
  rcases h3 with h3 | ⟨g, cur, hA, hb, hg, hs, hc⟩
  · exact .inl h3
  · exact .inr ⟨g, cur, hA, hb, (hk g hb (blk_lt hg)).trans hg, hs, hc⟩
theorem Own.below (h : Own w base A n c f) (hb : Below w.heap.size w w') : Own w' base A n c f := h.keep fun g _ hg => hb.block g hg
theorem Own.far (h : Own w base A n c f) {p : Addr} (hp : p.block < base) (u : Value) : Own (w.setCell p u) base A n c f :=
  h.keep fun g hb _ => Below.heap_setCell w p u g (by omega)
theorem Own.lower {base' : Nat} (h : Own w base A n c f) (hb : base' ≤ base) : Own w base' A n c f := by
  obtain ⟨h1, h2, h3⟩ := h
  refine ⟨h1, h2, ?_⟩
  rcases h3 with h3 | ⟨g, cur, hA, hg, hh⟩
  · exact .inl h3
  · exact .inr ⟨g, cur, hA, by omega, hh⟩
/-- A place of an own row: its cell, that it is free, and what a store there makes of the row. -/
theorem Own.spot (h : Own w base A n c f) (i : Nat) (hi : i < n) (v : Int) :
    ∃ g, A = some ⟨g, 0, none⟩ ∧ base ≤ g ∧ g < w.heap.size ∧ w.cell? ⟨g, i, none⟩ = some (.int .u64 (f i)) ∧ w.frozen? ⟨g, i, none⟩ = false ∧
      Own (w.setCell ⟨g, i, none⟩ (.int .u64 v)) base A n c (fun j => if j = i then v else f j) := by
  obtain ⟨h1, h2, h3⟩ := h
  rcases h3 with ⟨rfl, rfl⟩ | ⟨g, cur, rfl, hb, hg, hs, hc⟩
  · omega
  · refine ⟨g, rfl, hb, blk_lt hg, (cell_row hg).trans (hc i hi), free_row hg, h1, h2, .inr ⟨g, cur.setIfInBounds i (.int .u64 v), rfl, hb, ?_, by simpa using hs, fun j hj => ?_⟩⟩
    · simp [World.setCell, Array.getElem?_modify, hg]
    · rw [Array.getElem?_setIfInBounds]
      by_cases e : i = j
      · subst e
        rw [if_pos rfl, if_pos (by omega)]
        simp
      · rw [if_neg e, hc j hj]
        show some (Value.int .u64 (f j)) = some (.int .u64 (if j = i then v else f j))
        rw [if_neg (fun x => e x.symm)]
/-- What append and make leave, as an own row. -/
theorem own_of_row {base : Nat} {v : Value} {n : Nat} {xs : List Value} (h : w.ownsRow base 23 1 v n xs) (hx : ∀ j, j < n → xs[j]? = some (.int .u64 (f j))) :
    ∃ A c, v = .slice A n c ∧ Own w base A n c f := by
  obtain ⟨hl, h⟩ := h
  rcases h with ⟨rfl, rfl⟩ | ⟨g, cap, cur, rfl, hb, hg, hn, hm, hs, ht⟩
  · exact ⟨none, 0, rfl, by omega, by simp, .inl ⟨rfl, rfl⟩⟩
  · refine ⟨some ⟨g, 0, none⟩, cap, rfl, hn, hm, .inr ⟨g, cur, rfl, hb, hg, by omega, fun j hj => ?_⟩⟩
    have h0 := hx j hj
    rw [← ht, List.getElem?_take] at h0
    rw [if_pos (by omega)] at h0
    simpa using h0
end

theorem add_at (b o i : Nat) : (⟨b, o, none⟩ : Addr).add i = ⟨b, o + i, none⟩ := by
  unfold Addr.add
  by_cases h : i = 0 <;> simp [h]

def wordsOf (n : Nat) (f : Nat → Int) : List Value := (List.range n).map fun j => .int .u64 (f j)
theorem wordsOf_length (n : Nat) (f : Nat → Int) : (wordsOf n f).length = n := by simp [wordsOf]
theorem wordsOf_get (n : Nat) (f : Nat → Int) (j : Nat) (h : j < n) : (wordsOf n f)[j]? = some (.int .u64 (f j)) := by simp [wordsOf, h]
theorem wordsOf_get' {n : Nat} {f : Nat → Int} {j : Nat} {u : Value} (h : (wordsOf n f)[j]? = some u) : j < n ∧ u = .int .u64 (f j) := by
  rcases Nat.lt_or_ge j n with hl | hg
  · rw [wordsOf_get n f j hl] at h
    exact ⟨hl, by injection h with h; exact h.symm⟩
  · rw [List.getElem?_eq_none (by rw [wordsOf_length]; exact hg)] at h
    cases h
theorem wordsOf_one (n : Nat) (f : Nat → Int) : ∀ u ∈ wordsOf n f, u.oneCell' = true := by
  intro u hu
  simp only [wordsOf, List.mem_map] at hu
  obtain ⟨j, _, rfl⟩ := hu
  rfl

theorem word_info : (Try.prog.info? 23).map (fun i => (i.zero, i.size, i.bytes)) = some (some (.int .u64 0), 1, 8) := by kernel_rfl
end Go.Proofs.Ythecjlglcnpniaa
