/-
  Words for memory of layer 2: a slice of words that reads as a function of the place; a row of the call's own.
-/
import Derived.Test.YtpbcpobbjoopnaaRows
import Derived.Test.YtpbcpobbjoopnaaPure
import Derived.WalkKit
import Derived.Lib.Hide
import Derived.Laws.CopyOwn
namespace Go.Proofs.Ytpbcpobbjoopnaa
open Go.RowKit

/-- The n words of the slice at A (capacity c) are f 0, f 1, ..; the block that holds them lies below B. -/
def Arr (w : World) (B : Nat) (A : Option Addr) (n c : Nat) (f : Nat → Int) : Prop :=
  n ≤ c ∧ c ≤ maxLen ∧ (A = none → c = 0) ∧
    (0 < n → ∃ b o, A = some ⟨b, o, none⟩ ∧ b < B ∧ ∀ j, j < n → w.cell? ⟨b, o + j, none⟩ = some (.int .u64 (f j)))

/-- The same for a row that the call itself made (blocks from base on): it may be written. -/
def Own (w : World) (base : Nat) (A : Option Addr) (n c : Nat) (f : Nat → Int) : Prop :=
  n ≤ c ∧ c ≤ maxLen ∧
    ((A = none ∧ c = 0) ∨
      ∃ g cur, A = some ⟨g, 0, none⟩ ∧ base ≤ g ∧ w.heap[g]? = some (.cells cur 67 (0, 0)) ∧ cur.size = c ∧ ∀ j, j < n → cur[j]? = some (.int .u64 (f j)))

theorem blk_lt {w : World} {g : Nat} {o : Obj} (h : w.heap[g]? = some o) : g < w.heap.size := by
  rcases Nat.lt_or_ge g w.heap.size with hl | hg
  · exact hl
  · rw [Array.getElem?_eq_none hg] at h
    cases h

theorem cell_lt {w : World} {b o : Nat} {u : Value} (h : w.cell? ⟨b, o, none⟩ = some u) : b < w.heap.size := by
  rcases Nat.lt_or_ge b w.heap.size with hl | hg
  · exact hl
  · simp [World.cell?, Array.getElem?_eq_none hg] at h

theorem cell_row {w : World} {g i : Nat} {cur : Array Value} {t : TypeId} {z : Nat × Nat} (h : w.heap[g]? = some (.cells cur t z)) : w.cell? ⟨g, i, none⟩ = cur[i]? := by
  simp [World.cell?, h]

theorem free_row {w : World} {g i : Nat} {cur : Array Value} {t : TypeId} (h : w.heap[g]? = some (.cells cur t (0, 0))) : w.frozen? ⟨g, i, none⟩ = false := by
  simp [World.frozen?, h]

section
variable {w w' : World} {B base n c : Nat} {A : Option Addr} {f f' : Nat → Int}

theorem Arr.le (h : Arr w B A n c f) : n ≤ c := h.1
theorem Arr.at_ (h : Arr w B A n c f) (k : Nat) (hk : k < n) : ∃ b o, A = some ⟨b, o, none⟩ ∧ b < B ∧ w.cell? ⟨b, o + k, none⟩ = some (.int .u64 (f k)) := by
  obtain ⟨b, o, hA, hb, hc⟩ := h.2.2.2 (by omega)
  exact ⟨b, o, hA, hb, hc k hk⟩
theorem Arr.keep (h : Arr w B A n c f) (hk : ∀ b o, b < B → w'.cell? ⟨b, o, none⟩ = w.cell? ⟨b, o, none⟩) : Arr w' B A n c f := by
  refine ⟨h.1, h.2.1, h.2.2.1, fun hn => ?_⟩
  obtain ⟨b, o, hA, hb, hc⟩ := h.2.2.2 hn
  exact ⟨b, o, hA, hb, fun j hj => (hk _ _ hb).trans (hc j hj)⟩
theorem Arr.below (h : Arr w B A n c f) (hb : Below B w w') : Arr w' B A n c f := h.keep fun _ _ hp => hb.cell hp
theorem Arr.more {B' : Nat} (h : Arr w B A n c f) (hB : B ≤ B') : Arr w B' A n c f := by
  refine ⟨h.1, h.2.1, h.2.2.1, fun hn => ?_⟩
  obtain ⟨b, o, hA, hb, hc⟩ := h.2.2.2 hn
  exact ⟨b, o, hA, by omega, hc⟩
theorem Arr.congr (h : Arr w B A n c f) (e : ∀ j, j < n → f j = f' j) : Arr w B A n c f' := by
  refine ⟨h.1, h.2.1, h.2.2.1, fun hn => ?_⟩
  obtain ⟨b, o, hA, hb, hc⟩ := h.2.2.2 hn
  exact ⟨b, o, hA, hb, fun j hj => by rw [← e j hj]; exact hc j hj⟩
theorem Arr.nil (w : World) (B : Nat) (f : Nat → Int) : Arr w B none 0 0 f := ⟨by simp, by simp, fun _ => rfl, fun h => absurd h (by omega)⟩

theorem Own.arr (h : Own w base A n c f) : Arr w w.heap.size A n c f := by
  obtain ⟨h1, h2, h3⟩ := h
  rcases h3 with ⟨rfl, rfl⟩ | ⟨g, cur, rfl, _, hg, _, hc⟩
  · exact ⟨h1, h2, fun _ => rfl, fun hn => by omega⟩
  · refine ⟨h1, h2, (fun e => by cases e), fun _ => ⟨g, 0, rfl, blk_lt hg, fun j hj => ?_⟩⟩
    rw [cell_row hg, Nat.zero_add]
    exact hc j hj
theorem Own.nil_ (w : World) (base : Nat) (f : Nat → Int) : Own w base none 0 0 f := ⟨by simp, by simp, .inl ⟨rfl, rfl⟩⟩
theorem Own.le (h : Own w base A n c f) : n ≤ c := h.1
theorem Own.congr (h : Own w base A n c f) (e : ∀ j, j < n → f j = f' j) : Own w base A n c f' := by
  obtain ⟨h1, h2, h3⟩ := h
  refine ⟨h1, h2, ?_⟩
  rcases h3 with h3 | ⟨g, cur, hA, hb, hg, hs, hc⟩
  · exact .inl h3
  · exact .inr ⟨g, cur, hA, hb, hg, hs, fun j hj => by rw [← e j hj]; exact hc j hj⟩
theorem Own.keep (h : Own w base A n c f) (hk : ∀ g, base ≤ g → g < w.heap.size → w'.heap[g]? = w.heap[g]?) : Own w' base A n c f := by
  obtain ⟨h1, h2, h3⟩ := h
  refine ⟨h1, h2, ?_⟩
  rcases h3 with h3 | ⟨g, cur, hA, hb, hg, hs, hc⟩
  · exact .inl h3
  · exact .inr ⟨g, cur, hA, hb, (hk g hb (blk_lt hg)).trans hg, hs, hc⟩
theorem Own.below (h : Own w base A n c f) (hb : Below w.heap.size w w') : Own w' base A n c f := h.keep fun g _ hg => hb.block g hg
theorem Own.far (h : Own w base A n c f) {p : Addr} (hp : p.block < base) (u : Value) : Own (w.setCell p u) base A n c f :=
  h.keep fun g hb _ => Below.heap_setCell w p u g (by omega)
/-- A place of an own row: its cell, that it is free, and what a store there makes of the row. -/
theorem Own.spot (h : Own w base A n c f) (i : Nat) (hi : i < n) (v : Int) :
    ∃ g, A = some ⟨g, 0, none⟩ ∧ base ≤ g ∧ g < w.heap.size ∧ w.cell? ⟨g, i, none⟩ = some (.int .u64 (f i)) ∧ w.frozen? ⟨g, i, none⟩ = false ∧
      Own (w.setCell ⟨g, i, none⟩ (.int .u64 v)) base A n c (fun j => if j = i then v else f j) := by
  obtain ⟨h1, h2, h3⟩ := h
  rcases h3 with ⟨rfl, rfl⟩ | ⟨g, cur, rfl, hb, hg, hs, hc⟩
  · omega
  · refine ⟨g, rfl, hb, blk_lt hg, (cell_row hg).trans (hc i hi), free_row hg, h1, h2, .inr ⟨g, cur.setIfInBounds i (.int .u64 v), rfl, hb, ?_, by simpa using hs, fun j hj => ?_⟩⟩
    · simp [World.setCell, Array.getElem?_modify, hg]
    · rw [Array.getElem?_setIfInBounds]
      by_cases e : i = j
      · subst e
        rw [if_pos rfl, if_pos (by omega)]
        simp
      · rw [if_neg e, hc j hj]
        show some (Value.int .u64 (f j)) = some (.int .u64 (if j = i then v else f j))
        rw [if_neg (fun x => e x.symm)]
/-- What append and make leave, as an own row. -/
theorem own_of_row {base : Nat} {v : Value} {n : Nat} {xs : List Value} (h : w.ownsRow base 67 1 v n xs) (hx : ∀ j, j < n → xs[j]? = some (.int .u64 (f j))) :
    ∃ A c, v = .slice A n c ∧ Own w base A n c f := by
  obtain ⟨hl, h⟩ := h
  rcases h with ⟨rfl, rfl⟩ | ⟨g, cap, cur, rfl, hb, hg, hn, hm, hs, ht⟩
  · exact ⟨none, 0, rfl, by omega, by simp, .inl ⟨rfl, rfl⟩⟩
  · refine ⟨some ⟨g, 0, none⟩, cap, rfl, hn, hm, .inr ⟨g, cur, rfl, hb, hg, by omega, fun j hj => ?_⟩⟩
    have h0 := hx j hj
    rw [← ht, List.getElem?_take] at h0
    rw [if_pos (by omega)] at h0
    simpa using h0
end

theorem add_at (b o i : Nat) : (⟨b, o, none⟩ : Addr).add i = ⟨b, o + i, none⟩ := by
  unfold Addr.add
  by_cases h : i = 0 <;> simp [h]

def wordsOf (n : Nat) (f : Nat → Int) : List Value := (List.range n).map fun j => .int .u64 (f j)
theorem wordsOf_length (n : Nat) (f : Nat → Int) : (wordsOf n f).length = n := by simp [wordsOf]
theorem wordsOf_get (n : Nat) (f : Nat → Int) (j : Nat) (h : j < n) : (wordsOf n f)[j]? = some (.int .u64 (f j)) := by simp [wordsOf, h]
theorem wordsOf_get' {n : Nat} {f : Nat → Int} {j : Nat} {u : Value} (h : (wordsOf n f)[j]? = some u) : j < n ∧ u = .int .u64 (f j) := by
  rcases Nat.lt_or_ge j n with hl | hg
  · rw [wordsOf_get n f j hl] at h
    exact ⟨hl, by injection h with h; exact h.symm⟩
  · rw [List.getElem?_eq_none (by rw [wordsOf_length]; exact hg)] at h
    cases h
theorem wordsOf_one (n : Nat) (f : Nat → Int) : ∀ u ∈ wordsOf n f, u.oneCell' = true := by
  intro u hu
  simp only [wordsOf, List.mem_map] at hu
  obtain ⟨j, _, rfl⟩ := hu
  rfl

theorem word_info : (Try.prog.info? 67).map (fun i => (i.zero, i.size, i.bytes)) = some (some (.int .u64 0), 1, 8) := by kernel_rfl

def Fr.v (f : Fr) : Value := .agg #[.int .i64 f.ow, .int .i64 f.st, .int .i64 f.nx]

/-- The n entries of the slice at A (capacity c) are F 0, F 1, ..; the block that holds them lies below B. -/
def Tab (w : World) (B : Nat) (A : Option Addr) (n c : Nat) (F : Nat → Fr) : Prop :=
  n ≤ c ∧ c ≤ maxLen ∧ (A = none → c = 0) ∧
    (0 < n → ∃ b o, A = some ⟨b, o, none⟩ ∧ b < B ∧ ∀ j, j < n → w.cell? ⟨b, o + j * 3, none⟩ = some (.int .i64 (F j).ow) ∧ w.cell? ⟨b, o + j * 3 + 1, none⟩ = some (.int .i64 (F j).st) ∧ w.cell? ⟨b, o + j * 3 + 2, none⟩ = some (.int .i64 (F j).nx))

/-- The same for a row that the call itself made (blocks from base on): it may be written. -/
def OwnT (w : World) (base : Nat) (A : Option Addr) (n c : Nat) (F : Nat → Fr) : Prop :=
  n ≤ c ∧ c ≤ maxLen ∧
    ((A = none ∧ c = 0) ∨
      ∃ g cur, A = some ⟨g, 0, none⟩ ∧ base ≤ g ∧ w.heap[g]? = some (.cells cur 64 (0, 0)) ∧ cur.size = c * 3 ∧
        ∀ j, j < n → cur[j * 3]? = some (.int .i64 (F j).ow) ∧ cur[j * 3 + 1]? = some (.int .i64 (F j).st) ∧ cur[j * 3 + 2]? = some (.int .i64 (F j).nx))

section
variable {w w' : World} {B base n c : Nat} {A : Option Addr} {F F' : Nat → Fr}
theorem Tab.le (h : Tab w B A n c F) : n ≤ c := h.1
theorem Tab.at_ (h : Tab w B A n c F) (k : Nat) (hk : k < n) :
    ∃ b o, A = some ⟨b, o, none⟩ ∧ b < B ∧ w.cell? ⟨b, o + k * 3, none⟩ = some (.int .i64 (F k).ow) ∧ w.cell? ⟨b, o + k * 3 + 1, none⟩ = some (.int .i64 (F k).st) ∧ w.cell? ⟨b, o + k * 3 + 2, none⟩ = some (.int .i64 (F k).nx) := by
  obtain ⟨b, o, hA, hb, hc⟩ := h.2.2.2 (by omega)
  exact ⟨b, o, hA, hb, hc k hk⟩
theorem Tab.base_ (h : Tab w B A n c F) (hn : 0 < n) : ∃ b o, A = some ⟨b, o, none⟩ ∧ b < B := by
  obtain ⟨b, o, hA, hb, hc⟩ := h.2.2.2 hn
  exact ⟨b, o, hA, hb⟩
/-- The cells of an entry, where the place of the row is known. -/
theorem Tab.cells {b o : Nat} (h : Tab w B (some ⟨b, o, none⟩) n c F) (k : Nat) (hk : k < n) :
    b < B ∧ w.cell? ⟨b, o + k * 3, none⟩ = some (.int .i64 (F k).ow) ∧ w.cell? ⟨b, o + k * 3 + 1, none⟩ = some (.int .i64 (F k).st) ∧ w.cell? ⟨b, o + k * 3 + 2, none⟩ = some (.int .i64 (F k).nx) := by
  obtain ⟨b', o', hA, hb, hc⟩ := h.2.2.2 (by omega)
  injection hA with hA
  injection hA with e1 e2
  subst e1
  subst e2
  exact ⟨hb, hc k hk⟩
theorem Tab.keep (h : Tab w B A n c F) (hk : ∀ b o, b < B → w'.cell? ⟨b, o, none⟩ = w.cell? ⟨b, o, none⟩) : Tab w' B A n c F := by
  refine ⟨h.1, h.2.1, h.2.2.1, fun hn => ?_⟩
  obtain ⟨b, o, hA, hb, hc⟩ := h.2.2.2 hn
  exact ⟨b, o, hA, hb, fun j hj => ⟨(hk _ _ hb).trans (hc j hj).1, (hk _ _ hb).trans (hc j hj).2.1, (hk _ _ hb).trans (hc j hj).2.2⟩⟩
theorem Tab.below (h : Tab w B A n c F) (hb : Below B w w') : Tab w' B A n c F := h.keep fun _ _ hp => hb.cell hp
theorem Tab.more {B' : Nat} (h : Tab w B A n c F) (hB : B ≤ B') : Tab w B' A n c F := by
  refine ⟨h.1, h.2.1, h.2.2.1, fun hn => ?_⟩
  obtain ⟨b, o, hA, hb, hc⟩ := h.2.2.2 hn
  exact ⟨b, o, hA, by omega, hc⟩
theorem Tab.next (h : Tab w w.heap.size A n c F) (hb : Below w.heap.size w w') : Tab w' w'.heap.size A n c F := (h.below hb).more hb.size
theorem Arr.next {f : Nat → Int} (h : Arr w w.heap.size A n c f) (hb : Below w.heap.size w w') : Arr w' w'.heap.size A n c f := (h.below hb).more hb.size
theorem Tab.congr (h : Tab w B A n c F) (e : ∀ j, j < n → F j = F' j) : Tab w B A n c F' := by
  refine ⟨h.1, h.2.1, h.2.2.1, fun hn => ?_⟩
  obtain ⟨b, o, hA, hb, hc⟩ := h.2.2.2 hn
  exact ⟨b, o, hA, hb, fun j hj => by rw [← e j hj]; exact hc j hj⟩
theorem Tab.nil (w : World) (B : Nat) (F : Nat → Fr) : Tab w B none 0 0 F := ⟨by simp, by simp, fun _ => rfl, fun h => absurd h (by omega)⟩

theorem OwnT.tab (h : OwnT w base A n c F) : Tab w w.heap.size A n c F := by
  obtain ⟨h1, h2, h3⟩ := h
  rcases h3 with ⟨rfl, rfl⟩ | ⟨g, cur, rfl, _, hg, _, hc⟩
  · exact ⟨h1, h2, fun _ => rfl, fun hn => by omega⟩
  · refine ⟨h1, h2, (fun e => by cases e), fun _ => ⟨g, 0, rfl, blk_lt hg, fun j hj => ?_⟩⟩
    rw [cell_row hg, cell_row hg, cell_row hg, Nat.zero_add]
    exact hc j hj
theorem OwnT.nil_ (w : World) (base : Nat) (F : Nat → Fr) : OwnT w base none 0 0 F := ⟨by simp, by simp, .inl ⟨rfl, rfl⟩⟩
theorem OwnT.le (h : OwnT w base A n c F) : n ≤ c := h.1
theorem OwnT.congr (h : OwnT w base A n c F) (e : ∀ j, j < n → F j = F' j) : OwnT w base A n c F' := by
  obtain ⟨h1, h2, h3⟩ := h
  refine ⟨h1, h2, ?_⟩
  rcases h3 with h3 | ⟨g, cur, hA, hb, hg, hs, hc⟩
  · exact .inl h3
  · exact .inr ⟨g, cur, hA, hb, hg, hs, fun j hj => by rw [← e j hj]; exact hc j hj⟩
theorem OwnT.keep (h : OwnT w base A n c F) (hk : ∀ g, base ≤ g → g < w.heap.size → w'.heap[g]? = w.heap[g]?) : OwnT w' base A n c F := by
  obtain ⟨h1, h2, h3⟩ := h
  refine ⟨h1, h2, ?_⟩
  rcases h3 with h3 | ⟨g, cur, hA, hb, hg, hs, hc⟩
  · exact .inl h3
  · exact .inr ⟨g, cur, hA, hb, (hk g hb (blk_lt hg)).trans hg, hs, hc⟩
theorem OwnT.below (h : OwnT w base A n c F) (hb : Below w.heap.size w w') : OwnT w' base A n c F := h.keep fun g _ hg => hb.block g hg
theorem OwnT.far (h : OwnT w base A n c F) {p : Addr} (hp : p.block < base) (u : Value) : OwnT (w.setCell p u) base A n c F :=
  h.keep fun g hb _ => Below.heap_setCell w p u g (by omega)
theorem OwnT.lower {base' : Nat} (h : OwnT w base A n c F) (hb : base' ≤ base) : OwnT w base' A n c F := by
  obtain ⟨h1, h2, h3⟩ := h
  refine ⟨h1, h2, ?_⟩
  rcases h3 with h3 | ⟨g, cur, hA, hg, hh⟩
  · exact .inl h3
  · exact .inr ⟨g, cur, hA, by omega, hh⟩
/-- A place of an own row: its cells, that they are free, and what a store of a whole entry makes of the row. -/
theorem OwnT.spot (h : OwnT w base A n c F) (i : Nat) (hi : i < n) (x : Fr) :
    ∃ g, A = some ⟨g, 0, none⟩ ∧ base ≤ g ∧ g < w.heap.size ∧
      w.cell? ⟨g, i * 3, none⟩ = some (.int .i64 (F i).ow) ∧ w.cell? ⟨g, i * 3 + 1, none⟩ = some (.int .i64 (F i).st) ∧ w.cell? ⟨g, i * 3 + 2, none⟩ = some (.int .i64 (F i).nx) ∧
      w.frozen? ⟨g, i * 3, none⟩ = false ∧ w.frozen? ⟨g, i * 3 + 1, none⟩ = false ∧ w.frozen? ⟨g, i * 3 + 2, none⟩ = false ∧
      OwnT (((w.setCell ⟨g, i * 3, none⟩ (.int .i64 x.ow)).setCell ⟨g, i * 3 + 1, none⟩ (.int .i64 x.st)).setCell ⟨g, i * 3 + 2, none⟩ (.int .i64 x.nx)) base A n c (fun j => if j = i then x else F j) ∧
      OwnT (w.setCell ⟨g, i * 3 + 2, none⟩ (.int .i64 x.nx)) base A n c (fun j => if j = i then ⟨(F i).ow, (F i).st, x.nx⟩ else F j) := by
  obtain ⟨h1, h2, h3⟩ := h
  rcases h3 with ⟨rfl, rfl⟩ | ⟨g, cur, rfl, hb, hg, hs, hc⟩
  · omega
  · refine ⟨g, rfl, hb, blk_lt hg, (cell_row hg).trans (hc i hi).1, (cell_row hg).trans (hc i hi).2.1, (cell_row hg).trans (hc i hi).2.2, free_row hg, free_row hg, free_row hg,
      ⟨h1, h2, .inr ⟨g, ((cur.setIfInBounds (i * 3) (.int .i64 x.ow)).setIfInBounds (i * 3 + 1) (.int .i64 x.st)).setIfInBounds (i * 3 + 2) (.int .i64 x.nx), rfl, hb, ?_, by simpa using hs, fun j hj => ?_⟩⟩,
      ⟨h1, h2, .inr ⟨g, cur.setIfInBounds (i * 3 + 2) (.int .i64 x.nx), rfl, hb, ?_, by simpa using hs, fun j hj => ?_⟩⟩⟩
    · simp [World.setCell, Array.getElem?_modify, hg]
    · by_cases e : j = i
      · subst e
        have k0 : j * 3 < cur.size := by omega
        have k1 : j * 3 + 1 < cur.size := by omega
        have k2 : j * 3 + 2 < cur.size := by omega
        simp [k0, k1, k2]
      · have k0 : ¬ i * 3 = j * 3 := by omega
        have k1 : ¬ i * 3 + 1 = j * 3 := by omega
        have k2 : ¬ i * 3 + 2 = j * 3 := by omega
        have k3 : ¬ i * 3 = j * 3 + 1 := by omega
        have k4 : ¬ i * 3 + 2 = j * 3 + 1 := by omega
        have k5 : ¬ i * 3 = j * 3 + 2 := by omega
        have k6 : ¬ i * 3 + 1 = j * 3 + 2 := by omega
        have k7 : ¬ i * 3 + 1 = j * 3 + 1 := by omega
        have k8 : ¬ i * 3 + 2 = j * 3 + 2 := by omega
        simp only [Array.getElem?_setIfInBounds, if_neg k0, if_neg k1, if_neg k2, if_neg k3, if_neg k4, if_neg k5, if_neg k6, if_neg k7, if_neg k8, if_neg e]
        exact hc j hj
    · simp [World.setCell, Array.getElem?_modify, hg]
    · by_cases e : j = i
      · subst e
        have k2 : j * 3 + 2 < cur.size := by omega
        have k5 : ¬ j * 3 + 2 = j * 3 := by omega
        have k6 : ¬ j * 3 + 2 = j * 3 + 1 := by omega
        simp only [Array.getElem?_setIfInBounds, if_neg k5, if_neg k6, if_pos k2, if_true]
        exact ⟨(hc j hj).1, (hc j hj).2.1, trivial⟩
      · have k2 : ¬ i * 3 + 2 = j * 3 := by omega
        have k4 : ¬ i * 3 + 2 = j * 3 + 1 := by omega
        have k8 : ¬ i * 3 + 2 = j * 3 + 2 := by omega
        simp only [Array.getElem?_setIfInBounds, if_neg k2, if_neg k4, if_neg k8, if_neg e]
        exact hc j hj
theorem OwnT.spotAt {g : Nat} (h : OwnT w base (some ⟨g, 0, none⟩) n c F) (i : Nat) (hi : i < n) (x : Fr) :
    base ≤ g ∧ g < w.heap.size ∧
      w.cell? ⟨g, i * 3, none⟩ = some (.int .i64 (F i).ow) ∧ w.cell? ⟨g, i * 3 + 1, none⟩ = some (.int .i64 (F i).st) ∧ w.cell? ⟨g, i * 3 + 2, none⟩ = some (.int .i64 (F i).nx) ∧
      w.frozen? ⟨g, i * 3, none⟩ = false ∧ w.frozen? ⟨g, i * 3 + 1, none⟩ = false ∧ w.frozen? ⟨g, i * 3 + 2, none⟩ = false ∧
      OwnT (((w.setCell ⟨g, i * 3, none⟩ (.int .i64 x.ow)).setCell ⟨g, i * 3 + 1, none⟩ (.int .i64 x.st)).setCell ⟨g, i * 3 + 2, none⟩ (.int .i64 x.nx)) base (some ⟨g, 0, none⟩) n c (fun j => if j = i then x else F j) ∧
      OwnT (w.setCell ⟨g, i * 3 + 2, none⟩ (.int .i64 x.nx)) base (some ⟨g, 0, none⟩) n c (fun j => if j = i then ⟨(F i).ow, (F i).st, x.nx⟩ else F j) := by
  obtain ⟨g', hg, hh⟩ := h.spot i hi x
  injection hg with hg
  injection hg with hg
  subst hg
  exact hh
/-- A row that make made. -/
theorem OwnT.made (w : World) (n : Nat) (hn : n ≤ 4096) : OwnT (w.alloc (.cells (madeCells #[.int .i64 0, .int .i64 0, .int .i64 0] (n * 3)) 64)) w.heap.size (some ⟨w.heap.size, 0, none⟩) n n (fun _ => frZero) := by
  refine ⟨Nat.le_refl _, by simp only [maxLen]; omega, .inr ⟨w.heap.size, _, rfl, Nat.le_refl _, heap_alloc_new w _, by simp [size_madeCells], fun j hj => ?_⟩⟩
  · have e0 : j * 3 < n * 3 := by omega
    have e1 : j * 3 + 1 < n * 3 := by omega
    have e2 : j * 3 + 2 < n * 3 := by omega
    have m0 : j * 3 % 3 = 0 := by omega
    have m1 : (j * 3 + 1) % 3 = 1 := by omega
    have m2 : (j * 3 + 2) % 3 = 2 := by omega
    simp [madeCells, e0, e1, e2, m0, m1, m2, frZero]
end

section
variable {w w' : World} {B base b n c : Nat} {A : Option Addr} {F : Nat → Fr} {f : Nat → Int}
/-- Three cells written in a block that lies below a row of the call's own. -/
theorem Own.put3 (h : Own w base A n c f) (hb : b < base) (v0 v1 v2 : Value) : Own (((w.setCell ⟨b, 0, none⟩ v0).setCell ⟨b, 1, none⟩ v1).setCell ⟨b, 2, none⟩ v2) base A n c f :=
  ((h.far (p := ⟨b, 0, none⟩) hb v0).far (p := ⟨b, 1, none⟩) hb v1).far (p := ⟨b, 2, none⟩) hb v2
theorem OwnT.put3 (h : OwnT w base A n c F) (hb : b < base) (v0 v1 v2 : Value) : OwnT (((w.setCell ⟨b, 0, none⟩ v0).setCell ⟨b, 1, none⟩ v1).setCell ⟨b, 2, none⟩ v2) base A n c F :=
  ((h.far (p := ⟨b, 0, none⟩) hb v0).far (p := ⟨b, 1, none⟩) hb v1).far (p := ⟨b, 2, none⟩) hb v2
theorem below_put3 (h : Below B w' w) (hb : B ≤ b) (v0 v1 v2 : Value) : Below B w' (((w.setCell ⟨b, 0, none⟩ v0).setCell ⟨b, 1, none⟩ v1).setCell ⟨b, 2, none⟩ v2) :=
  ((h.setCell (p := ⟨b, 0, none⟩) hb v0).setCell (p := ⟨b, 1, none⟩) hb v1).setCell (p := ⟨b, 2, none⟩) hb v2
theorem Own.lower {base' : Nat} (h : Own w base A n c f) (hb : base' ≤ base) : Own w base' A n c f := by
  obtain ⟨h1, h2, h3⟩ := h
  refine ⟨h1, h2, ?_⟩
  rcases h3 with h3 | ⟨g, cur, hA, hg, hh⟩
  · exact .inl h3
  · exact .inr ⟨g, cur, hA, by omega, hh⟩
end

section
variable {w w' : World} {B base b n c x : Nat} {A : Option Addr} {F : Nat → Fr} {f : Nat → Int}
theorem Own.apart (h : Own w base (some ⟨x, 0, none⟩) n c f) {p : Addr} (hp : x ≠ p.block) (u : Value) : Own (w.setCell p u) base (some ⟨x, 0, none⟩) n c f := by
  obtain ⟨h1, h2, h3⟩ := h
  refine ⟨h1, h2, ?_⟩
  rcases h3 with ⟨h3, _⟩ | ⟨g, cur, hA, hb, hg, hh⟩
  · cases h3
  · injection hA with hA
    injection hA with hA
    subst hA
    exact .inr ⟨x, cur, rfl, hb, (Below.heap_setCell w p u x hp).trans hg, hh⟩
theorem OwnT.apart (h : OwnT w base (some ⟨x, 0, none⟩) n c F) {p : Addr} (hp : x ≠ p.block) (u : Value) : OwnT (w.setCell p u) base (some ⟨x, 0, none⟩) n c F := by
  obtain ⟨h1, h2, h3⟩ := h
  refine ⟨h1, h2, ?_⟩
  rcases h3 with ⟨h3, _⟩ | ⟨g, cur, hA, hb, hg, hh⟩
  · cases h3
  · injection hA with hA
    injection hA with hA
    subst hA
    exact .inr ⟨x, cur, rfl, hb, (Below.heap_setCell w p u x hp).trans hg, hh⟩
end

/-- Block g is just the cells cs of type t, and none of them is frozen. -/
def Blk (w : World) (g : Nat) (t : TypeId) (cs : Array Value) : Prop := w.heap[g]? = some (.cells cs t (0, 0))
section
variable {w w' : World} {g : Nat} {t : TypeId} {cs : Array Value}
theorem Blk.lt (h : Blk w g t cs) : g < w.heap.size := blk_lt h
theorem Blk.cell (h : Blk w g t cs) (i : Nat) : w.cell? ⟨g, i, none⟩ = cs[i]? := cell_row h
theorem Blk.frozen (h : Blk w g t cs) (i : Nat) : w.frozen? ⟨g, i, none⟩ = false := free_row h
theorem Blk.new (w : World) (t : TypeId) (cs : Array Value) : Blk (w.alloc (.cells cs t)) w.heap.size t cs := heap_alloc_new w _
theorem Blk.newAt (w : World) (t : TypeId) (cs : Array Value) (s : Nat) (hs : w.heap.size = s) : Blk (w.alloc (.cells cs t)) s t cs := by subst hs; exact heap_alloc_new w _
theorem Blk.alloc (h : Blk w g t cs) (o : Obj) : Blk (w.alloc o) g t cs := (Below.heap_alloc w o g h.lt).trans h
theorem Blk.set_ (h : Blk w g t cs) (i : Nat) (u : Value) : Blk (w.setCell ⟨g, i, none⟩ u) g t (cs.setIfInBounds i u) := by
  unfold Blk at h ⊢
  simp [World.setCell, Array.getElem?_modify, h]
theorem Blk.far (h : Blk w g t cs) {p : Addr} (hp : g ≠ p.block) (u : Value) : Blk (w.setCell p u) g t cs := (Below.heap_setCell w p u g hp).trans h
theorem Blk.below {B : Nat} (h : Blk w g t cs) (hb : Below B w w') (hg : g < B) : Blk w' g t cs := (hb.block g hg).trans h
theorem Blk.next (h : Blk w g t cs) (hb : Below w.heap.size w w') : Blk w' g t cs := (hb.block g h.lt).trans h
theorem Blk.far3 (h : Blk w g t cs) {b i j k : Nat} (hp : g ≠ b) (u v x : Value) : Blk (((w.setCell ⟨b, i, none⟩ u).setCell ⟨b, j, none⟩ v).setCell ⟨b, k, none⟩ x) g t cs :=
  ((h.far (p := ⟨b, i, none⟩) hp u).far (p := ⟨b, j, none⟩) hp v).far (p := ⟨b, k, none⟩) hp x
end
section
variable {w w' : World} {B base b n c x i j k : Nat} {A : Option Addr} {F : Nat → Fr} {f : Nat → Int}
theorem Own.apart3 (h : Own w base (some ⟨x, 0, none⟩) n c f) (hp : x ≠ b) (u v y : Value) : Own (((w.setCell ⟨b, i, none⟩ u).setCell ⟨b, j, none⟩ v).setCell ⟨b, k, none⟩ y) base (some ⟨x, 0, none⟩) n c f :=
  ((h.apart (p := ⟨b, i, none⟩) hp u).apart (p := ⟨b, j, none⟩) hp v).apart (p := ⟨b, k, none⟩) hp y
theorem OwnT.apart3 (h : OwnT w base (some ⟨x, 0, none⟩) n c F) (hp : x ≠ b) (u v y : Value) : OwnT (((w.setCell ⟨b, i, none⟩ u).setCell ⟨b, j, none⟩ v).setCell ⟨b, k, none⟩ y) base (some ⟨x, 0, none⟩) n c F :=
  ((h.apart (p := ⟨b, i, none⟩) hp u).apart (p := ⟨b, j, none⟩) hp v).apart (p := ⟨b, k, none⟩) hp y
theorem below_set3 (h : Below B w' w) (hb : B ≤ b) (v0 v1 v2 : Value) : Below B w' (((w.setCell ⟨b, i, none⟩ v0).setCell ⟨b, j, none⟩ v1).setCell ⟨b, k, none⟩ v2) :=
  ((h.setCell (p := ⟨b, i, none⟩) hb v0).setCell (p := ⟨b, j, none⟩) hb v1).setCell (p := ⟨b, k, none⟩) hb v2
end

/-- Block g is a row of N cells of type t, and cell j holds f j. -/
def Row (w : World) (g : Nat) (t : TypeId) (N : Nat) (f : Nat → Value) : Prop := ∃ cur, w.heap[g]? = some (.cells cur t (0, 0)) ∧ cur.size = N ∧ ∀ j, j < N → cur[j]? = some (f j)
section
variable {w w' : World} {g N : Nat} {t : TypeId} {f f' : Nat → Value}
theorem Row.lt (h : Row w g t N f) : g < w.heap.size := by obtain ⟨cur, h, _⟩ := h; exact blk_lt h
theorem Row.cell (h : Row w g t N f) (j : Nat) (hj : j < N) : w.cell? ⟨g, j, none⟩ = some (f j) := by obtain ⟨cur, h1, _, h2⟩ := h; exact (cell_row h1).trans (h2 j hj)
theorem Row.free (h : Row w g t N f) (j : Nat) : w.frozen? ⟨g, j, none⟩ = false := by obtain ⟨cur, h1, _⟩ := h; exact free_row h1
theorem Row.next (h : Row w g t N f) (hb : Below w.heap.size w w') : Row w' g t N f := by
  have hl := h.lt
  obtain ⟨cur, h1, h2⟩ := h
  exact ⟨cur, (hb.block g hl).trans h1, h2⟩
theorem Row.congr (h : Row w g t N f) (e : ∀ j, j < N → f j = f' j) : Row w g t N f' := by
  obtain ⟨cur, h1, h2, h3⟩ := h
  exact ⟨cur, h1, h2, fun j hj => by rw [← e j hj]; exact h3 j hj⟩
theorem Row.far (h : Row w g t N f) {p : Addr} (hp : g ≠ p.block) (u : Value) : Row (w.setCell p u) g t N f := by
  obtain ⟨cur, h1, h2⟩ := h
  exact ⟨cur, (Below.heap_setCell w p u g hp).trans h1, h2⟩
theorem Row.set_ (h : Row w g t N f) (i : Nat) (hi : i < N) (u : Value) : Row (w.setCell ⟨g, i, none⟩ u) g t N (fun j => if j = i then u else f j) := by
  obtain ⟨cur, h1, h2, h3⟩ := h
  refine ⟨cur.setIfInBounds i u, ?_, by simpa using h2, fun j hj => ?_⟩
  · simp [World.setCell, Array.getElem?_modify, h1]
  · rw [Array.getElem?_setIfInBounds]
    by_cases e : i = j
    · subst e
      rw [if_pos rfl, if_pos (by omega)]
      simp
    · rw [if_neg e, h3 j hj]
      show some (f j) = some (if j = i then u else f j)
      rw [if_neg (fun x => e x.symm)]
end

/-! What turned is one block, and what is new. -/
section
variable {a w w1 : World} {g : Nat} {r : Option Nat}
theorem turn_below (h : Below a.heap.size a w) : a.grownBy w r := ⟨h.os, h.tape, h.output, h.size, fun i hi _ => h.block i hi⟩
theorem turn_next (h : a.grownBy w r) (hb : Below w.heap.size w w1) : a.grownBy w1 r :=
  ⟨hb.os.trans h.os, hb.tape.trans h.tape, hb.output.trans h.output, Nat.le_trans h.size hb.size, fun i hi hn => (hb.block i (Nat.lt_of_lt_of_le hi h.size)).trans (h.block i hi hn)⟩
theorem turn_set (h : a.grownBy w (some g)) (i : Nat) (u : Value) : a.grownBy (w.setCell ⟨g, i, none⟩ u) (some g) := by
  refine ⟨h.os, h.tape, h.output, by simpa using h.size, fun j hj hn => ?_⟩
  have hne : j ≠ g := fun e => hn (by rw [e])
  exact (Below.heap_setCell w ⟨g, i, none⟩ u j hne).trans (h.block j hj hn)
theorem turn_new (h : a.grownBy w (some g)) (p : Addr) (hp : a.heap.size ≤ p.block) (u : Value) : a.grownBy (w.setCell p u) (some g) := by
  refine ⟨h.os, h.tape, h.output, by simpa using h.size, fun j hj hn => ?_⟩
  exact (Below.heap_setCell w p u j (fun e => by subst e; omega)).trans (h.block j hj hn)
theorem turn_set3 (h : a.grownBy w (some g)) (i j k : Nat) (u v x : Value) : a.grownBy (((w.setCell ⟨g, i, none⟩ u).setCell ⟨g, j, none⟩ v).setCell ⟨g, k, none⟩ x) (some g) := turn_set (turn_set (turn_set h i u) j v) k x
theorem turn_alloc (h : a.grownBy w r) (o : Obj) : a.grownBy (w.alloc o) r := turn_next h ((Below.refl _ _).alloc (Nat.le_refl _) _)
theorem turn_trans (h : a.grownBy w r) (k : w.grownBy w1 r) : a.grownBy w1 r :=
  ⟨k.os.trans h.os, k.tape.trans h.tape, k.output.trans h.output, Nat.le_trans h.size k.size, fun i hi hn => (k.block i (Nat.lt_of_lt_of_le hi h.size) hn).trans (h.block i hi hn)⟩
theorem turn_under (h : a.grownBy w (some g)) {B : Nat} (hB : B ≤ g) (hBa : B ≤ a.heap.size) : Below B a w :=
  ⟨h.os, h.tape, h.output, h.size, fun i hi => h.block i (by omega) (fun e => by injection e with e; omega)⟩
end
theorem Blk.turn {a w : World} {g b : Nat} {t : TypeId} {cs : Array Value} (h : Blk a b t cs) (hg : a.grownBy w (some g)) (hn : b ≠ g) : Blk w b t cs := (hg.block b h.lt (fun e => hn (by injection e))).trans h
theorem Own.turn {a w : World} {g base n c x : Nat} {f : Nat → Int} (h : Own a base (some ⟨x, 0, none⟩) n c f) (hg : a.grownBy w (some g)) (hn : x ≠ g) : Own w base (some ⟨x, 0, none⟩) n c f := by
  obtain ⟨h1, h2, h3⟩ := h
  refine ⟨h1, h2, ?_⟩
  rcases h3 with ⟨h3, _⟩ | ⟨g', cur, hA, hb, hh, hs⟩
  · cases h3
  · injection hA with hA
    injection hA with hA
    subst hA
    exact .inr ⟨x, cur, rfl, hb, (hg.block x (blk_lt hh) (fun e => hn (by injection e))).trans hh, hs⟩
end Go.Proofs.Ytpbcpobbjoopnaa
