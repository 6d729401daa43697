/-
  Merged: Mem, Fr, Of, Un, Refs, New, NewR, Mod, Eq.
-/
import Derived.Test.YtjkbjbikofindaaRows
import Derived.Test.YtjkbjbikofindaaMPure
import Derived.WalkKit
import Derived.Lib.Hide
import Derived.Laws.CopyOwn
import Derived.WalkLawsBesides
import Derived.Deep.QuietTactic
import Derived.BigQuiet
import Derived.Deep.RegionHeld3
import Derived.Outline
import Derived.LoopTactic
import Derived.Laws.BitsAllLaws
import Derived.Laws.BitsLemmas
import Derived.Laws.ShiftsVarLaws
import Derived.Laws.MakeOwn
import Derived.Deep.OwnRows
import Derived.RegionTactic
import Derived.ChangeAlike
import Derived.Deep.DeepCutAuto
import Derived.Laws.StructEq
namespace Go.Proofs.Ytjkbjbikofindaa
set_option maxRecDepth 100000
open Go.RowKit

/-- The n words of the slice at A (capacity c) are f 0, f 1, ..; the block that holds them lies below B. -/
def Arr (w : World) (B : Nat) (A : Option Addr) (n c : Nat) (f : Nat → Int) : Prop :=
  n ≤ c ∧ c ≤ maxLen ∧ (A = none → c = 0) ∧
    (0 < n → ∃ b o, A = some ⟨b, o, none⟩ ∧ b < B ∧ ∀ j, j < n → w.cell? ⟨b, o + j, none⟩ = some (.int .u64 (f j)))

/-- The same for a row that the call itself made (blocks from base on): it may be written. -/
def Own (w : World) (base : Nat) (A : Option Addr) (n c : Nat) (f : Nat → Int) : Prop :=
  n ≤ c ∧ c ≤ maxLen ∧
    ((A = none ∧ c = 0) ∨
      ∃ g cur, A = some ⟨g, 0, none⟩ ∧ base ≤ g ∧ w.heap[g]? = some (.cells cur 28 (0, 0)) ∧ cur.size = c ∧ ∀ j, j < n → cur[j]? = some (.int .u64 (f j)))

theorem blk_lt {w : World} {g : Nat} {o : Obj} (h : w.heap[g]? = some o) : g < w.heap.size := by
  rcases Nat.lt_or_ge g w.heap.size with hl | hg
  · exact hl
  · rw [Array.getElem?_eq_none hg] at h
    cases h

theorem cell_lt {w : World} {b o : Nat} {u : Value} (h : w.cell? ⟨b, o, none⟩ = some u) : b < w.heap.size := by
  rcases Nat.lt_or_ge b w.heap.size with hl | hg
  · exact hl
  · simp [World.cell?, Array.getElem?_eq_none hg] at h

theorem cell_row {w : World} {g i : Nat} {cur : Array Value} {t : TypeId} {z : Nat × Nat} (h : w.heap[g]? = some (.cells cur t z)) : w.cell? ⟨g, i, none⟩ = cur[i]? := by
  simp [World.cell?, h]

theorem free_row {w : World} {g i : Nat} {cur : Array Value} {t : TypeId} (h : w.heap[g]? = some (.cells cur t (0, 0))) : w.frozen? ⟨g, i, none⟩ = false := by
  simp [World.frozen?, h]

section
variable {w w' : World} {B base n c : Nat} {A : Option Addr} {f f' : Nat → Int}

theorem Arr.le (h : Arr w B A n c f) : n ≤ c := h.1
theorem Arr.at_ (h : Arr w B A n c f) (k : Nat) (hk : k < n) : ∃ b o, A = some ⟨b, o, none⟩ ∧ b < B ∧ w.cell? ⟨b, o + k, none⟩ = some (.int .u64 (f k)) := by
  obtain ⟨b, o, hA, hb, hc⟩ := h.2.2.2 (by omega)
  exact ⟨b, o, hA, hb, hc k hk⟩
theorem Arr.keep (h : Arr w B A n c f) (hk : ∀ b o, b < B → w'.cell? ⟨b, o, none⟩ = w.cell? ⟨b, o, none⟩) : Arr w' B A n c f := by
  refine ⟨h.1, h.2.1, h.2.2.1, fun hn => ?_⟩
  obtain ⟨b, o, hA, hb, hc⟩ := h.2.2.2 hn
  exact ⟨b, o, hA, hb, fun j hj => (hk _ _ hb).trans (hc j hj)⟩
theorem Arr.below (h : Arr w B A n c f) (hb : Below B w w') : Arr w' B A n c f := h.keep fun _ _ hp => hb.cell hp
theorem Arr.more {B' : Nat} (h : Arr w B A n c f) (hB : B ≤ B') : Arr w B' A n c f := by
  refine ⟨h.1, h.2.1, h.2.2.1, fun hn => ?_⟩
  obtain ⟨b, o, hA, hb, hc⟩ := h.2.2.2 hn
  exact ⟨b, o, hA, by omega, hc⟩
theorem Arr.congr (h : Arr w B A n c f) (e : ∀ j, j < n → f j = f' j) : Arr w B A n c f' := by
  refine ⟨h.1, h.2.1, h.2.2.1, fun hn => ?_⟩
  obtain ⟨b, o, hA, hb, hc⟩ := h.2.2.2 hn
  exact ⟨b, o, hA, hb, fun j hj => by rw [← e j hj]; exact hc j hj⟩
theorem Arr.nil (w : World) (B : Nat) (f : Nat → Int) : Arr w B none 0 0 f := ⟨by simp, by simp, fun _ => rfl, fun h => absurd h (by omega)⟩

theorem Own.arr (h : Own w base A n c f) : Arr w w.heap.size A n c f := by
  obtain ⟨h1, h2, h3⟩ := h
  rcases h3 with ⟨rfl, rfl⟩ | ⟨g, cur, rfl, _, hg, _, hc⟩
  · exact ⟨h1, h2, fun _ => rfl, fun hn => by omega⟩
  · refine ⟨h1, h2, (fun e => by cases e), fun _ => ⟨g, 0, rfl, blk_lt hg, fun j hj => ?_⟩⟩
    rw [cell_row hg, Nat.zero_add]
    exact hc j hj
theorem Own.nil_ (w : World) (base : Nat) (f : Nat → Int) : Own w base none 0 0 f := ⟨by simp, by simp, .inl ⟨rfl, rfl⟩⟩
theorem Own.le (h : Own w base A n c f) : n ≤ c := h.1
theorem Own.congr (h : Own w base A n c f) (e : ∀ j, j < n → f j = f' j) : Own w base A n c f' := by
  obtain ⟨h1, h2, h3⟩ := h
  refine ⟨h1, h2, ?_⟩
  rcases h3 with h3 | ⟨g, cur, hA, hb, hg, hs, hc⟩
  · exact .inl h3
  · exact .inr ⟨g, cur, hA, hb, hg, hs, fun j hj => by rw [← e j hj]; exact hc j hj⟩
theorem Own.keep (h : Own w base A n c f) (hk : ∀ g, base ≤ g → g < w.heap.size → w'.heap[g]? = w.heap[g]?) : Own w' base A n c f := by
  obtain ⟨h1, h2, h3⟩ := h
  refine ⟨h1, h2, ?_⟩
  rcases h3 with h3 | ⟨g, cur, hA, hb, hg, hs, hc⟩
  · exact .inl h3
  · exact .inr ⟨g, cur, hA, hb, (hk g hb (blk_lt hg)).trans hg, hs, hc⟩
theorem Own.below (h : Own w base A n c f) (hb : Below w.heap.size w w') : Own w' base A n c f := h.keep fun g _ hg => hb.block g hg
theorem Own.far (h : Own w base A n c f) {p : Addr} (hp : p.block < base) (u : Value) : Own (w.setCell p u) base A n c f :=
  h.keep fun g hb _ => Below.heap_setCell w p u g (by omega)
/-- A place of an own row: its cell, that it is free, and what a store there makes of the row. -/
theorem Own.spot (h : Own w base A n c f) (i : Nat) (hi : i < n) (v : Int) :
    ∃ g, A = some ⟨g, 0, none⟩ ∧ base ≤ g ∧ g < w.heap.size ∧ w.cell? ⟨g, i, none⟩ = some (.int .u64 (f i)) ∧ w.frozen? ⟨g, i, none⟩ = false ∧
      Own (w.setCell ⟨g, i, none⟩ (.int .u64 v)) base A n c (fun j => if j = i then v else f j) := by
  obtain ⟨h1, h2, h3⟩ := h
  rcases h3 with ⟨rfl, rfl⟩ | ⟨g, cur, rfl, hb, hg, hs, hc⟩
  · omega
  · refine ⟨g, rfl, hb, blk_lt hg, (cell_row hg).trans (hc i hi), free_row hg, h1, h2, .inr ⟨g, cur.setIfInBounds i (.int .u64 v), rfl, hb, ?_, by simpa using hs, fun j hj => ?_⟩⟩
    · simp [World.setCell, Array.getElem?_modify, hg]
    · rw [Array.getElem?_setIfInBounds]
      by_cases e : i = j
      · subst e
        rw [if_pos rfl, if_pos (by omega)]
        simp
      · rw [if_neg e, hc j hj]
        show some (Value.int .u64 (f j)) = some (.int .u64 (if j = i then v else f j))
        rw [if_neg (fun x => e x.symm)]
/-- What append and make leave, as an own row. -/
theorem own_of_row {base : Nat} {v : Value} {n : Nat} {xs : List Value} (h : w.ownsRow base 28 1 v n xs) (hx : ∀ j, j < n → xs[j]? = some (.int .u64 (f j))) :
    ∃ A c, v = .slice A n c ∧ Own w base A n c f := by
  obtain ⟨hl, h⟩ := h
  rcases h with ⟨rfl, rfl⟩ | ⟨g, cap, cur, rfl, hb, hg, hn, hm, hs, ht⟩
  · exact ⟨none, 0, rfl, by omega, by simp, .inl ⟨rfl, rfl⟩⟩
  · refine ⟨some ⟨g, 0, none⟩, cap, rfl, hn, hm, .inr ⟨g, cur, rfl, hb, hg, by omega, fun j hj => ?_⟩⟩
    have h0 := hx j hj
    rw [← ht, List.getElem?_take] at h0
    rw [if_pos (by omega)] at h0
    simpa using h0
end

theorem add_at (b o i : Nat) : (⟨b, o, none⟩ : Addr).add i = ⟨b, o + i, none⟩ := by
  unfold Addr.add
  by_cases h : i = 0 <;> simp [h]

def wordsOf (n : Nat) (f : Nat → Int) : List Value := (List.range n).map fun j => .int .u64 (f j)
theorem wordsOf_length (n : Nat) (f : Nat → Int) : (wordsOf n f).length = n := by simp [wordsOf]
theorem wordsOf_get (n : Nat) (f : Nat → Int) (j : Nat) (h : j < n) : (wordsOf n f)[j]? = some (.int .u64 (f j)) := by simp [wordsOf, h]
theorem wordsOf_get' {n : Nat} {f : Nat → Int} {j : Nat} {u : Value} (h : (wordsOf n f)[j]? = some u) : j < n ∧ u = .int .u64 (f j) := by
  rcases Nat.lt_or_ge j n with hl | hg
  · rw [wordsOf_get n f j hl] at h
    exact ⟨hl, by injection h with h; exact h.symm⟩
  · rw [List.getElem?_eq_none (by rw [wordsOf_length]; exact hg)] at h
    cases h
theorem wordsOf_one (n : Nat) (f : Nat → Int) : ∀ u ∈ wordsOf n f, u.oneCell' = true := by
  intro u hu
  simp only [wordsOf, List.mem_map] at hu
  obtain ⟨j, _, rfl⟩ := hu
  rfl

theorem word_info : (Try.prog.info? 28).map (fun i => (i.zero, i.size, i.bytes)) = some (some (.int .u64 0), 1, 8) := by kernel_rfl

def Fr.v (f : Fr) : Value := .agg #[.int .i64 f.ow, .int .i64 f.st, .int .i64 f.nx]

/-- The n entries of the slice at A (capacity c) are F 0, F 1, ..; the block that holds them lies below B. -/
def Tab (w : World) (B : Nat) (A : Option Addr) (n c : Nat) (F : Nat → Fr) : Prop :=
  n ≤ c ∧ c ≤ maxLen ∧ (A = none → c = 0) ∧
    (0 < n → ∃ b o, A = some ⟨b, o, none⟩ ∧ b < B ∧ ∀ j, j < n → w.cell? ⟨b, o + j * 3, none⟩ = some (.int .i64 (F j).ow) ∧ w.cell? ⟨b, o + j * 3 + 1, none⟩ = some (.int .i64 (F j).st) ∧ w.cell? ⟨b, o + j * 3 + 2, none⟩ = some (.int .i64 (F j).nx))

/-- The same for a row that the call itself made (blocks from base on): it may be written. -/
def OwnT (w : World) (base : Nat) (A : Option Addr) (n c : Nat) (F : Nat → Fr) : Prop :=
  n ≤ c ∧ c ≤ maxLen ∧
    ((A = none ∧ c = 0) ∨
      ∃ g cur, A = some ⟨g, 0, none⟩ ∧ base ≤ g ∧ w.heap[g]? = some (.cells cur 61 (0, 0)) ∧ cur.size = c * 3 ∧
        ∀ j, j < n → cur[j * 3]? = some (.int .i64 (F j).ow) ∧ cur[j * 3 + 1]? = some (.int .i64 (F j).st) ∧ cur[j * 3 + 2]? = some (.int .i64 (F j).nx))

section
variable {w w' : World} {B base n c : Nat} {A : Option Addr} {F F' : Nat → Fr}
theorem Tab.le (h : Tab w B A n c F) : n ≤ c := h.1
theorem Tab.at_ (h : Tab w B A n c F) (k : Nat) (hk : k < n) :
    ∃ b o, A = some ⟨b, o, none⟩ ∧ b < B ∧ w.cell? ⟨b, o + k * 3, none⟩ = some (.int .i64 (F k).ow) ∧ w.cell? ⟨b, o + k * 3 + 1, none⟩ = some (.int .i64 (F k).st) ∧ w.cell? ⟨b, o + k * 3 + 2, none⟩ = some (.int .i64 (F k).nx) := by
  obtain ⟨b, o, hA, hb, hc⟩ := h.2.2.2 (by omega)
  exact ⟨b, o, hA, hb, hc k hk⟩
theorem Tab.base_ (h : Tab w B A n c F) (hn : 0 < n) : ∃ b o, A = some ⟨b, o, none⟩ ∧ b < B := by
  obtain ⟨b, o, hA, hb, hc⟩ := h.2.2.2 hn
  exact ⟨b, o, hA, hb⟩
/-- The cells of an entry, where the place of the row is known. -/
theorem Tab.cells {b o : Nat} (h : Tab w B (some ⟨b, o, none⟩) n c F) (k : Nat) (hk : k < n) :
    b < B ∧ w.cell? ⟨b, o + k * 3, none⟩ = some (.int .i64 (F k).ow) ∧ w.cell? ⟨b, o + k * 3 + 1, none⟩ = some (.int .i64 (F k).st) ∧ w.cell? ⟨b, o + k * 3 + 2, none⟩ = some (.int .i64 (F k).nx) := by
  obtain ⟨b', o', hA, hb, hc⟩ := h.2.2.2 (by omega)
  injection hA with hA
  injection hA with e1 e2
  subst e1
  subst e2
  exact ⟨hb, hc k hk⟩
theorem Tab.keep (h : Tab w B A n c F) (hk : ∀ b o, b < B → w'.cell? ⟨b, o, none⟩ = w.cell? ⟨b, o, none⟩) : Tab w' B A n c F := by
  refine ⟨h.1, h.2.1, h.2.2.1, fun hn => ?_⟩
  obtain ⟨b, o, hA, hb, hc⟩ := h.2.2.2 hn
  exact ⟨b, o, hA, hb, fun j hj => ⟨(hk _ _ hb).trans (hc j hj).1, (hk _ _ hb).trans (hc j hj).2.1, (hk _ _ hb).trans (hc j hj).2.2⟩⟩
theorem Tab.below (h : Tab w B A n c F) (hb : Below B w w') : Tab w' B A n c F := h.keep fun _ _ hp => hb.cell hp
theorem Tab.more {B' : Nat} (h : Tab w B A n c F) (hB : B ≤ B') : Tab w B' A n c F := by
  refine ⟨h.1, h.2.1, h.2.2.1, fun hn => ?_⟩
  obtain ⟨b, o, hA, hb, hc⟩ := h.2.2.2 hn
  exact ⟨b, o, hA, by omega, hc⟩
theorem Tab.next (h : Tab w w.heap.size A n c F) (hb : Below w.heap.size w w') : Tab w' w'.heap.size A n c F := (h.below hb).more hb.size
theorem Arr.next {f : Nat → Int} (h : Arr w w.heap.size A n c f) (hb : Below w.heap.size w w') : Arr w' w'.heap.size A n c f := (h.below hb).more hb.size
theorem Tab.congr (h : Tab w B A n c F) (e : ∀ j, j < n → F j = F' j) : Tab w B A n c F' := by
  refine ⟨h.1, h.2.1, h.2.2.1, fun hn => ?_⟩
  obtain ⟨b, o, hA, hb, hc⟩ := h.2.2.2 hn
  exact ⟨b, o, hA, hb, fun j hj => by rw [← e j hj]; exact hc j hj⟩
theorem Tab.nil (w : World) (B : Nat) (F : Nat → Fr) : Tab w B none 0 0 F := ⟨by simp, by simp, fun _ => rfl, fun h => absurd h (by omega)⟩

theorem OwnT.tab (h : OwnT w base A n c F) : Tab w w.heap.size A n c F := by
  obtain ⟨h1, h2, h3⟩ := h
  rcases h3 with ⟨rfl, rfl⟩ | ⟨g, cur, rfl, _, hg, _, hc⟩
  · exact ⟨h1, h2, fun _ => rfl, fun hn => by omega⟩
  · refine ⟨h1, h2, (fun e => by cases e), fun _ => ⟨g, 0, rfl, blk_lt hg, fun j hj => ?_⟩⟩
    rw [cell_row hg, cell_row hg, cell_row hg, Nat.zero_add]
    exact hc j hj
theorem OwnT.nil_ (w : World) (base : Nat) (F : Nat → Fr) : OwnT w base none 0 0 F := ⟨by simp, by simp, .inl ⟨rfl, rfl⟩⟩
theorem OwnT.le (h : OwnT w base A n c F) : n ≤ c := h.1
theorem OwnT.congr (h : OwnT w base A n c F) (e : ∀ j, j < n → F j = F' j) : OwnT w base A n c F' := by
  obtain ⟨h1, h2, h3⟩ := h
  refine ⟨h1, h2, ?_⟩
  rcases h3 with h3 | ⟨g, cur, hA, hb, hg, hs, hc⟩
  · exact .inl h3
  · exact .inr ⟨g, cur, hA, hb, hg, hs, fun j hj => by rw [← e j hj]; exact hc j hj⟩
theorem OwnT.keep (h : OwnT w base A n c F) (hk : ∀ g, base ≤ g → g < w.heap.size → w'.heap[g]? = w.heap[g]?) : OwnT w' base A n c F := by
  obtain ⟨h1, h2, h3⟩ := h
  refine ⟨h1, h2, ?_⟩
  rcases h3 with h3 | ⟨g, cur, hA, hb, hg, hs, hc⟩
  · exact .inl h3
  · exact .inr ⟨g, cur, hA, hb, (hk g hb (blk_lt hg)).trans hg, hs, hc⟩
theorem OwnT.below (h : OwnT w base A n c F) (hb : Below w.heap.size w w') : OwnT w' base A n c F := h.keep fun g _ hg => hb.block g hg
theorem OwnT.far (h : OwnT w base A n c F) {p : Addr} (hp : p.block < base) (u : Value) : OwnT (w.setCell p u) base A n c F :=
  h.keep fun g hb _ => Below.heap_setCell w p u g (by omega)
theorem OwnT.lower {base' : Nat} (h : OwnT w base A n c F) (hb : base' ≤ base) : OwnT w base' A n c F := by
  obtain ⟨h1, h2, h3⟩ := h
  refine ⟨h1, h2, ?_⟩
  rcases h3 with h3 | ⟨g, cur, hA, hg, hh⟩
  · exact .inl h3
  · exact .inr ⟨g, cur, hA, by omega, hh⟩
/-- A place of an own row: its cells, that they are free, and what a store of a whole entry makes of the row. -/
theorem OwnT.spot (h : OwnT w base A n c F) (i : Nat) (hi : i < n) (x : Fr) :
    ∃ g, A = some ⟨g, 0, none⟩ ∧ base ≤ g ∧ g < w.heap.size ∧
      w.cell? ⟨g, i * 3, none⟩ = some (.int .i64 (F i).ow) ∧ w.cell? ⟨g, i * 3 + 1, none⟩ = some (.int .i64 (F i).st) ∧ w.cell? ⟨g, i * 3 + 2, none⟩ = some (.int .i64 (F i).nx) ∧
      w.frozen? ⟨g, i * 3, none⟩ = false ∧ w.frozen? ⟨g, i * 3 + 1, none⟩ = false ∧ w.frozen? ⟨g, i * 3 + 2, none⟩ = false ∧
      OwnT (((w.setCell ⟨g, i * 3, none⟩ (.int .i64 x.ow)).setCell ⟨g, i * 3 + 1, none⟩ (.int .i64 x.st)).setCell ⟨g, i * 3 + 2, none⟩ (.int .i64 x.nx)) base A n c (fun j => if j = i then x else F j) ∧
      OwnT (w.setCell ⟨g, i * 3 + 2, none⟩ (.int .i64 x.nx)) base A n c (fun j => if j = i then ⟨(F i).ow, (F i).st, x.nx⟩ else F j) := by
  obtain ⟨h1, h2, h3⟩ := h
  rcases h3 with ⟨rfl, rfl⟩ | ⟨g, cur, rfl, hb, hg, hs, hc⟩
  · omega
  · refine ⟨g, rfl, hb, blk_lt hg, (cell_row hg).trans (hc i hi).1, (cell_row hg).trans (hc i hi).2.1, (cell_row hg).trans (hc i hi).2.2, free_row hg, free_row hg, free_row hg,
      ⟨h1, h2, .inr ⟨g, ((cur.setIfInBounds (i * 3) (.int .i64 x.ow)).setIfInBounds (i * 3 + 1) (.int .i64 x.st)).setIfInBounds (i * 3 + 2) (.int .i64 x.nx), rfl, hb, ?_, by simpa using hs, fun j hj => ?_⟩⟩,
      ⟨h1, h2, .inr ⟨g, cur.setIfInBounds (i * 3 + 2) (.int .i64 x.nx), rfl, hb, ?_, by simpa using hs, fun j hj => ?_⟩⟩⟩
    · simp [World.setCell, Array.getElem?_modify, hg]
    · by_cases e : j = i
      · subst e
        have k0 : j * 3 < cur.size := by omega
        have k1 : j * 3 + 1 < cur.size := by omega
        have k2 : j * 3 + 2 < cur.size := by omega
        simp [k0, k1, k2]
      · have k0 : ¬ i * 3 = j * 3 := by omega
        have k1 : ¬ i * 3 + 1 = j * 3 := by omega
        have k2 : ¬ i * 3 + 2 = j * 3 := by omega
        have k3 : ¬ i * 3 = j * 3 + 1 := by omega
        have k4 : ¬ i * 3 + 2 = j * 3 + 1 := by omega
        have k5 : ¬ i * 3 = j * 3 + 2 := by omega
        have k6 : ¬ i * 3 + 1 = j * 3 + 2 := by omega
        have k7 : ¬ i * 3 + 1 = j * 3 + 1 := by omega
        have k8 : ¬ i * 3 + 2 = j * 3 + 2 := by omega
        simp only [Array.getElem?_setIfInBounds, if_neg k0, if_neg k1, if_neg k2, if_neg k3, if_neg k4, if_neg k5, if_neg k6, if_neg k7, if_neg k8, if_neg e]
        exact hc j hj
    · simp [World.setCell, Array.getElem?_modify, hg]
    · by_cases e : j = i
      · subst e
        have k2 : j * 3 + 2 < cur.size := by omega
        have k5 : ¬ j * 3 + 2 = j * 3 := by omega
        have k6 : ¬ j * 3 + 2 = j * 3 + 1 := by omega
        simp only [Array.getElem?_setIfInBounds, if_neg k5, if_neg k6, if_pos k2, if_true]
        exact ⟨(hc j hj).1, (hc j hj).2.1, trivial⟩
      · have k2 : ¬ i * 3 + 2 = j * 3 := by omega
        have k4 : ¬ i * 3 + 2 = j * 3 + 1 := by omega
        have k8 : ¬ i * 3 + 2 = j * 3 + 2 := by omega
        simp only [Array.getElem?_setIfInBounds, if_neg k2, if_neg k4, if_neg k8, if_neg e]
        exact hc j hj
theorem OwnT.spotAt {g : Nat} (h : OwnT w base (some ⟨g, 0, none⟩) n c F) (i : Nat) (hi : i < n) (x : Fr) :
    base ≤ g ∧ g < w.heap.size ∧
      w.cell? ⟨g, i * 3, none⟩ = some (.int .i64 (F i).ow) ∧ w.cell? ⟨g, i * 3 + 1, none⟩ = some (.int .i64 (F i).st) ∧ w.cell? ⟨g, i * 3 + 2, none⟩ = some (.int .i64 (F i).nx) ∧
      w.frozen? ⟨g, i * 3, none⟩ = false ∧ w.frozen? ⟨g, i * 3 + 1, none⟩ = false ∧ w.frozen? ⟨g, i * 3 + 2, none⟩ = false ∧
      OwnT (((w.setCell ⟨g, i * 3, none⟩ (.int .i64 x.ow)).setCell ⟨g, i * 3 + 1, none⟩ (.int .i64 x.st)).setCell ⟨g, i * 3 + 2, none⟩ (.int .i64 x.nx)) base (some ⟨g, 0, none⟩) n c (fun j => if j = i then x else F j) ∧
      OwnT (w.setCell ⟨g, i * 3 + 2, none⟩ (.int .i64 x.nx)) base (some ⟨g, 0, none⟩) n c (fun j => if j = i then ⟨(F i).ow, (F i).st, x.nx⟩ else F j) := by
  obtain ⟨g', hg, hh⟩ := h.spot i hi x
  injection hg with hg
  injection hg with hg
  subst hg
  exact hh
/-- A row that make made. -/
theorem OwnT.made (w : World) (n : Nat) (hn : n ≤ 4096) : OwnT (w.alloc (.cells (madeCells #[.int .i64 0, .int .i64 0, .int .i64 0] (n * 3)) 61)) w.heap.size (some ⟨w.heap.size, 0, none⟩) n n (fun _ => frZero) := by
  refine ⟨Nat.le_refl _, by simp only [maxLen]; omega, .inr ⟨w.heap.size, _, rfl, Nat.le_refl _, heap_alloc_new w _, by simp [size_madeCells], fun j hj => ?_⟩⟩
  · have e0 : j * 3 < n * 3 := by omega
    have e1 : j * 3 + 1 < n * 3 := by omega
    have e2 : j * 3 + 2 < n * 3 := by omega
    have m0 : j * 3 % 3 = 0 := by omega
    have m1 : (j * 3 + 1) % 3 = 1 := by omega
    have m2 : (j * 3 + 2) % 3 = 2 := by omega
    simp [madeCells, e0, e1, e2, m0, m1, m2, frZero]
end

section
variable {w w' : World} {B base b n c : Nat} {A : Option Addr} {F : Nat → Fr} {f : Nat → Int}
/-- Three cells written in a block that lies below a row of the call's own. -/
theorem Own.put3 (h : Own w base A n c f) (hb : b < base) (v0 v1 v2 : Value) : Own (((w.setCell ⟨b, 0, none⟩ v0).setCell ⟨b, 1, none⟩ v1).setCell ⟨b, 2, none⟩ v2) base A n c f :=
  ((h.far (p := ⟨b, 0, none⟩) hb v0).far (p := ⟨b, 1, none⟩) hb v1).far (p := ⟨b, 2, none⟩) hb v2
theorem OwnT.put3 (h : OwnT w base A n c F) (hb : b < base) (v0 v1 v2 : Value) : OwnT (((w.setCell ⟨b, 0, none⟩ v0).setCell ⟨b, 1, none⟩ v1).setCell ⟨b, 2, none⟩ v2) base A n c F :=
  ((h.far (p := ⟨b, 0, none⟩) hb v0).far (p := ⟨b, 1, none⟩) hb v1).far (p := ⟨b, 2, none⟩) hb v2
theorem below_put3 (h : Below B w' w) (hb : B ≤ b) (v0 v1 v2 : Value) : Below B w' (((w.setCell ⟨b, 0, none⟩ v0).setCell ⟨b, 1, none⟩ v1).setCell ⟨b, 2, none⟩ v2) :=
  ((h.setCell (p := ⟨b, 0, none⟩) hb v0).setCell (p := ⟨b, 1, none⟩) hb v1).setCell (p := ⟨b, 2, none⟩) hb v2
theorem Own.lower {base' : Nat} (h : Own w base A n c f) (hb : base' ≤ base) : Own w base' A n c f := by
  obtain ⟨h1, h2, h3⟩ := h
  refine ⟨h1, h2, ?_⟩
  rcases h3 with h3 | ⟨g, cur, hA, hg, hh⟩
  · exact .inl h3
  · exact .inr ⟨g, cur, hA, by omega, hh⟩
end

section
variable {w w' : World} {B base b n c x : Nat} {A : Option Addr} {F : Nat → Fr} {f : Nat → Int}
theorem Own.apart (h : Own w base (some ⟨x, 0, none⟩) n c f) {p : Addr} (hp : x ≠ p.block) (u : Value) : Own (w.setCell p u) base (some ⟨x, 0, none⟩) n c f := by
  obtain ⟨h1, h2, h3⟩ := h
  refine ⟨h1, h2, ?_⟩
  rcases h3 with ⟨h3, _⟩ | ⟨g, cur, hA, hb, hg, hh⟩
  · cases h3
  · injection hA with hA
    injection hA with hA
    subst hA
    exact .inr ⟨x, cur, rfl, hb, (Below.heap_setCell w p u x hp).trans hg, hh⟩
theorem OwnT.apart (h : OwnT w base (some ⟨x, 0, none⟩) n c F) {p : Addr} (hp : x ≠ p.block) (u : Value) : OwnT (w.setCell p u) base (some ⟨x, 0, none⟩) n c F := by
  obtain ⟨h1, h2, h3⟩ := h
  refine ⟨h1, h2, ?_⟩
  rcases h3 with ⟨h3, _⟩ | ⟨g, cur, hA, hb, hg, hh⟩
  · cases h3
  · injection hA with hA
    injection hA with hA
    subst hA
    exact .inr ⟨x, cur, rfl, hb, (Below.heap_setCell w p u x hp).trans hg, hh⟩
end

/-- Block g is just the cells cs of type t, and none of them is frozen. -/
def Blk (w : World) (g : Nat) (t : TypeId) (cs : Array Value) : Prop := w.heap[g]? = some (.cells cs t (0, 0))
section
variable {w w' : World} {g : Nat} {t : TypeId} {cs : Array Value}
theorem Blk.lt (h : Blk w g t cs) : g < w.heap.size := blk_lt h
theorem Blk.cell (h : Blk w g t cs) (i : Nat) : w.cell? ⟨g, i, none⟩ = cs[i]? := cell_row h
theorem Blk.frozen (h : Blk w g t cs) (i : Nat) : w.frozen? ⟨g, i, none⟩ = false := free_row h
theorem Blk.new (w : World) (t : TypeId) (cs : Array Value) : Blk (w.alloc (.cells cs t)) w.heap.size t cs := heap_alloc_new w _
theorem Blk.newAt (w : World) (t : TypeId) (cs : Array Value) (s : Nat) (hs : w.heap.size = s) : Blk (w.alloc (.cells cs t)) s t cs := by subst hs; exact heap_alloc_new w _
theorem Blk.alloc (h : Blk w g t cs) (o : Obj) : Blk (w.alloc o) g t cs := (Below.heap_alloc w o g h.lt).trans h
theorem Blk.set_ (h : Blk w g t cs) (i : Nat) (u : Value) : Blk (w.setCell ⟨g, i, none⟩ u) g t (cs.setIfInBounds i u) := by
  unfold Blk at h ⊢
  simp [World.setCell, Array.getElem?_modify, h]
theorem Blk.far (h : Blk w g t cs) {p : Addr} (hp : g ≠ p.block) (u : Value) : Blk (w.setCell p u) g t cs := (Below.heap_setCell w p u g hp).trans h
theorem Blk.below {B : Nat} (h : Blk w g t cs) (hb : Below B w w') (hg : g < B) : Blk w' g t cs := (hb.block g hg).trans h
theorem Blk.next (h : Blk w g t cs) (hb : Below w.heap.size w w') : Blk w' g t cs := (hb.block g h.lt).trans h
theorem Blk.far3 (h : Blk w g t cs) {b i j k : Nat} (hp : g ≠ b) (u v x : Value) : Blk (((w.setCell ⟨b, i, none⟩ u).setCell ⟨b, j, none⟩ v).setCell ⟨b, k, none⟩ x) g t cs :=
  ((h.far (p := ⟨b, i, none⟩) hp u).far (p := ⟨b, j, none⟩) hp v).far (p := ⟨b, k, none⟩) hp x
end
section
variable {w w' : World} {B base b n c x i j k : Nat} {A : Option Addr} {F : Nat → Fr} {f : Nat → Int}
theorem Own.apart3 (h : Own w base (some ⟨x, 0, none⟩) n c f) (hp : x ≠ b) (u v y : Value) : Own (((w.setCell ⟨b, i, none⟩ u).setCell ⟨b, j, none⟩ v).setCell ⟨b, k, none⟩ y) base (some ⟨x, 0, none⟩) n c f :=
  ((h.apart (p := ⟨b, i, none⟩) hp u).apart (p := ⟨b, j, none⟩) hp v).apart (p := ⟨b, k, none⟩) hp y
theorem OwnT.apart3 (h : OwnT w base (some ⟨x, 0, none⟩) n c F) (hp : x ≠ b) (u v y : Value) : OwnT (((w.setCell ⟨b, i, none⟩ u).setCell ⟨b, j, none⟩ v).setCell ⟨b, k, none⟩ y) base (some ⟨x, 0, none⟩) n c F :=
  ((h.apart (p := ⟨b, i, none⟩) hp u).apart (p := ⟨b, j, none⟩) hp v).apart (p := ⟨b, k, none⟩) hp y
theorem below_set3 (h : Below B w' w) (hb : B ≤ b) (v0 v1 v2 : Value) : Below B w' (((w.setCell ⟨b, i, none⟩ v0).setCell ⟨b, j, none⟩ v1).setCell ⟨b, k, none⟩ v2) :=
  ((h.setCell (p := ⟨b, i, none⟩) hb v0).setCell (p := ⟨b, j, none⟩) hb v1).setCell (p := ⟨b, k, none⟩) hb v2
end

/-- Block g is a row of N cells of type t, and cell j holds f j. -/
def Row (w : World) (g : Nat) (t : TypeId) (N : Nat) (f : Nat → Value) : Prop := ∃ cur, w.heap[g]? = some (.cells cur t (0, 0)) ∧ cur.size = N ∧ ∀ j, j < N → cur[j]? = some (f j)
section
variable {w w' : World} {g N : Nat} {t : TypeId} {f f' : Nat → Value}
theorem Row.lt (h : Row w g t N f) : g < w.heap.size := by obtain ⟨cur, h, _⟩ := h; exact blk_lt h
theorem Row.cell (h : Row w g t N f) (j : Nat) (hj : j < N) : w.cell? ⟨g, j, none⟩ = some (f j) := by obtain ⟨cur, h1, _, h2⟩ := h; exact (cell_row h1).trans (h2 j hj)
theorem Row.free (h : Row w g t N f) (j : Nat) : w.frozen? ⟨g, j, none⟩ = false := by obtain ⟨cur, h1, _⟩ := h; exact free_row h1
theorem Row.next (h : Row w g t N f) (hb : Below w.heap.size w w') : Row w' g t N f := by
  have hl := h.lt
  obtain ⟨cur, h1, h2⟩ := h
  exact ⟨cur, (hb.block g hl).trans h1, h2⟩
theorem Row.congr (h : Row w g t N f) (e : ∀ j, j < N → f j = f' j) : Row w g t N f' := by
  obtain ⟨cur, h1, h2, h3⟩ := h
  exact ⟨cur, h1, h2, fun j hj => by rw [← e j hj]; exact h3 j hj⟩
theorem Row.far (h : Row w g t N f) {p : Addr} (hp : g ≠ p.block) (u : Value) : Row (w.setCell p u) g t N f := by
  obtain ⟨cur, h1, h2⟩ := h
  exact ⟨cur, (Below.heap_setCell w p u g hp).trans h1, h2⟩
theorem Row.set_ (h : Row w g t N f) (i : Nat) (hi : i < N) (u : Value) : Row (w.setCell ⟨g, i, none⟩ u) g t N (fun j => if j = i then u else f j) := by
  obtain ⟨cur, h1, h2, h3⟩ := h
  refine ⟨cur.setIfInBounds i u, ?_, by simpa using h2, fun j hj => ?_⟩
  · simp [World.setCell, Array.getElem?_modify, h1]
  · rw [Array.getElem?_setIfInBounds]
    by_cases e : i = j
    · subst e
      rw [if_pos rfl, if_pos (by omega)]
      simp
    · rw [if_neg e, h3 j hj]
      show some (f j) = some (if j = i then u else f j)
      rw [if_neg (fun x => e x.symm)]
end

/-! What turned is one block, and what is new. -/
section
variable {a w w1 : World} {g : Nat} {r : Option Nat}
theorem turn_below (h : Below a.heap.size a w) : a.grownBy w r := ⟨h.os, h.tape, h.output, h.size, fun i hi _ => h.block i hi⟩
theorem turn_next (h : a.grownBy w r) (hb : Below w.heap.size w w1) : a.grownBy w1 r :=
  ⟨hb.os.trans h.os, hb.tape.trans h.tape, hb.output.trans h.output, Nat.le_trans h.size hb.size, fun i hi hn => (hb.block i (Nat.lt_of_lt_of_le hi h.size)).trans (h.block i hi hn)⟩
theorem turn_set (h : a.grownBy w (some g)) (i : Nat) (u : Value) : a.grownBy (w.setCell ⟨g, i, none⟩ u) (some g) := by
  refine ⟨h.os, h.tape, h.output, by simpa using h.size, fun j hj hn => ?_⟩
  have hne : j ≠ g := fun e => hn (by rw [e])
  exact (Below.heap_setCell w ⟨g, i, none⟩ u j hne).trans (h.block j hj hn)
theorem turn_new (h : a.grownBy w (some g)) (p : Addr) (hp : a.heap.size ≤ p.block) (u : Value) : a.grownBy (w.setCell p u) (some g) := by
  refine ⟨h.os, h.tape, h.output, by simpa using h.size, fun j hj hn => ?_⟩
  exact (Below.heap_setCell w p u j (fun e => by subst e; omega)).trans (h.block j hj hn)
theorem turn_set3 (h : a.grownBy w (some g)) (i j k : Nat) (u v x : Value) : a.grownBy (((w.setCell ⟨g, i, none⟩ u).setCell ⟨g, j, none⟩ v).setCell ⟨g, k, none⟩ x) (some g) := turn_set (turn_set (turn_set h i u) j v) k x
theorem turn_alloc (h : a.grownBy w r) (o : Obj) : a.grownBy (w.alloc o) r := turn_next h ((Below.refl _ _).alloc (Nat.le_refl _) _)
theorem turn_trans (h : a.grownBy w r) (k : w.grownBy w1 r) : a.grownBy w1 r :=
  ⟨k.os.trans h.os, k.tape.trans h.tape, k.output.trans h.output, Nat.le_trans h.size k.size, fun i hi hn => (k.block i (Nat.lt_of_lt_of_le hi h.size) hn).trans (h.block i hi hn)⟩
theorem turn_under (h : a.grownBy w (some g)) {B : Nat} (hB : B ≤ g) (hBa : B ≤ a.heap.size) : Below B a w :=
  ⟨h.os, h.tape, h.output, h.size, fun i hi => h.block i (by omega) (fun e => by injection e with e; omega)⟩
end
theorem Blk.turn {a w : World} {g b : Nat} {t : TypeId} {cs : Array Value} (h : Blk a b t cs) (hg : a.grownBy w (some g)) (hn : b ≠ g) : Blk w b t cs := (hg.block b h.lt (fun e => hn (by injection e))).trans h
theorem Own.turn {a w : World} {g base n c x : Nat} {f : Nat → Int} (h : Own a base (some ⟨x, 0, none⟩) n c f) (hg : a.grownBy w (some g)) (hn : x ≠ g) : Own w base (some ⟨x, 0, none⟩) n c f := by
  obtain ⟨h1, h2, h3⟩ := h
  refine ⟨h1, h2, ?_⟩
  rcases h3 with ⟨h3, _⟩ | ⟨g', cur, hA, hb, hh, hs⟩
  · cases h3
  · injection hA with hA
    injection hA with hA
    subst hA
    exact .inr ⟨x, cur, rfl, hb, (hg.block x (blk_lt hh) (fun e => hn (by injection e))).trans hh, hs⟩
theorem OwnT.bounds {w : World} {base n c g : Nat} {F : Nat → Fr} (h : OwnT w base (some ⟨g, 0, none⟩) n c F) : base ≤ g ∧ g < w.heap.size := by
  obtain ⟨_, _, h | ⟨g', cur, hA, hb, hg, _⟩⟩ := h
  · cases h.1
  · injection hA with hA; injection hA with hA; subst hA; exact ⟨hb, blk_lt hg⟩
end Go.Proofs.Ytjkbjbikofindaa

namespace Go.Proofs.Ytjkbjbikofindaa
set_option maxRecDepth 100000
open Go.RowKit
set_option linter.unusedVariables false

theorem ret_i64 {a b : Int} (h : a = b) : Ending.returned (.int .i64 a) = Ending.returned (.int .i64 b) := by rw [h]
theorem ret_bool {a b : Bool} (h : a = b) : Ending.returned (.bool a) = Ending.returned (.bool b) := by rw [h]

theorem isShift_any (s : Int) (w : World) :
    Calls Try.prog 44 #[.int .i64 s] w fun e w' => e = .returned (.bool (shB s)) ∧ w = w' := by
  by_cases h1 : 3 ≤ s
  · by_cases h2 : s ≤ 8
    · go_enter Try.func44, Try.ntmps44
      go_wp2
      go_ret
      exact ⟨ret_bool (by simp [shB]; omega), rfl⟩
    · go_enter Try.func44, Try.ntmps44
      go_wp2
      go_ret
      exact ⟨ret_bool (by simp [shB]; omega), rfl⟩
  · go_enter Try.func44, Try.ntmps44
    go_wp2
    go_ret
    exact ⟨ret_bool (by simp [shB]; omega), rfl⟩

theorem pw_pos (k : Nat) : 0 < (2 : Int) ^ k := Int.pow_pos (by decide)
theorem pw_bd {k : Nat} (h : k ≤ 8) : (2 : Int) ^ k ≤ 256 := by
  rcases k with _|_|_|_|_|_|_|_|_|k
  all_goals first | decide | omega

theorem size_yes (k : Nat) (V1 V2 : Value) (w : World) (h1 : 3 ≤ k) (h2 : k ≤ 8) :
    Calls Try.prog 67 #[.agg #[.int .i64 k, V1, V2]] w fun e w' => e = .returned (.int .i64 (2 ^ k)) ∧ Below w.heap.size w w' := by
  have h : shB k = true := by simp [shB]; omega
  have H := Lib.hid h
  have p0 := pw_pos k
  have p1 := pw_bd h2
  clear h
  go_enter Try.func67, Try.ntmps67
  go_wp2_with (go_at_call 44; refine (isShift_any _ _).mono ?_; rintro e w' ⟨rfl, rfl⟩; rw [H.out])
  go_ret
  exact ⟨rfl, (Below.refl _ _).alloc (Nat.le_refl _) _⟩

theorem size_no (s : Int) (V1 V2 : Value) (w : World) (h : shB s = false) :
    Calls Try.prog 67 #[.agg #[.int .i64 s, V1, V2]] w fun e w' => e = .returned (.int .i64 0) ∧ Below w.heap.size w w' := by
  have H := Lib.hid h
  clear h
  go_enter Try.func67, Try.ntmps67
  go_wp2_with (go_at_call 44; refine (isShift_any _ _).mono ?_; rintro e w' ⟨rfl, rfl⟩; rw [H.out])
  go_ret
  exact ⟨rfl, (Below.refl _ _).alloc (Nat.le_refl _) _⟩

/-- Whether a space has numbers: a permitted shift and at most 64 frames. -/
def numB (s : Int) (n : Nat) : Bool := shB s && decide (n ≤ 64)

theorem hasNumbers_any (s : Int) (V1 : Value) (A : Option Addr) (n c : Nat) (w : World) :
    Calls Try.prog 66 #[.agg #[.int .i64 s, V1, .slice A n c]] w fun e w' => e = .returned (.bool (numB s n)) ∧ Below w.heap.size w w' := by
  rcases hs : shB s with _ | _
  · have H := Lib.hid hs
    clear hs
    go_enter Try.func66, Try.ntmps66
    go_wp2_with (go_at_call 44; refine (isShift_any _ _).mono ?_; rintro e w' ⟨rfl, rfl⟩; rw [H.out])
    go_ret
    exact ⟨ret_bool (by simp [numB, H.out]), (Below.refl _ _).alloc (Nat.le_refl _) _⟩
  · have H := Lib.hid hs
    clear hs
    by_cases hn : (n : Int) ≤ 64
    · go_enter Try.func66, Try.ntmps66
      go_wp2_with (go_at_call 44; refine (isShift_any _ _).mono ?_; rintro e w' ⟨rfl, rfl⟩; rw [H.out])
      go_ret
      exact ⟨ret_bool (by simp [numB, H.out]; omega), (Below.refl _ _).alloc (Nat.le_refl _) _⟩
    · have hn' : 64 < (n : Int) := by omega
      clear hn
      go_enter Try.func66, Try.ntmps66
      go_wp2_with (go_at_call 44; refine (isShift_any _ _).mono ?_; rintro e w' ⟨rfl, rfl⟩; rw [H.out])
      go_ret
      exact ⟨ret_bool (by simp [numB, H.out]; omega), (Below.refl _ _).alloc (Nat.le_refl _) _⟩

theorem isFrame_any (A : Option Addr) (n c : Nat) (f : Int) (w : World) :
    Calls Try.prog 70 #[.slice A n c, .int .i64 f] w fun e w' => e = .returned (.bool (inB n f)) ∧ w = w' := by
  by_cases h1 : 0 ≤ f
  · by_cases h2 : f < (n : Int)
    · go_enter Try.func70, Try.ntmps70
      go_wp2
      go_ret
      exact ⟨ret_bool (by simp [inB, h1, h2]), rfl⟩
    · go_enter Try.func70, Try.ntmps70
      go_wp2
      go_ret
      exact ⟨ret_bool (by simp [inB]; omega), rfl⟩
  · go_enter Try.func70, Try.ntmps70
    go_wp2
    go_ret
    exact ⟨ret_bool (by simp [inB]; omega), rfl⟩
end Go.Proofs.Ytjkbjbikofindaa

namespace Go.Proofs.Ytjkbjbikofindaa
set_option maxRecDepth 100000
open Go.RowKit
set_option linter.unusedVariables false

/-- The errors of chapter 3: 1, the shift or the number of frames is not permitted; 2, outside. -/
def ofE (s : Int) (n : Nat) (a : Int) : Int := if numB s n = false then 1 else if a < 0 ∨ n * 2 ^ s.toNat ≤ a then 2 else 0
def ofF (s : Int) (n : Nat) (a : Int) : Int := if ofE s n a = 0 then a / 2 ^ s.toNat else 0
def ofO (s : Int) (n : Nat) (a : Int) : Int := if ofE s n a = 0 then a % 2 ^ s.toNat else 0

def Gives3 (x y z : Int) (w : World) (e : Ending) (w' : World) : Prop := e = .returned (.tuple #[.int .i64 x, .int .i64 y, .int .i64 z]) ∧ Below w.heap.size w w'
def Gives2 (x y : Int) (w : World) (e : Ending) (w' : World) : Prop := e = .returned (.tuple #[.int .i64 x, .int .i64 y]) ∧ Below w.heap.size w w'

theorem numB_yes {s : Int} {n : Nat} (h : numB s n = true) : ∃ k : Nat, s = k ∧ 3 ≤ k ∧ k ≤ 8 ∧ n ≤ 64 := by
  simp [numB, shB] at h
  exact ⟨s.toNat, by omega, by omega, by omega, h.2⟩

theorem prod_bd {n k : Nat} (hn : n ≤ 64) (hk : k ≤ 8) : 0 ≤ (n : Int) * 2 ^ k ∧ (n : Int) * 2 ^ k ≤ 16384 := by
  have p0 := pw_pos k
  have p1 := pw_bd hk
  constructor
  · exact Int.mul_nonneg (by omega) (by omega)
  · have := Int.mul_le_mul (show (n : Int) ≤ 64 by omega) p1 (by omega) (by omega)
    omega

theorem bcell {W w1 : World} {B : Nat} (hb : Below B W w1) : (∀ b o, b < B → w1.cell? ⟨b, o, none⟩ = W.cell? ⟨b, o, none⟩) ∧ (∀ b o, b < B → w1.frozen? ⟨b, o, none⟩ = W.frozen? ⟨b, o, none⟩) :=
  ⟨fun b o h => hb.cell (p := ⟨b, o, none⟩) h, fun b o h => hb.frozen (p := ⟨b, o, none⟩) h⟩

theorem ofInt_i64 (a : Nat) (ha : a < 9223372036854775808) : (BitVec.ofInt 64 (a : Int)).toNat = a := by
  rw [BitVec.ofInt_natCast, BitVec.toNat_ofNat]; exact Nat.mod_eq_of_lt (by omega)
theorem i64_and_nat (a b : Nat) (ha : a < 9223372036854775808) (hb : b < 9223372036854775808) : bits .and .i64 (a : Int) (b : Int) = ((a &&& b : Nat) : Int) := by
  have hx : a &&& b < 2 ^ 63 := Nat.and_lt_two_pow _ (by omega)
  show IntKind.i64.wrap ((BitVec.ofInt 64 (a : Int) &&& BitVec.ofInt 64 (b : Int)).toNat : Int) = _
  rw [BitVec.toNat_and, ofInt_i64 a ha, ofInt_i64 b hb, IntKind.wrap_i64]
  omega
theorem and_low (a : Int) (k : Nat) (h0 : 0 ≤ a) (h1 : a ≤ 9223372036854775807) (hk : k ≤ 8) : bits .and .i64 a (IntKind.i64.wrap (2 ^ k - 1)) = a % 2 ^ k := by
  obtain ⟨x, rfl⟩ := Int.eq_ofNat_of_zero_le h0
  have p0 := pw_pos k
  have p1 := pw_bd hk
  have e : IntKind.i64.wrap ((2 : Int) ^ k - 1) = ((2 ^ k - 1 : Nat) : Int) := by
    rw [IntKind.wrap_i64]
    have : ((2 ^ k - 1 : Nat) : Int) = (2 : Int) ^ k - 1 := by
      have h3 : ((2 ^ k : Nat) : Int) = (2 : Int) ^ k := by simp
      have h4 : 1 ≤ 2 ^ k := Nat.one_le_two_pow
      omega
    omega
  have hp : (2 ^ k - 1 : Nat) < 9223372036854775808 := by
    have h3 : ((2 ^ k : Nat) : Int) = (2 : Int) ^ k := by simp
    omega
  rw [e, i64_and_nat x _ (by omega) hp, Nat.and_two_pow_sub_one_eq_mod]
  simp

theorem ret3 {a b c a' b' c' : Int} (h1 : a = a') (h2 : b = b') (h3 : c = c') : Ending.returned (.tuple #[.int .i64 a, .int .i64 b, .int .i64 c]) = .returned (.tuple #[.int .i64 a', .int .i64 b', .int .i64 c']) := by rw [h1, h2, h3]

theorem below_box {w w1 : World} {o : Obj} (h : Below (w.alloc o).heap.size (w.alloc o) w1) : Below w.heap.size w w1 := ((Below.refl _ _).alloc (Nat.le_refl _) _).trans (h.mono (by simp))
theorem below_next {B : Nat} {w w1 w2 : World} (h : Below B w w1) (hB : B ≤ w.heap.size) (h2 : Below w1.heap.size w1 w2) : Below B w w2 := h.trans (h2.mono (Nat.le_trans hB h.size))

/-- A box of three cells, where nothing below B has turned since it was made. -/
theorem box3 {w wr : World} {v0 v1 v2 : Value} {t : TypeId} {B : Nat} (hb : Below B (w.alloc (.cells #[v0, v1, v2] t)) wr) (hB : w.heap.size < B) :
    w.heap.size < wr.heap.size ∧ wr.cell? ⟨w.heap.size, 0, none⟩ = some v0 ∧ wr.cell? ⟨w.heap.size, 1, none⟩ = some v1 ∧ wr.cell? ⟨w.heap.size, 2, none⟩ = some v2 ∧
      wr.frozen? ⟨w.heap.size, 0, none⟩ = false ∧ wr.frozen? ⟨w.heap.size, 1, none⟩ = false ∧ wr.frozen? ⟨w.heap.size, 2, none⟩ = false := by
  have hz := hb.size
  simp at hz
  refine ⟨by omega, ?_, ?_, ?_, ?_, ?_, ?_⟩
  · rw [hb.cell (p := ⟨w.heap.size, 0, none⟩) hB]; go_simp
  · rw [hb.cell (p := ⟨w.heap.size, 1, none⟩) hB]; go_simp
  · rw [hb.cell (p := ⟨w.heap.size, 2, none⟩) hB]; go_simp
  · rw [hb.frozen (p := ⟨w.heap.size, 0, none⟩) hB]; go_simp
  · rw [hb.frozen (p := ⟨w.heap.size, 1, none⟩) hB]; go_simp
  · rw [hb.frozen (p := ⟨w.heap.size, 2, none⟩) hB]; go_simp

theorem of_any (s : Int) (V1 : Value) (A : Option Addr) (n c : Nat) (a : Int) (w : World) (a0 : -9223372036854775808 ≤ a) (a1 : a ≤ 9223372036854775807) :
    Calls Try.prog 42 #[.agg #[.int .i64 s, V1, .slice A n c], .int .i64 a] w (Gives3 (ofF s n a) (ofO s n a) (ofE s n a) w) := by
  rcases hn : numB s n with _ | _
  · have e1 : ofE s n a = 1 := by simp [ofE, hn]
    have e2 : ofF s n a = 0 := by simp [ofF, e1]
    have e3 : ofO s n a = 0 := by simp [ofO, e1]
    rw [e1, e2, e3]
    have H := Lib.hid hn
    clear hn e1 e2 e3
    go_enter Try.func42, Try.ntmps42
    go_wp2_with (go_at_call 66; refine (hasNumbers_any _ _ _ _ _ _).mono ?_; rintro e w1 ⟨rfl, hb⟩; rw [H.out]; have HB := Lib.hid hb; clear hb)
    go_ret3
    exact ⟨rfl, below_box HB.out⟩
  · obtain ⟨k, rfl, k1, k2, n1⟩ := numB_yes hn
    have p0 := pw_pos k
    have p1 := pw_bd k2
    obtain ⟨q0, q1⟩ := prod_bd n1 k2
    by_cases h0 : a < 0
    · have e1 : ofE k n a = 2 := by simp [ofE, hn]; omega
      have e2 : ofF k n a = 0 := by simp [ofF, e1]
      have e3 : ofO k n a = 0 := by simp [ofO, e1]
      rw [e1, e2, e3]
      have H := Lib.hid hn
      clear hn e1 e2 e3
      go_enter Try.func42, Try.ntmps42
      go_wp2_with (go_at_call 66; refine (hasNumbers_any _ _ _ _ _ _).mono ?_; rintro e w1 ⟨rfl, hb⟩; rw [H.out]; have HB := Lib.hid hb; clear hb)
      go_ret3
      exact ⟨rfl, below_box HB.out⟩
    · by_cases h2 : (n : Int) * 2 ^ k ≤ a
      · have e1 : ofE k n a = 2 := by simp [ofE, hn]; omega
        have e2 : ofF k n a = 0 := by simp [ofF, e1]
        have e3 : ofO k n a = 0 := by simp [ofO, e1]
        rw [e1, e2, e3]
        have H := Lib.hid hn
        clear hn e1 e2 e3
        go_enter Try.func42, Try.ntmps42
        go_wp2_with (go_at_call 66; refine (hasNumbers_any _ _ _ _ _ _).mono ?_; rintro e w1 ⟨rfl, hb⟩; rw [H.out]; obtain ⟨bc, bf⟩ := bcell hb; have HB := Lib.hid hb; clear hb)
        go_ret3
        exact ⟨rfl, below_box HB.out⟩
      · go_enter Try.func42, Try.ntmps42
        go_wp2_with (go_at_call 66; refine (hasNumbers_any _ _ _ _ _ _).mono ?_; rintro e w1 ⟨rfl, hb⟩; rw [hn]; obtain ⟨bc, bf⟩ := bcell hb; have HB := Lib.hid hb; clear hb)
        have z1 : w.heap.size < w1.heap.size := by have := HB.out.size; simp at this; omega
        have c0 : w1.cell? ⟨w.heap.size, 0, none⟩ = some (.int .i64 k) := by rw [bc _ _ (by simp)]; go_simp
        have c1 : w1.cell? ⟨w.heap.size, 1, none⟩ = some V1 := by rw [bc _ _ (by simp)]; go_simp
        have c2 : w1.cell? ⟨w.heap.size, 2, none⟩ = some (.slice A n c) := by rw [bc _ _ (by simp)]; go_simp
        clear bc bf
        go_region_held3 (fun w' => w'.cell? ⟨w.heap.size, 0, none⟩ = some (.int .i64 k) ∧ w'.cell? ⟨w.heap.size, 1, none⟩ = some V1 ∧ w'.cell? ⟨w.heap.size, 2, none⟩ = some (.slice A n c))
          (first | exact ⟨c0, c1, c2⟩ | exact ⟨(b2.cell (p := ⟨_, 0, none⟩) z1).trans c0, (b2.cell (p := ⟨_, 1, none⟩) z1).trans c1, (b2.cell (p := ⟨_, 2, none⟩) z1).trans c2⟩)
          (first | (go_at_call 67; refine (size_yes k _ _ _ k1 k2).mono ?_; rintro e w2 ⟨rfl, b2⟩))
        have HB2 := Lib.hid b2
        clear b2 c0 c1 c2
        go_wp2
        go_ret3
        have e1 : ofE k n a = 0 := by simp [ofE, hn]; omega
        have e2 : ofF k n a = a / 2 ^ k := by simp [ofF, e1]
        have e3 : ofO k n a = a % 2 ^ k := by simp [ofO, e1]
        exact ⟨ret3 e2.symm ((and_low a k (by omega) a1 k2).trans e3.symm) e1.symm, below_next (below_box HB.out).drew (Nat.le_refl _) HB2.out⟩

theorem ret2 {a b a' b' : Int} (h1 : a = a') (h2 : b = b') : Ending.returned (.tuple #[.int .i64 a, .int .i64 b]) = .returned (.tuple #[.int .i64 a', .int .i64 b']) := by rw [h1, h2]
def baseE (s : Int) (n : Nat) (f : Int) : Int := if numB s n = false then 1 else if inB n f = false then 2 else 0
def baseV (s : Int) (n : Nat) (f : Int) : Int := if baseE s n f = 0 then f * 2 ^ s.toNat else 0

theorem inB_prod {n k : Nat} {f : Int} (h : inB n f = true) (hn : n ≤ 64) (hk : k ≤ 8) : 0 ≤ f * 2 ^ k ∧ f * 2 ^ k ≤ 16384 := by
  obtain ⟨h1, h2⟩ := inB_yes h
  obtain ⟨j, rfl⟩ := Int.eq_ofNat_of_zero_le h1
  exact prod_bd (by omega) hk

def pairE (s : Int) (n : Nat) (f g : Int) : Int := if numB s n = false then 1 else if inB n f = false ∨ inB n g = false then 2 else 0
def pairV (s : Int) (n : Nat) (f g : Int) : Int := if pairE s n f g = 0 then f * n + g else 0

theorem pair_bd {n : Nat} {f g : Int} (h : inB n f = true) (h' : inB n g = true) (hn : n ≤ 64) : 0 ≤ f * n ∧ f * n ≤ 4096 ∧ 0 ≤ g ∧ g < 64 := by
  obtain ⟨h1, h2⟩ := inB_yes h
  obtain ⟨h3, h4⟩ := inB_yes h'
  have := Int.mul_nonneg h1 (show (0 : Int) ≤ n by omega)
  have := Int.mul_le_mul (show f ≤ 64 by omega) (show (n : Int) ≤ 64 by omega) (by omega) (by omega)
  omega

end Go.Proofs.Ytjkbjbikofindaa

namespace Go.Proofs.Ytjkbjbikofindaa
set_option maxRecDepth 100000
open Go.RowKit
set_option linter.unusedVariables false

def unE (s : Int) (n : Nat) (p : Int) : Int := if numB s n = false then 1 else if p < 0 ∨ n * n ≤ p then 2 else 0
def unF (s : Int) (n : Nat) (p : Int) : Int := if unE s n p = 0 then p / n else 0
def unG (s : Int) (n : Nat) (p : Int) : Int := if unE s n p = 0 then p % n else 0

theorem sq_bd {n : Nat} (hn : n ≤ 64) : 0 ≤ (n : Int) * n ∧ (n : Int) * n ≤ 4096 := by
  have := Int.mul_nonneg (show (0 : Int) ≤ n by omega) (show (0 : Int) ≤ n by omega)
  have := Int.mul_le_mul (show (n : Int) ≤ 64 by omega) (show (n : Int) ≤ 64 by omega) (by omega) (by omega)
  omega

theorem or_bit (j q : Nat) (hj : j ≤ 6) (hq : q < 4096) : bits .or .i64 ((2 ^ (j + 1) * q : Nat) : Int) ((2 ^ j : Nat) : Int) = ((2 ^ (j + 1) * q + 2 ^ j : Nat) : Int) := by
  have h1 : 2 ^ j < 2 ^ (j + 1) := Nat.pow_lt_pow_of_lt (by decide) (by omega)
  have h2 : 2 ^ (j + 1) ≤ 128 := by
    have := Nat.pow_le_pow_right (show 0 < 2 by decide) (show j + 1 ≤ 7 by omega)
    omega
  have h3 : 2 ^ (j + 1) * q ≤ 128 * 4096 := Nat.mul_le_mul h2 (by omega)
  have hx : (2 ^ (j + 1) * q ||| 2 ^ j) = 2 ^ (j + 1) * q + 2 ^ j := (Nat.two_pow_add_eq_or_of_lt h1 q).symm
  show IntKind.i64.wrap ((BitVec.ofInt 64 ((2 ^ (j + 1) * q : Nat) : Int) ||| BitVec.ofInt 64 ((2 ^ j : Nat) : Int)).toNat : Int) = _
  rw [BitVec.toNat_or, ofInt_i64 _ (by omega), ofInt_i64 _ (by omega), hx, IntKind.wrap_i64]
  omega

/-- What holds of the parts of p before the bit 2 ^ j / 2 is looked at. -/
def UnAt (n : Nat) (p : Int) (f g b : Value) : Prop :=
  ∃ j q r : Nat, j ≤ 6 ∧ q < 4096 ∧ f = .int .i64 ((2 ^ j * q : Nat) : Int) ∧ g = .int .i64 r ∧ b = .int .i64 ((2 ^ j / 2 : Nat) : Int) ∧ r < 2 ^ j * n ∧ p = ((2 ^ j * q : Nat) : Int) * n + r

theorem UnAt.step0 {n j q r : Nat} {p : Int} (hj : j + 1 ≤ 6) (hq : q < 4096) (hr : r < 2 ^ (j + 1) * n) (hp : p = ((2 ^ (j + 1) * q : Nat) : Int) * n + r) (hlt : r < 2 ^ j * n) (hq2 : 2 * q < 4096) :
    UnAt n p (.int .i64 ((2 ^ (j + 1) * q : Nat) : Int)) (.int .i64 r) (.int .i64 ((2 ^ j / 2 : Nat) : Int)) := by
  refine ⟨j, 2 * q, r, by omega, hq2, ?_, rfl, rfl, hlt, ?_⟩
  · rw [Nat.pow_succ, Nat.mul_assoc]
  · rw [hp, Nat.pow_succ, Nat.mul_assoc]

theorem UnAt.step1 {n j q r : Nat} {p : Int} (hj : j + 1 ≤ 6) (hq : q < 4096) (hr : r < 2 ^ (j + 1) * n) (hp : p = ((2 ^ (j + 1) * q : Nat) : Int) * n + r) (hle : 2 ^ j * n ≤ r) (hq2 : 2 * q + 1 < 4096) :
    UnAt n p (.int .i64 ((2 ^ (j + 1) * q + 2 ^ j : Nat) : Int)) (.int .i64 ((r - 2 ^ j * n : Nat) : Int)) (.int .i64 ((2 ^ j / 2 : Nat) : Int)) := by
  have e : 2 ^ (j + 1) * q + 2 ^ j = 2 ^ j * (2 * q + 1) := by
    rw [Nat.pow_succ, Nat.mul_assoc, Nat.mul_add, Nat.mul_one]
  refine ⟨j, 2 * q + 1, r - 2 ^ j * n, by omega, hq2, by rw [e], rfl, rfl, ?_, ?_⟩
  · rw [Nat.pow_succ, Nat.mul_assoc] at hr
    have e2 : 2 ^ j * (2 * n) = 2 ^ j * n + 2 ^ j * n := by rw [Nat.two_mul, Nat.mul_add]
    omega
  · rw [hp, ← e]
    have h1 : ((r - 2 ^ j * n : Nat) : Int) = (r : Int) - ((2 ^ j * n : Nat) : Int) := by omega
    rw [h1]
    have h2 : ((2 ^ (j + 1) * q + 2 ^ j : Nat) : Int) * n = ((2 ^ (j + 1) * q : Nat) : Int) * n + ((2 ^ j * n : Nat) : Int) := by
      simp only [Int.natCast_add, Int.add_mul, Int.natCast_mul]
    rw [h2]
    omega

theorem UnAt.small {n j q r : Nat} {p : Int} (hp : p = ((2 ^ j * q : Nat) : Int) * n + r) (hn : n ≤ 64) (hn0 : 0 < n) (h : p < 4096) : q < 4096 ∧ 2 ^ j * q < 4096 := by
  have h1 : 2 ^ j * q ≤ 2 ^ j * q * n := Nat.le_mul_of_pos_right _ hn0
  have h2 : q ≤ 2 ^ j * q := Nat.le_mul_of_pos_left _ (Nat.two_pow_pos j)
  have h3 : ((2 ^ j * q : Nat) : Int) * n = ((2 ^ j * q * n : Nat) : Int) := by rw [Int.natCast_mul (2 ^ j * q) n]
  omega

end Go.Proofs.Ytjkbjbikofindaa

namespace Go.Proofs.Ytjkbjbikofindaa
set_option maxRecDepth 100000
open Go.RowKit
set_option linter.unusedVariables false

theorem and_low' (a : Int) (k : Nat) (h0 : 0 ≤ a) (h1 : a ≤ 9223372036854775807) (hk : k ≤ 8) : bits .and .i64 a (2 ^ k - 1) = a % 2 ^ k := by
  have h := and_low a k h0 h1 hk
  have p0 := pw_pos k
  have p1 := pw_bd hk
  rw [IntWalk.i64_in _ (by omega)] at h
  exact h

theorem refShift_any (s : Int) (w : World) :
    Calls Try.prog 36 #[.int .i64 s] w fun e w' => e = .returned (.bool (shB s)) ∧ w = w' := by
  by_cases h1 : 3 ≤ s
  · by_cases h2 : s ≤ 8
    · go_enter Try.func36, Try.ntmps36
      go_wp2
      go_ret
      exact ⟨ret_bool (by simp [shB]; omega), rfl⟩
    · go_enter Try.func36, Try.ntmps36
      go_wp2
      go_ret
      exact ⟨ret_bool (by simp [shB]; omega), rfl⟩
  · go_enter Try.func36, Try.ntmps36
    go_wp2
    go_ret
    exact ⟨ret_bool (by simp [shB]; omega), rfl⟩

def sizeV (s : Int) : Int := if shB s then 2 ^ s.toNat else 0

theorem size_any (s : Int) (V1 V2 : Value) (w : World) :
    Calls Try.prog 67 #[.agg #[.int .i64 s, V1, V2]] w fun e w' => e = .returned (.int .i64 (sizeV s)) ∧ Below w.heap.size w w' := by
  rcases hs : shB s with _ | _
  · have e1 : sizeV s = 0 := by simp [sizeV, hs]
    rw [e1]
    exact size_no s V1 V2 w hs
  · obtain ⟨h1, h2⟩ := shB_yes hs
    have e1 : sizeV s = 2 ^ s.toNat := by simp [sizeV, hs]
    rw [e1]
    have h := size_yes s.toNat V1 V2 w (by omega) (by omega)
    rw [Int.toNat_of_nonneg (by omega)] at h
    exact h

end Go.Proofs.Ytjkbjbikofindaa

namespace Go.Proofs.Ytjkbjbikofindaa
set_option maxRecDepth 100000
open Go.RowKit
set_option linter.unusedVariables false

theorem freeFrame_any (w : World) :
    Calls Try.prog 68 #[] w fun e w' => e = .returned (.agg #[.int .i64 (-1), .int .i64 (-1), .int .i64 (-1)]) ∧ Below w.heap.size w w' := by
  go_enter Try.func68, Try.ntmps68
  go_wp2
  exact bodyPost_ret (v := .agg #[.int .i64 (-1), .int .i64 (-1), .int .i64 (-1)]) (by simp [results, Try.results68, go_sem]) rfl ⟨rfl, (Below.refl _ _).alloc (Nat.le_refl _) _⟩

theorem isNum_any (n : Int) (w : World) :
    Calls Try.prog 45 #[.int .i64 n] w fun e w' => e = .returned (.bool (nfB n)) ∧ w = w' := by
  by_cases h1 : 2 ≤ n
  · by_cases h2 : n ≤ 64
    · go_enter Try.func45, Try.ntmps45
      go_wp2
      go_ret
      exact ⟨ret_bool (by simp [nfB]; omega), rfl⟩
    · go_enter Try.func45, Try.ntmps45
      go_wp2
      go_ret
      exact ⟨ret_bool (by simp [nfB]; omega), rfl⟩
  · go_enter Try.func45, Try.ntmps45
    go_wp2
    go_ret
    exact ⟨ret_bool (by simp [nfB]; omega), rfl⟩

theorem frame_info : (Try.prog.info? 61).map (fun i => (i.zero, i.size, i.bytes)) = some (some (.agg #[.int .i64 0, .int .i64 0, .int .i64 0]), 3, 24) := by kernel_rfl

theorem run_make_rowN {P : Program} (t e : TypeId) (i : TypeInfo) (z : Value) (ht : P.underlying t = some (.slice e)) (hi : P.info? e = some i) (hz : i.zero = some z)
    (kl kc : IntKind) (n c : Nat) (hnc : n ≤ c) (hbytes : i.bytes * c ≤ 281474976710656) (h63 : c ≤ 9223372036854775807) (w : World) :
    (Instr.makeSlice t (.int kl (n : Int)) (.int kc (c : Int))).run P w = .ok (.slice (some ⟨w.heap.size, 0, none⟩) n c) (w.alloc (.cells (madeCells z.cells (c * i.size)) e)) := by
  have hb : (i.bytes : Int) * (c : Int) ≤ 281474976710656 := by
    have h : ((i.bytes * c : Nat) : Int) ≤ 281474976710656 := by omega
    rwa [Int.natCast_mul] at h
  have hr := run_make (P := P) w t e i z ht hi hz kl kc n c (by omega) (by omega) hb (by omega)
  simp only [Int.toNat_natCast] at hr
  exact hr

theorem prod_cast (n k : Nat) : ((n * 2 ^ k : Nat) : Int) = (n : Int) * 2 ^ k := by simp
theorem prod_le {n k : Nat} (hn : n ≤ 64) (hk : k ≤ 8) : n * 2 ^ k ≤ 16384 := by
  have h := (prod_bd hn hk).2
  rw [← prod_cast] at h
  omega
theorem make_words {n k : Nat} (hn : n ≤ 64) (hk : k ≤ 8) (w : World) :
    (Instr.makeSlice 22 (.int .i64 ((n : Int) * 2 ^ k)) (.int .i64 ((n : Int) * 2 ^ k))).run Try.prog w = .ok (.slice (some ⟨w.heap.size, 0, none⟩) (n * 2 ^ k) (n * 2 ^ k)) (w.alloc (.cells (madeCells #[.int .u64 0] (n * 2 ^ k)) 28)) := by
  have h := run_make_row' (P := Try.prog) 22 28 (.int .u64 0) 8 Try.underlying22 word_info rfl .i64 .i64 (n * 2 ^ k) (by have := prod_le hn hk; omega) (by have := prod_le hn hk; omega) w
  rw [prod_cast] at h
  exact h
theorem made_own (w : World) (n : Nat) (hn : n ≤ 16384) : Own (w.alloc (.cells (madeCells #[.int .u64 0] n) 28)) w.heap.size (some ⟨w.heap.size, 0, none⟩) n n (fun _ => 0) := by
  refine ⟨Nat.le_refl _, by simp only [maxLen]; omega, .inr ⟨w.heap.size, _, rfl, Nat.le_refl _, heap_alloc_new w _, by simp [size_madeCells], fun j hj => ?_⟩⟩
  simp [madeCells, hj, Nat.mod_one]

theorem made_ownAt (w : World) (s : Nat) (hs : w.heap.size = s) (n : Nat) (hn : n ≤ 16384) : Own (w.alloc (.cells (madeCells #[.int .u64 0] n) 28)) s (some ⟨s, 0, none⟩) n n (fun _ => 0) := by
  subst hs
  exact made_own w n hn

/-- What holds while the entries of a new table are written. -/
def NewAt (w W : World) (g n : Nat) (i : Value) (wr : World) : Prop :=
  ∃ t : Nat, t ≤ n ∧ i = .int .i64 t ∧ OwnT wr g (some ⟨g, 0, none⟩) n n (fun j => if j < t then frFree else frZero) ∧ Below g W wr

/-- A new space: n free frames, their words 0. -/
def NewSp (k n : Nat) (w : World) (e : Ending) (w' : World) : Prop :=
  ∃ A A', e = .returned (.tuple #[.agg #[.int .i64 k, .slice A (n * 2 ^ k) (n * 2 ^ k), .slice A' n n], .int .i64 0]) ∧
    Own w' w.heap.size A (n * 2 ^ k) (n * 2 ^ k) (fun _ => 0) ∧ OwnT w' w.heap.size A' n n (fun _ => frFree) ∧ Below w.heap.size w w'

end Go.Proofs.Ytjkbjbikofindaa

namespace Go.Proofs.Ytjkbjbikofindaa
set_option maxRecDepth 100000
open Go.RowKit
set_option linter.unusedVariables false

/-- What the region that makes a space leaves: its box p, its words x, its table y, all new. -/
def MadeAt (w W : World) (k n : Nat) (F : Nat → Fr) (p x y : Nat) (wx : World) : Prop :=
  W.heap.size ≤ p ∧ p ≠ x ∧ p ≠ y ∧ x ≠ y ∧ Blk wx p 25 #[.int .i64 k, .slice (some ⟨x, 0, none⟩) (n * 2 ^ k) (n * 2 ^ k), .slice (some ⟨y, 0, none⟩) n n] ∧
    Own wx W.heap.size (some ⟨x, 0, none⟩) (n * 2 ^ k) (n * 2 ^ k) (fun _ => 0) ∧ OwnT wx W.heap.size (some ⟨y, 0, none⟩) n n F ∧ Below W.heap.size W wx

def MadeSome (w W : World) (k n : Nat) (v : Value) (wx : World) : Prop := ∃ p x y, v = .pointer (some ⟨p, 0, none⟩) ∧ MadeAt w W k n (fun _ => frZero) p x y wx

/-- What holds while the reference writes the entries of a new table. -/
def NewRAt (w W : World) (k n p x y : Nat) (i : Value) (wr : World) : Prop := ∃ t : Nat, t ≤ n ∧ i = .int .i64 t ∧ MadeAt w W k n (fun j => if j < t then frFree else frZero) p x y wr

theorem heap3_0 (W : World) (a b c : Obj) : (((W.alloc a).alloc b).alloc c).drew.heap[W.heap.size]? = some a := by
  show (((W.alloc a).alloc b).alloc c).heap[W.heap.size]? = some a
  rw [Below.heap_alloc _ _ _ (by simp; omega), Below.heap_alloc _ _ _ (by simp), heap_alloc_new]
theorem heap3_1 (W : World) (a b c : Obj) : (((W.alloc a).alloc b).alloc c).drew.heap[W.heap.size + 1]? = some b := by
  show (((W.alloc a).alloc b).alloc c).heap[W.heap.size + 1]? = some b
  have h : ((W.alloc a).alloc b).heap[(W.alloc a).heap.size]? = some b := heap_alloc_new (W.alloc a) b
  have e : (W.alloc a).heap.size = W.heap.size + 1 := by simp
  rw [Below.heap_alloc _ _ _ (by simp), ← e]
  exact h
theorem heap3_2 (W : World) (a b c : Obj) : (((W.alloc a).alloc b).alloc c).drew.heap[W.heap.size + 1 + 1]? = some c := by
  show (((W.alloc a).alloc b).alloc c).heap[W.heap.size + 1 + 1]? = some c
  have h : (((W.alloc a).alloc b).alloc c).heap[((W.alloc a).alloc b).heap.size]? = some c := heap_alloc_new _ _
  have e : ((W.alloc a).alloc b).heap.size = W.heap.size + 1 + 1 := by simp
  rw [← e]
  exact h
theorem below3 (W : World) (a b c : Obj) : Below W.heap.size W (((W.alloc a).alloc b).alloc c).drew :=
  ((((Below.refl _ _).alloc (Nat.le_refl _) _).alloc (by simp) _).alloc (by simp; omega) _).drew

theorem made_close {w W wx : World} {k n p x y : Nat} (hn : n ≤ 64) (hk : k ≤ 8) (hp : wx.heap[p]? = some (.cells #[.int .i64 k, .slice (some ⟨x, 0, none⟩) (n * 2 ^ k) (n * 2 ^ k), .slice (some ⟨y, 0, none⟩) n n] 25 (0, 0)))
    (hx : wx.heap[x]? = some (.cells (madeCells #[.int .u64 0] (n * 2 ^ k)) 28 (0, 0))) (hy : wx.heap[y]? = some (.cells (madeCells #[.int .i64 0, .int .i64 0, .int .i64 0] (n * 3)) 61 (0, 0)))
    (h1 : W.heap.size ≤ p) (h2 : W.heap.size ≤ x) (h3 : W.heap.size ≤ y) (h4 : p ≠ x) (h5 : p ≠ y) (h6 : x ≠ y) (hb : Below W.heap.size W wx) : MadeSome w W k n (.pointer (some ⟨p, 0, none⟩)) wx := by
  have hl := prod_le hn hk
  refine ⟨p, x, y, rfl, h1, h4, h5, h6, hp, ⟨Nat.le_refl _, by simp only [maxLen]; omega, .inr ⟨x, _, rfl, h2, hx, by simp [size_madeCells], fun j hj => ?_⟩⟩, ⟨Nat.le_refl _, by simp only [maxLen]; omega, .inr ⟨y, _, rfl, h3, hy, by simp [size_madeCells], fun j hj => ?_⟩⟩, hb⟩
  · simp [madeCells, hj, Nat.mod_one]
  · have e0 : j * 3 < n * 3 := by omega
    have e1 : j * 3 + 1 < n * 3 := by omega
    have e2 : j * 3 + 2 < n * 3 := by omega
    have m0 : j * 3 % 3 = 0 := by omega
    have m1 : (j * 3 + 1) % 3 = 1 := by omega
    have m2 : (j * 3 + 2) % 3 = 2 := by omega
    simp [madeCells, e0, e1, e2, m0, m1, m2, frZero]

set_option maxRecDepth 100000 in
set_option maxHeartbeats 1000000 in
theorem refNew_yes (k n : Nat) (w : World) (h1 : 3 ≤ k) (h2 : k ≤ 8) (h3 : 2 ≤ n) (h4 : n ≤ 64) :
    Calls Try.prog 20 #[.int .i64 k, .int .i64 n] w (NewSp k n w) := by
  have hs : shB k = true := by simp [shB]; omega
  obtain ⟨i0, hi0, hz0, hz1, hz2⟩ := info_parts frame_info
  have hmk := fun W => run_make_rowN (P := Try.prog) 23 61 i0 _ Try.underlying23 hi0 hz0 .i64 .i64 n n (Nat.le_refl _) (by rw [hz2]; omega) (by omega) W
  rw [hz1] at hmk
  have hmw := fun W => make_words (n := n) (k := k) h4 h2 W
  obtain ⟨q0, q1⟩ := prod_bd h4 h2
  have H := Lib.hid hs
  clear hs
  obtain ⟨W, hW⟩ : ∃ W, W = w.alloc (.cells #[.int .i64 0, .slice none 0 0, .slice none 0 0] 25) := ⟨_, rfl⟩
  have hz : W.heap.size = w.heap.size + 1 := by rw [hW]; simp
  have HW := Lib.hid hW
  have HZ := Lib.hid hz
  clear hW hz
  go_enter Try.func20, Try.ntmps20
  go_upto_region 3 with (first
    | (go_at_call 36; refine (refShift_any _ _).mono ?_; rintro e w' ⟨rfl, rfl⟩; rw [H.out]))
  rw [← HW.out]
  go_cut [6] (fun s wx => MadeSome w W k n s wx)
  case first =>
    go_region
    all_goals
      go_wp2
      go_meet
      exact made_close h4 h2 (by first | exact heap3_0 _ _ _ _ | exact heap3_1 _ _ _ _ | exact heap3_2 _ _ _ _) (by first | exact heap3_0 _ _ _ _ | exact heap3_1 _ _ _ _ | exact heap3_2 _ _ _ _) (by first | exact heap3_0 _ _ _ _ | exact heap3_1 _ _ _ _ | exact heap3_2 _ _ _ _) (by omega) (by omega) (by omega) (by omega) (by omega) (by omega) (below3 _ _ _ _)
  case rest =>
    obtain ⟨p, x, y, rfl, hp, h4', h5, h6, hbox, hx, hy, hb⟩ := hcut
    have z0 : w.heap.size < W.heap.size := by have := HZ.out; omega
    have g1 : y < wc.heap.size := by obtain ⟨_, _, h | ⟨g, cur, hA, _, hg, _⟩⟩ := hy; (· cases h.1); injection hA with hA; injection hA with hA; subst hA; exact blk_lt hg
    have p0 := hbox.cell 0
    have p1 := hbox.cell 1
    have p2 := hbox.cell 2
    simp at p0 p1 p2
    have st : MadeAt w W k n (fun j => if j < 0 then frFree else frZero) p x y wc := ⟨hp, h4', h5, h6, hbox, hx, hy.congr (fun j _ => by simp), hb⟩
    have ST := Lib.hid st
    clear st hx hy hb hbox
    go_wp2
    go_loopw [7, 32] (fun _ i wr => NewRAt w W k n p x y i wr) (fun _ i _ => n - (intOf i).toNat)
    case atStart => exact ⟨0, by omega, rfl, ST.out⟩
    case round =>
      obtain ⟨t, ht, rfl, hp, h4', h5, h6, hbox, hx, hy, hb⟩ := hrel
      have p0 := hbox.cell 0
      have p1 := hbox.cell 1
      have p2 := hbox.cell 2
      simp at p0 p1 p2
      have HX := Lib.hid hx
      have HP := Lib.hid hbox
      have HB := Lib.hid hb
      by_cases hlt : t < n
      · obtain ⟨g1, g2, c0, c1, c2, f0, f1, f2, hnew, _⟩ := hy.spotAt t hlt frFree
        have hnew2 := hnew.congr (F' := fun j => if j < t + 1 then frFree else frZero) (fun j hj => by
          by_cases e : j = t
          · subst e; simp
          · by_cases e2 : j < t
            · rw [if_neg e, if_pos e2, if_pos (by omega)]
            · rw [if_neg e, if_neg e2, if_neg (by omega)])
        have HN := Lib.hid hnew2
        have hlt2 : (t : Int) < n := by omega
        clear hnew hnew2 hx hbox hb hy
        go_wp2
        go_roundw
        case rel => exact ⟨t + 1, by omega, by go_num, hp, h4', h5, h6, HP.out.far3 h5 _ _ _, HX.out.apart3 h6 _ _ _, HN.out, below_set3 HB.out g1 _ _ _⟩
        case measure => simp [intOf]; omega
      · obtain rfl : t = n := by omega
        have HY := Lib.hid (hy.congr (F' := fun _ => frFree) (fun j hj => if_pos hj))
        obtain ⟨z2, c0, c1, c2, f0, f1, f2⟩ := box3 (w := w) (wr := wr) (v0 := .int .i64 0) (v1 := .slice none 0 0) (v2 := .slice none 0 0) (t := 25) (B := W.heap.size) (by rw [← HW.out]; exact hb) z0
        clear hx hbox hb hy hlt ht
        go_wp2
        have hbw : Below w.heap.size w wr := by
          have h1 := HB.out
          rw [HW.out] at h1
          exact below_box h1
        refine bodyPost_ret (v := .tuple #[.agg #[.int .i64 k, .slice (some ⟨x, 0, none⟩) (t * 2 ^ k) (t * 2 ^ k), .slice (some ⟨y, 0, none⟩) t t], .int .i64 0]) (by simp [results, Try.results20, go_sem, c0, c1, c2]) rfl ⟨_, _, rfl, ?_, ?_, ?_⟩
        · exact (HX.out.put3 z0 _ _ _).lower (Nat.le_of_lt z0)
        · exact (HY.out.put3 z0 _ _ _).lower (Nat.le_of_lt z0)
        · exact below_put3 hbw (Nat.le_refl _) _ _ _

theorem refNew_no (s n : Int) (w : World) (h : shB s = false ∨ nfB n = false) :
    Calls Try.prog 20 #[.int .i64 s, .int .i64 n] w fun e w' => e = .returned (.tuple #[.agg #[.int .i64 0, .slice none 0 0, .slice none 0 0], .int .i64 1]) ∧ Below w.heap.size w w' := by
  rcases hs : shB s with _ | _
  · have H := Lib.hid hs
    clear hs h
    go_enter Try.func20, Try.ntmps20
    go_wp2_with (go_at_call 36; refine (refShift_any _ _).mono ?_; rintro e w' ⟨rfl, rfl⟩; rw [H.out])
    exact bodyPost_ret (v := .tuple #[.agg #[.int .i64 0, .slice none 0 0, .slice none 0 0], .int .i64 1]) (by simp [results, Try.results20, go_sem]) rfl ⟨rfl, (Below.refl _ _).alloc (Nat.le_refl _) _⟩
  · have hf : nfB n = false := by
      rcases h with h | h
      · rw [hs] at h; cases h
      · exact h
    have hf' : ¬ (2 ≤ n ∧ n ≤ 64) := by
      intro h
      have : nfB n = true := by simp [nfB]; omega
      rw [hf] at this; cases this
    have H := Lib.hid hs
    clear hs hf h
    by_cases hn : n < 2
    · go_enter Try.func20, Try.ntmps20
      go_wp2_with (go_at_call 36; refine (refShift_any _ _).mono ?_; rintro e w' ⟨rfl, rfl⟩; rw [H.out])
      exact bodyPost_ret (v := .tuple #[.agg #[.int .i64 0, .slice none 0 0, .slice none 0 0], .int .i64 1]) (by simp [results, Try.results20, go_sem]) rfl ⟨rfl, (Below.refl _ _).alloc (Nat.le_refl _) _⟩
    · have hn2 : 64 < n := by omega
      clear hf'
      go_enter Try.func20, Try.ntmps20
      go_wp2_with (go_at_call 36; refine (refShift_any _ _).mono ?_; rintro e w' ⟨rfl, rfl⟩; rw [H.out])
      exact bodyPost_ret (v := .tuple #[.agg #[.int .i64 0, .slice none 0 0, .slice none 0 0], .int .i64 1]) (by simp [results, Try.results20, go_sem]) rfl ⟨rfl, (Below.refl _ _).alloc (Nat.le_refl _) _⟩
end Go.Proofs.Ytjkbjbikofindaa

namespace Go.Proofs.Ytjkbjbikofindaa
set_option maxRecDepth 100000
open Go.RowKit
set_option linter.unusedVariables false

theorem mod_pos {v n : Int} (h : 0 ≤ v) : v.tmod n = v % n := Int.tmod_eq_emod_of_nonneg h
theorem mod_neg {v n : Int} (h : v < 0) (hn : 1 ≤ n) : v.tmod n = if v % n = 0 then 0 else v % n - n := by
  have e : v.tmod n = -((-v) % n) := by
    rw [← Int.tmod_eq_emod_of_nonneg (by omega : 0 ≤ -v), Int.neg_tmod, Int.neg_neg]
  rw [e, Int.neg_emod]
  split <;> split <;> first | omega | (rename_i a b; exfalso; first | exact b (Int.emod_eq_zero_of_dvd a) | exact a (Int.dvd_of_emod_eq_zero b)) | skip
  all_goals (have := Int.natAbs_of_nonneg (by omega : 0 ≤ n); omega)

theorem mod_neg_lo {v n : Int} (h : v < 0) (hn : 1 ≤ n) : -n < v.tmod n := by
  have := Int.emod_nonneg v (show n ≠ 0 by omega)
  rw [mod_neg h hn]; split <;> omega
theorem mod_neg_hi {v n : Int} (h : v < 0) (hn : 1 ≤ n) : v.tmod n ≤ 0 := by
  have := Int.emod_lt_of_pos v (show 0 < n by omega)
  rw [mod_neg h hn]; split <;> omega
theorem mod_end0 {v n : Int} (h : v < 0) (hn : 1 ≤ n) (ht : 0 ≤ v.tmod n) : v.tmod n = v % n := by
  have := Int.emod_lt_of_pos v (show 0 < n by omega)
  rw [mod_neg h hn] at ht ⊢; split at ht <;> split <;> omega
theorem mod_end1 {v n : Int} (h : v < 0) (hn : 1 ≤ n) (ht : v.tmod n < 0) : v.tmod n + n = v % n := by
  rw [mod_neg h hn] at ht ⊢; split at ht <;> split <;> omega

theorem mod_any (v n : Int) (hn : 1 ≤ n) (hn' : n ≤ 9223372036854775807) (h0 : -9223372036854775808 ≤ v) (h1 : v ≤ 9223372036854775807) (w : World) :
    Calls Try.prog 11 #[.int .i64 v, .int .i64 n] w fun e w' => e = .returned (.int .i64 (v % n)) ∧ w = w' := by
  by_cases h : 0 ≤ v
  · have := Int.emod_nonneg v (show n ≠ 0 by omega)
    go_enter Try.func11, Try.ntmps11
    go_wp2
    go_ret
    exact ⟨ret_i64 rfl, rfl⟩
  · have h' : v < 0 := by omega
    have t0 := mod_neg_lo h' hn
    have t1 := mod_neg_hi h' hn
    by_cases ht : 0 ≤ v.tmod n
    · go_enter Try.func11, Try.ntmps11
      go_wp2
      go_ret
      exact ⟨ret_i64 (mod_end0 h' hn ht), rfl⟩
    · have ht' : v.tmod n < 0 := by omega
      go_enter Try.func11, Try.ntmps11
      go_wp2
      go_ret
      exact ⟨ret_i64 (mod_end1 h' hn ht'), rfl⟩



theorem bounds_i64 {a : Int} (h : (Lit.int .i64 a).wf = true) : -9223372036854775808 ≤ a ∧ a ≤ 9223372036854775807 := by
  have hmin : IntKind.i64.min = -9223372036854775808 := rfl
  have hmax : IntKind.i64.max = 9223372036854775807 := rfl
  simp only [Lit.wf, Bool.and_eq_true, decide_eq_true_eq, hmin, hmax] at h
  exact h


end Go.Proofs.Ytjkbjbikofindaa

namespace Go.Proofs.Ytjkbjbikofindaa
set_option maxRecDepth 100000
open Go.RowKit

theorem run_neq_frame (x0 x1 x2 y0 y1 y2 : Int) (w : World) :
    (binOp .neq 61 (.agg #[.int .i64 x0, .int .i64 x1, .int .i64 x2]) (.agg #[.int .i64 y0, .int .i64 y1, .int .i64 y2])).run Try.prog w = .ok (.bool (!(frB ⟨x0, x1, x2⟩ ⟨y0, y1, y2⟩))) w := by
  go_simp
  by_cases h0 : x0 = y0
  · by_cases h1 : x1 = y1
    · by_cases h2 : x2 = y2
      · simp [frB, h0, h1, h2]
      · simp [frB, h0, h1, h2]
    · simp [frB, h0, h1]
  · simp [frB, h0]
end Go.Proofs.Ytjkbjbikofindaa
