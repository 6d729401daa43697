/-
  Rows of spaces and of increments; what Alloc and Drop answer, as values. (Made by mklaw-s9.py.)
-/
import Derived.Test.YthcfcciemjkilaaDoorAwk
import Derived.Test.YthcfcciemjkilaaDoorMPoolw
import Derived.Test.YthcfcciemjkilaaDoorMSpoilt
namespace Go.Proofs.YthcfcciemjkilaaDoor
open Go.RowKit
set_option maxRecDepth 100000
set_option linter.unusedVariables false

/-- The j-th space of a slice of spaces in block Q, not too great. -/
def ZAt9 (W : World) (Q j : Nat) : Prop := ∃ (s : Int) (A : Option Addr) (nw c : Nat) (A' : Option Addr) (n c' : Nat), nw ≤ 20000 ∧ n ≤ 80 ∧ W.cell? ⟨Q, j * 3, none⟩ = some (.int .i64 s) ∧ W.cell? ⟨Q, j * 3 + 1, none⟩ = some (.slice A nw c) ∧ W.cell? ⟨Q, j * 3 + 2, none⟩ = some (.slice A' n c') ∧ YV W s A nw c A' n c'
theorem zat9_3 {X L : World} {s0 s1 s2 : Int} {A0 A0' A1 A1' A2 A2' : Option Addr} {n0 c0 m0 d0 n1 c1 m1 d1 n2 c2 m2 d2 : Nat} (hc : Below X.heap.size X L)
    (v0 : YV L s0 A0 n0 c0 A0' m0 d0) (v1 : YV L s1 A1 n1 c1 A1' m1 d1) (v2 : YV L s2 A2 n2 c2 A2' m2 d2)
    (b0 : n0 ≤ 20000 ∧ m0 ≤ 80) (b1 : n1 ≤ 20000 ∧ m1 ≤ 80) (b2 : n2 ≤ 20000 ∧ m2 ≤ 80) :
    (∀ j, j < 3 → ZAt9 (L.alloc (.cells #[.int .i64 s0, .slice A0 n0 c0, .slice A0' m0 d0, .int .i64 s1, .slice A1 n1 c1, .slice A1' m1 d1, .int .i64 s2, .slice A2 n2 c2, .slice A2' m2 d2] 30)) L.heap.size j) ∧ L.heap.size < (L.alloc (.cells #[.int .i64 s0, .slice A0 n0 c0, .slice A0' m0 d0, .int .i64 s1, .slice A1 n1 c1, .slice A1' m1 d1, .int .i64 s2, .slice A2 n2 c2, .slice A2' m2 d2] 30)).heap.size ∧ Below X.heap.size X (L.alloc (.cells #[.int .i64 s0, .slice A0 n0 c0, .slice A0' m0 d0, .int .i64 s1, .slice A1 n1 c1, .slice A1' m1 d1, .int .i64 s2, .slice A2 n2 c2, .slice A2' m2 d2] 30)) := by
  obtain ⟨W, hW⟩ : ∃ W, W = L.alloc (.cells #[.int .i64 s0, .slice A0 n0 c0, .slice A0' m0 d0, .int .i64 s1, .slice A1 n1 c1, .slice A1' m1 d1, .int .i64 s2, .slice A2 n2 c2, .slice A2' m2 d2] 30) := ⟨_, rfl⟩
  have hbw : Below L.heap.size L W := by rw [hW]; exact (Below.refl _ _).alloc (Nat.le_refl _) _
  have hq : Blk W L.heap.size 30 #[.int .i64 s0, .slice A0 n0 c0, .slice A0' m0 d0, .int .i64 s1, .slice A1 n1 c1, .slice A1' m1 d1, .int .i64 s2, .slice A2 n2 c2, .slice A2' m2 d2] := by rw [hW]; exact Blk.new _ _ _
  rw [← hW]
  refine ⟨fun j hj => ?_, hq.lt, below_next hc (Nat.le_refl _) hbw⟩
  rcases (by omega : j = 0 ∨ j = 1 ∨ j = 2) with e | e | e <;> subst e
  · exact ⟨_, _, _, _, _, _, _, b0.1, b0.2, hq.cell 0, hq.cell 1, hq.cell 2, v0.next hbw⟩
  · exact ⟨_, _, _, _, _, _, _, b1.1, b1.2, hq.cell 3, hq.cell 4, hq.cell 5, v1.next hbw⟩
  · exact ⟨_, _, _, _, _, _, _, b2.1, b2.2, hq.cell 6, hq.cell 7, hq.cell 8, v2.next hbw⟩
theorem zat9_4 {X L : World} {s0 s1 s2 s3 : Int} {A0 A0' A1 A1' A2 A2' A3 A3' : Option Addr} {n0 c0 m0 d0 n1 c1 m1 d1 n2 c2 m2 d2 n3 c3 m3 d3 : Nat} (hc : Below X.heap.size X L)
    (v0 : YV L s0 A0 n0 c0 A0' m0 d0) (v1 : YV L s1 A1 n1 c1 A1' m1 d1) (v2 : YV L s2 A2 n2 c2 A2' m2 d2) (v3 : YV L s3 A3 n3 c3 A3' m3 d3)
    (b0 : n0 ≤ 20000 ∧ m0 ≤ 80) (b1 : n1 ≤ 20000 ∧ m1 ≤ 80) (b2 : n2 ≤ 20000 ∧ m2 ≤ 80) (b3 : n3 ≤ 20000 ∧ m3 ≤ 80) :
    (∀ j, j < 4 → ZAt9 (L.alloc (.cells #[.int .i64 s0, .slice A0 n0 c0, .slice A0' m0 d0, .int .i64 s1, .slice A1 n1 c1, .slice A1' m1 d1, .int .i64 s2, .slice A2 n2 c2, .slice A2' m2 d2, .int .i64 s3, .slice A3 n3 c3, .slice A3' m3 d3] 30)) L.heap.size j) ∧ L.heap.size < (L.alloc (.cells #[.int .i64 s0, .slice A0 n0 c0, .slice A0' m0 d0, .int .i64 s1, .slice A1 n1 c1, .slice A1' m1 d1, .int .i64 s2, .slice A2 n2 c2, .slice A2' m2 d2, .int .i64 s3, .slice A3 n3 c3, .slice A3' m3 d3] 30)).heap.size ∧ Below X.heap.size X (L.alloc (.cells #[.int .i64 s0, .slice A0 n0 c0, .slice A0' m0 d0, .int .i64 s1, .slice A1 n1 c1, .slice A1' m1 d1, .int .i64 s2, .slice A2 n2 c2, .slice A2' m2 d2, .int .i64 s3, .slice A3 n3 c3, .slice A3' m3 d3] 30)) := by
  obtain ⟨W, hW⟩ : ∃ W, W = L.alloc (.cells #[.int .i64 s0, .slice A0 n0 c0, .slice A0' m0 d0, .int .i64 s1, .slice A1 n1 c1, .slice A1' m1 d1, .int .i64 s2, .slice A2 n2 c2, .slice A2' m2 d2, .int .i64 s3, .slice A3 n3 c3, .slice A3' m3 d3] 30) := ⟨_, rfl⟩
  have hbw : Below L.heap.size L W := by rw [hW]; exact (Below.refl _ _).alloc (Nat.le_refl _) _
  have hq : Blk W L.heap.size 30 #[.int .i64 s0, .slice A0 n0 c0, .slice A0' m0 d0, .int .i64 s1, .slice A1 n1 c1, .slice A1' m1 d1, .int .i64 s2, .slice A2 n2 c2, .slice A2' m2 d2, .int .i64 s3, .slice A3 n3 c3, .slice A3' m3 d3] := by rw [hW]; exact Blk.new _ _ _
  rw [← hW]
  refine ⟨fun j hj => ?_, hq.lt, below_next hc (Nat.le_refl _) hbw⟩
  rcases (by omega : j = 0 ∨ j = 1 ∨ j = 2 ∨ j = 3) with e | e | e | e <;> subst e
  · exact ⟨_, _, _, _, _, _, _, b0.1, b0.2, hq.cell 0, hq.cell 1, hq.cell 2, v0.next hbw⟩
  · exact ⟨_, _, _, _, _, _, _, b1.1, b1.2, hq.cell 3, hq.cell 4, hq.cell 5, v1.next hbw⟩
  · exact ⟨_, _, _, _, _, _, _, b2.1, b2.2, hq.cell 6, hq.cell 7, hq.cell 8, v2.next hbw⟩
  · exact ⟨_, _, _, _, _, _, _, b3.1, b3.2, hq.cell 9, hq.cell 10, hq.cell 11, v3.next hbw⟩

/-- The j-th of a slice of increments in block Q. -/
def IAt9 (W : World) (Q j : Nat) : Prop := ∃ y0 y1 y2 y3 y4 : Int, W.cell? ⟨Q, j * 5, none⟩ = some (.int .i64 y0) ∧ W.cell? ⟨Q, j * 5 + 1, none⟩ = some (.int .i64 y1) ∧ W.cell? ⟨Q, j * 5 + 2, none⟩ = some (.int .i64 y2) ∧ W.cell? ⟨Q, j * 5 + 3, none⟩ = some (.int .i64 y3) ∧ W.cell? ⟨Q, j * 5 + 4, none⟩ = some (.int .i64 y4)
theorem iat9 {X L : World} {x0 x1 x2 x3 x4 x5 x6 x7 x8 x9 x10 x11 x12 x13 x14 : Int} (hc : Below X.heap.size X L) :
    (∀ j, j < 3 → IAt9 (L.alloc (.cells #[.int .i64 x0, .int .i64 x1, .int .i64 x2, .int .i64 x3, .int .i64 x4, .int .i64 x5, .int .i64 x6, .int .i64 x7, .int .i64 x8, .int .i64 x9, .int .i64 x10, .int .i64 x11, .int .i64 x12, .int .i64 x13, .int .i64 x14] 35)) L.heap.size j) ∧ L.heap.size < (L.alloc (.cells #[.int .i64 x0, .int .i64 x1, .int .i64 x2, .int .i64 x3, .int .i64 x4, .int .i64 x5, .int .i64 x6, .int .i64 x7, .int .i64 x8, .int .i64 x9, .int .i64 x10, .int .i64 x11, .int .i64 x12, .int .i64 x13, .int .i64 x14] 35)).heap.size ∧ Below X.heap.size X (L.alloc (.cells #[.int .i64 x0, .int .i64 x1, .int .i64 x2, .int .i64 x3, .int .i64 x4, .int .i64 x5, .int .i64 x6, .int .i64 x7, .int .i64 x8, .int .i64 x9, .int .i64 x10, .int .i64 x11, .int .i64 x12, .int .i64 x13, .int .i64 x14] 35)) := by
  have hq : Blk (L.alloc (.cells #[.int .i64 x0, .int .i64 x1, .int .i64 x2, .int .i64 x3, .int .i64 x4, .int .i64 x5, .int .i64 x6, .int .i64 x7, .int .i64 x8, .int .i64 x9, .int .i64 x10, .int .i64 x11, .int .i64 x12, .int .i64 x13, .int .i64 x14] 35)) L.heap.size 35 #[.int .i64 x0, .int .i64 x1, .int .i64 x2, .int .i64 x3, .int .i64 x4, .int .i64 x5, .int .i64 x6, .int .i64 x7, .int .i64 x8, .int .i64 x9, .int .i64 x10, .int .i64 x11, .int .i64 x12, .int .i64 x13, .int .i64 x14] := Blk.new _ _ _
  refine ⟨fun j hj => ?_, hq.lt, below_alloc9 hc _⟩
  rcases (by omega : j = 0 ∨ j = 1 ∨ j = 2) with e | e | e <;> subst e
  · exact ⟨_, _, _, _, _, hq.cell 0, hq.cell 1, hq.cell 2, hq.cell 3, hq.cell 4⟩
  · exact ⟨_, _, _, _, _, hq.cell 5, hq.cell 6, hq.cell 7, hq.cell 8, hq.cell 9⟩
  · exact ⟨_, _, _, _, _, hq.cell 10, hq.cell 11, hq.cell 12, hq.cell 13, hq.cell 14⟩

/-- What Take gives, as a space that is not too great. -/
theorem take_small {s : Int} {nw n : Nat} {wd : Nat → Int} {F : Nat → Fr} {o b : Int} {w w' : World} {e : Ending} (h : TakeOut s nw wd n F o b w e w') (hw : nw ≤ 20000) (hn : n ≤ 80) :
    ∃ (s' : Int) (A : Option Addr) (nw' c : Nat) (A' : Option Addr) (n' c' : Nat) (f x : Int), e = .returned (.tuple #[.agg #[.int .i64 s', .slice A nw' c, .slice A' n' c'], .int .i64 f, .int .i64 x]) ∧ nw' ≤ 20000 ∧ n' ≤ 80 ∧ YV w' s' A nw' c A' n' c' ∧ Below w.heap.size w w' := by
  rcases h with ⟨x, _, _, he, hb⟩ | ⟨_, f, A1, c1, g, c2, _, he, ho, ht, hb⟩
  · exact ⟨0, none, 0, 0, none, 0, 0, 0, x, he, by decide, by decide, ⟨fun _ => 0, fun _ => frFree, (Own.nil_ _ w.heap.size _).arr, (OwnT.nil_ _ w.heap.size _).tab⟩, hb⟩
  · exact ⟨s, A1, nw, c1, _, n, c2, f, 0, he, hw, hn, ⟨_, _, ho.arr, ht.tab⟩, hb⟩
/-- A new space, an increment, a number and an error. -/
def GivesAl (s : Int) (nw n : Nat) (wd : Nat → Int) (F : Nat → Fr) (i0 i1 i2 i3 i4 a x : Int) (w : World) (e : Ending) (w' : World) : Prop :=
  ∃ (A : Option Addr) (c : Nat) (A' : Option Addr) (c' : Nat), e = .returned (.tuple #[.agg #[.int .i64 s, .slice A nw c, .slice A' n c'], .agg #[.int .i64 i0, .int .i64 i1, .int .i64 i2, .int .i64 i3, .int .i64 i4], .int .i64 a, .int .i64 x]) ∧ Own w' w.heap.size A nw c wd ∧ OwnT w' w.heap.size A' n c' F ∧ Below w.heap.size w w'
theorem all_val (s : Int) (nw : Nat) (wd : Nat → Int) (n : Nat) (F : Nat → Fr) (sq bt fi la wo d : Int) (hnw : nw ≤ 20000) (hn : n ≤ 80) :
    ∃ (s' : Int) (nw' n' : Nat) (wd' : Nat → Int) (F' : Nat → Fr) (i0 i1 i2 i3 i4 a x : Int), nw' ≤ 1048576 ∧ n' ≤ 4096 ∧ ∀ w e w', AllX s nw wd n F sq bt fi la wo d w e w' → GivesAl s' nw' n' wd' F' i0 i1 i2 i3 i4 a x w e w' := by
  by_cases h : allE s nw wd n F sq bt fi la wo d = 0
  · refine ⟨s, nw, n, wd, (allG s n F sq bt fi la wo d).F, sq, bt, (allG s n F sq bt fi la wo d).fi, (allG s n F sq bt fi la wo d).la, wo + d, addrP (allG s n F sq bt fi la wo d).F s.toNat (allG s n F sq bt fi la wo d).fi wo.toNat, 0, by omega, by omega, fun w e w' ht => ?_⟩
    rcases ht with ⟨x, h1, h2, _⟩ | ⟨_, A1, c1, g, c2, he, ho, ht, hb⟩
    · exact absurd (h1.symm.trans h) h2
    · exact ⟨A1, c1, _, c2, he, ho, ht, hb⟩
  · refine ⟨0, 0, 0, fun _ => 0, fun _ => frFree, 0, 0, 0, 0, 0, 0, allE s nw wd n F sq bt fi la wo d, by decide, by decide, fun w e w' ht => ?_⟩
    rcases ht with ⟨x, h1, h2, he, hb⟩ | ⟨h1, _⟩
    · subst h1
      exact ⟨none, 0, none, 0, he, Own.nil_ _ _ _, OwnT.nil_ _ _ _, hb⟩
    · exact absurd h1 h
/-- A new space and an error. -/
def GivesDr (s : Int) (nw n : Nat) (wd : Nat → Int) (F : Nat → Fr) (x : Int) (w : World) (e : Ending) (w' : World) : Prop :=
  ∃ (A : Option Addr) (c : Nat) (A' : Option Addr) (c' : Nat), e = .returned (.tuple #[.agg #[.int .i64 s, .slice A nw c, .slice A' n c'], .int .i64 x]) ∧ Own w' w.heap.size A nw c wd ∧ OwnT w' w.heap.size A' n c' F ∧ Below w.heap.size w w'
theorem drop_val (s : Int) (nw : Nat) (wd : Nat → Int) (n : Nat) (F : Nat → Fr) (sq bt fi la wo : Int) (hnw : nw ≤ 20000) (hn : n ≤ 80) :
    ∃ (s' : Int) (nw' n' : Nat) (wd' : Nat → Int) (F' : Nat → Fr) (x : Int), nw' ≤ 1048576 ∧ n' ≤ 4096 ∧ ∀ w e w', DropX s nw wd n F sq bt fi la wo w e w' → GivesDr s' nw' n' wd' F' x w e w' := by
  by_cases h : drpE s nw wd n F sq bt fi la wo = 0
  · refine ⟨s, nw, n, giveW wd F sq s.toNat n, giveF F sq n, 0, by omega, by omega, fun w e w' ht => ?_⟩
    rcases ht with ⟨x, h1, h2, _⟩ | ⟨_, A1, c1, g, c2, he, ho, ht, hb⟩
    · exact absurd (h1.symm.trans h) h2
    · exact ⟨A1, c1, _, c2, he, ho, ht, hb⟩
  · refine ⟨0, 0, 0, fun _ => 0, fun _ => frFree, drpE s nw wd n F sq bt fi la wo, by decide, by decide, fun w e w' ht => ?_⟩
    rcases ht with ⟨x, h1, h2, he, hb⟩ | ⟨h1, _⟩
    · subst h1
      exact ⟨none, 0, none, 0, he, Own.nil_ _ _ _, OwnT.nil_ _ _ _, hb⟩
    · exact absurd h1 h
end Go.Proofs.YthcfcciemjkilaaDoor
