/-
  Rows of spaces whose words fit 64 bits, and 'near' in every later world. (Made by mkraw-s8.py.)
-/
import Derived.Test.YthcfcciemjkilaaAw8
import Derived.Test.YthcfcciemjkilaaObs
import Derived.Test.YthcfcciemjkilaaMPoolw
import Derived.Test.YthcfcciemjkilaaMSpoilt
import Derived.Test.YthcfcciemjkilaaSet
namespace Go.Proofs.Ythcfcciemjkilaa
open Go.RowKit
set_option maxRecDepth 100000
set_option linter.unusedVariables false

/-- A space whose words fit 64 bits. -/
def YV8 (W : World) (s : Int) (A : Option Addr) (nw c : Nat) (A' : Option Addr) (n c' : Nat) : Prop := ∃ wd F, Arr W W.heap.size A nw c wd ∧ Tab W W.heap.size A' n c' F ∧ U64w nw wd
theorem YV8.next {W W' : World} {s : Int} {A A' : Option Addr} {nw c n c' : Nat} (h : YV8 W s A nw c A' n c') (hb : Below W.heap.size W W') : YV8 W' s A nw c A' n c' := by
  obtain ⟨wd, F, h1, h2, h3⟩ := h
  exact ⟨wd, F, h1.next hb, h2.next hb, h3⟩
/-- The j-th space of a slice of spaces in block Q, not too great. -/
def ZAt8 (W : World) (Q j : Nat) : Prop := ∃ (s : Int) (A : Option Addr) (nw c : Nat) (A' : Option Addr) (n c' : Nat), nw ≤ 20000 ∧ n ≤ 80 ∧ W.cell? ⟨Q, j * 3, none⟩ = some (.int .i64 s) ∧ W.cell? ⟨Q, j * 3 + 1, none⟩ = some (.slice A nw c) ∧ W.cell? ⟨Q, j * 3 + 2, none⟩ = some (.slice A' n c') ∧ YV8 W s A nw c A' n c'
/-- A new space and an error. -/
def GivesS8 (s : Int) (nw n : Nat) (wd : Nat → Int) (F : Nat → Fr) (x : Int) (w : World) (e : Ending) (w' : World) : Prop :=
  ∃ (A : Option Addr) (c : Nat) (A' : Option Addr) (c' : Nat), e = .returned (.tuple #[.agg #[.int .i64 s, .slice A nw c, .slice A' n c'], .int .i64 x]) ∧ Own w' w.heap.size A nw c wd ∧ OwnT w' w.heap.size A' n c' F ∧ Below w.heap.size w w'
theorem ini_val (s : Int) (nw : Nat) (wd : Nat → Int) (n : Nat) (F : Nat → Fr) (a r d : Int) (hnw : nw ≤ 20000) (hn : n ≤ 80) : ∃ (s' : Int) (nw' n' : Nat) (wd' : Nat → Int) (F' : Nat → Fr) (x : Int), nw' ≤ 1048576 ∧ n' ≤ 4096 ∧ ∀ w e w', IniOut s nw n wd F a r d w e w' → GivesS8 s' nw' n' wd' F' x w e w' := by
  by_cases h : iniE s nw wd n F a r d = 0
  · refine ⟨s, nw, n, iniW s nw wd n F a (Hd.liveV r d) (r + d).toNat, F, 0, by omega, by omega, fun w e w' ht => ?_⟩
    rcases ht with ⟨x, h1, h2, _⟩ | ⟨_, A1, c1, g, c2, he, h1, h2, h3⟩
    · exact absurd (h1.symm.trans h) h2
    · exact ⟨A1, c1, _, c2, he, h1, h2, h3⟩
  · refine ⟨0, 0, 0, fun _ => 0, fun _ => frFree, iniE s nw wd n F a r d, by decide, by decide, fun w e w' ht => ?_⟩
    rcases ht with ⟨x, h1, h2, he, h3⟩ | ⟨h1, _⟩
    · subst h1
      exact ⟨none, 0, none, 0, he, Own.nil_ _ _ _, OwnT.nil_ _ _ _, h3⟩
    · exact absurd h1 h
theorem set_val (s : Int) (nw : Nat) (wd : Nat → Int) (n : Nat) (F : Nat → Fr) (a i : Int) (t : Bool) (v : Int) (hnw : nw ≤ 20000) (hn : n ≤ 80) : ∃ (s' : Int) (nw' n' : Nat) (wd' : Nat → Int) (F' : Nat → Fr) (x : Int), nw' ≤ 1048576 ∧ n' ≤ 4096 ∧ ∀ w e w', SetOut s nw n wd F a i t v w e w' → GivesS8 s' nw' n' wd' F' x w e w' := by
  by_cases h : plcE s nw wd n F a i t = 0
  · refine ⟨s, nw, n, setW s nw wd n F a i t v, F, 0, by omega, by omega, fun w e w' ht => ?_⟩
    rcases ht with ⟨x, h1, h2, _⟩ | ⟨_, A1, c1, g, c2, he, h1, h2, h3⟩
    · exact absurd (h1.symm.trans h) h2
    · exact ⟨A1, c1, _, c2, he, h1, h2, h3⟩
  · refine ⟨0, 0, 0, fun _ => 0, fun _ => frFree, plcE s nw wd n F a i t, by decide, by decide, fun w e w' ht => ?_⟩
    rcases ht with ⟨x, h1, h2, he, h3⟩ | ⟨h1, _⟩
    · subst h1
      exact ⟨none, 0, none, 0, he, Own.nil_ _ _ _, OwnT.nil_ _ _ _, h3⟩
    · exact absurd h1 h

/-- Three rows of two numbers. -/
def Rows2 (W : World) (Q : Nat) : Prop := ∀ l, l < 3 → ∃ (b : Nat) (x y : Int), Blk W b 3 #[.int .i64 x, .int .i64 y] ∧ In8 x ∧ In8 y ∧ W.cell? ⟨Q, l, none⟩ = some (.slice (some ⟨b, 0, none⟩) 2 2)
theorem rows2_of {W : World} {Q b0 b1 b2 : Nat} {x0 y0 x1 y1 x2 y2 : Int} {t : TypeId} (h : Blk W Q t #[.slice (some ⟨b0, 0, none⟩) 2 2, .slice (some ⟨b1, 0, none⟩) 2 2, .slice (some ⟨b2, 0, none⟩) 2 2]) (h0 : Blk W b0 3 #[.int .i64 x0, .int .i64 y0]) (h1 : Blk W b1 3 #[.int .i64 x1, .int .i64 y1]) (h2 : Blk W b2 3 #[.int .i64 x2, .int .i64 y2])
    (k0 : In8 x0) (l0 : In8 y0) (k1 : In8 x1) (l1 : In8 y1) (k2 : In8 x2) (l2 : In8 y2) : Rows2 W Q := by
  intro l hl
  rcases (by omega : l = 0 ∨ l = 1 ∨ l = 2) with e | e | e <;> subst e
  · exact ⟨_, _, _, h0, k0, l0, h.cell 0⟩
  · exact ⟨_, _, _, h1, k1, l1, h.cell 1⟩
  · exact ⟨_, _, _, h2, k2, l2, h.cell 2⟩
/-- Three rows of three numbers. -/
def Rows3 (W : World) (Q : Nat) : Prop := ∀ l, l < 3 → ∃ (b : Nat) (x y z : Int), Blk W b 3 #[.int .i64 x, .int .i64 y, .int .i64 z] ∧ In8 x ∧ In8 y ∧ In8 z ∧ W.cell? ⟨Q, l, none⟩ = some (.slice (some ⟨b, 0, none⟩) 3 3)
theorem rows3_of {W : World} {Q b0 b1 b2 : Nat} {x0 y0 z0 x1 y1 z1 x2 y2 z2 : Int} {t : TypeId} (h : Blk W Q t #[.slice (some ⟨b0, 0, none⟩) 3 3, .slice (some ⟨b1, 0, none⟩) 3 3, .slice (some ⟨b2, 0, none⟩) 3 3]) (h0 : Blk W b0 3 #[.int .i64 x0, .int .i64 y0, .int .i64 z0]) (h1 : Blk W b1 3 #[.int .i64 x1, .int .i64 y1, .int .i64 z1]) (h2 : Blk W b2 3 #[.int .i64 x2, .int .i64 y2, .int .i64 z2])
    (k0 : In8 x0) (l0 : In8 y0) (j0 : In8 z0) (k1 : In8 x1) (l1 : In8 y1) (j1 : In8 z1) (k2 : In8 x2) (l2 : In8 y2) (j2 : In8 z2) : Rows3 W Q := by
  intro l hl
  rcases (by omega : l = 0 ∨ l = 1 ∨ l = 2) with e | e | e <;> subst e
  · exact ⟨_, _, _, _, h0, k0, l0, j0, h.cell 0⟩
  · exact ⟨_, _, _, _, h1, k1, l1, j1, h.cell 1⟩
  · exact ⟨_, _, _, _, h2, k2, l2, j2, h.cell 2⟩
theorem Blk.drew8 {W : World} {b : Nat} {t : TypeId} {cs : Array Value} (h : Blk W b t cs) : Blk W.drew b t cs := h
theorem below_alloc8 {w w' : World} (h : Below w.heap.size w w') (o : Obj) : Below w.heap.size w (w'.alloc o) := h.alloc h.size o

/-- The box at X holds this space, the row at b these two numbers. -/
def El8 (W : World) (X b : Nat) (s : Int) (v1 v2 : Value) (x y : Int) : Prop := W.cell? ⟨X, 0, none⟩ = some (.int .i64 s) ∧ W.cell? ⟨X, 1, none⟩ = some v1 ∧ W.cell? ⟨X, 2, none⟩ = some v2 ∧ W.cell? ⟨b, 0, none⟩ = some (.int .i64 x) ∧ W.cell? ⟨b, 1, none⟩ = some (.int .i64 y) ∧ X < W.heap.size ∧ b < W.heap.size
theorem El8.next {W W' : World} {X b : Nat} {s x y : Int} {v1 v2 : Value} (h : El8 W X b s v1 v2 x y) (hb : Below W.heap.size W W') : El8 W' X b s v1 v2 x y := by
  obtain ⟨h0, h1, h2, h3, h4, h5, h6⟩ := h
  have := hb.size
  exact ⟨(hb.cell h5).trans h0, (hb.cell h5).trans h1, (hb.cell h5).trans h2, (hb.cell h6).trans h3, (hb.cell h6).trans h4, by omega, by omega⟩
theorem El8.turn {R W : World} {X b t : Nat} {s x y : Int} {v1 v2 : Value} (h : El8 R X b s v1 v2 x y) (hk : ∀ b', b' < R.heap.size → b' ≠ t → W.heap[b']? = R.heap[b']?) (hX : X ≠ t) (hb : b ≠ t) (hs : R.heap.size ≤ W.heap.size) : El8 W X b s v1 v2 x y := by
  obtain ⟨h0, h1, h2, h3, h4, h5, h6⟩ := h
  exact ⟨(cell_heap (hk _ h5 hX)).trans h0, (cell_heap (hk _ h5 hX)).trans h1, (cell_heap (hk _ h5 hX)).trans h2, (cell_heap (hk _ h6 hb)).trans h3, (cell_heap (hk _ h6 hb)).trans h4, by omega, by omega⟩
/-- What a run of allocations, draws and calls leaves of a block, and of all blocks. -/
theorem Blk.next8 {W W' : World} {b : Nat} {t : TypeId} {cs : Array Value} (hb : Hid (Below W.heap.size W W')) (h : Blk W b t cs) : Blk W' b t cs := h.next hb.out
theorem zat8_3 {X L : World} {s0 s1 s2 : Int} {A0 A0' A1 A1' A2 A2' : Option Addr} {n0 c0 m0 d0 n1 c1 m1 d1 n2 c2 m2 d2 : Nat} (hc : Below X.heap.size X L)
    (v0 : YV8 L s0 A0 n0 c0 A0' m0 d0) (v1 : YV8 L s1 A1 n1 c1 A1' m1 d1) (v2 : YV8 L s2 A2 n2 c2 A2' m2 d2)
    (b0 : n0 ≤ 20000 ∧ m0 ≤ 80) (b1 : n1 ≤ 20000 ∧ m1 ≤ 80) (b2 : n2 ≤ 20000 ∧ m2 ≤ 80) :
    (∀ j, j < 3 → ZAt8 (L.alloc (.cells #[.int .i64 s0, .slice A0 n0 c0, .slice A0' m0 d0, .int .i64 s1, .slice A1 n1 c1, .slice A1' m1 d1, .int .i64 s2, .slice A2 n2 c2, .slice A2' m2 d2] 25)) L.heap.size j) ∧ L.heap.size < (L.alloc (.cells #[.int .i64 s0, .slice A0 n0 c0, .slice A0' m0 d0, .int .i64 s1, .slice A1 n1 c1, .slice A1' m1 d1, .int .i64 s2, .slice A2 n2 c2, .slice A2' m2 d2] 25)).heap.size ∧ Below X.heap.size X (L.alloc (.cells #[.int .i64 s0, .slice A0 n0 c0, .slice A0' m0 d0, .int .i64 s1, .slice A1 n1 c1, .slice A1' m1 d1, .int .i64 s2, .slice A2 n2 c2, .slice A2' m2 d2] 25)) := by
  obtain ⟨W, hW⟩ : ∃ W, W = L.alloc (.cells #[.int .i64 s0, .slice A0 n0 c0, .slice A0' m0 d0, .int .i64 s1, .slice A1 n1 c1, .slice A1' m1 d1, .int .i64 s2, .slice A2 n2 c2, .slice A2' m2 d2] 25) := ⟨_, rfl⟩
  have hbw : Below L.heap.size L W := by rw [hW]; exact (Below.refl _ _).alloc (Nat.le_refl _) _
  have hq : Blk W L.heap.size 25 #[.int .i64 s0, .slice A0 n0 c0, .slice A0' m0 d0, .int .i64 s1, .slice A1 n1 c1, .slice A1' m1 d1, .int .i64 s2, .slice A2 n2 c2, .slice A2' m2 d2] := by rw [hW]; exact Blk.new _ _ _
  rw [← hW]
  refine ⟨fun j hj => ?_, hq.lt, below_next hc (Nat.le_refl _) hbw⟩
  rcases (by omega : j = 0 ∨ j = 1 ∨ j = 2) with e | e | e <;> subst e
  · exact ⟨_, _, _, _, _, _, _, b0.1, b0.2, hq.cell 0, hq.cell 1, hq.cell 2, v0.next hbw⟩
  · exact ⟨_, _, _, _, _, _, _, b1.1, b1.2, hq.cell 3, hq.cell 4, hq.cell 5, v1.next hbw⟩
  · exact ⟨_, _, _, _, _, _, _, b2.1, b2.2, hq.cell 6, hq.cell 7, hq.cell 8, v2.next hbw⟩
theorem zat8_4 {X L : World} {s0 s1 s2 s3 : Int} {A0 A0' A1 A1' A2 A2' A3 A3' : Option Addr} {n0 c0 m0 d0 n1 c1 m1 d1 n2 c2 m2 d2 n3 c3 m3 d3 : Nat} (hc : Below X.heap.size X L)
    (v0 : YV8 L s0 A0 n0 c0 A0' m0 d0) (v1 : YV8 L s1 A1 n1 c1 A1' m1 d1) (v2 : YV8 L s2 A2 n2 c2 A2' m2 d2) (v3 : YV8 L s3 A3 n3 c3 A3' m3 d3)
    (b0 : n0 ≤ 20000 ∧ m0 ≤ 80) (b1 : n1 ≤ 20000 ∧ m1 ≤ 80) (b2 : n2 ≤ 20000 ∧ m2 ≤ 80) (b3 : n3 ≤ 20000 ∧ m3 ≤ 80) :
    (∀ j, j < 4 → ZAt8 (L.alloc (.cells #[.int .i64 s0, .slice A0 n0 c0, .slice A0' m0 d0, .int .i64 s1, .slice A1 n1 c1, .slice A1' m1 d1, .int .i64 s2, .slice A2 n2 c2, .slice A2' m2 d2, .int .i64 s3, .slice A3 n3 c3, .slice A3' m3 d3] 25)) L.heap.size j) ∧ L.heap.size < (L.alloc (.cells #[.int .i64 s0, .slice A0 n0 c0, .slice A0' m0 d0, .int .i64 s1, .slice A1 n1 c1, .slice A1' m1 d1, .int .i64 s2, .slice A2 n2 c2, .slice A2' m2 d2, .int .i64 s3, .slice A3 n3 c3, .slice A3' m3 d3] 25)).heap.size ∧ Below X.heap.size X (L.alloc (.cells #[.int .i64 s0, .slice A0 n0 c0, .slice A0' m0 d0, .int .i64 s1, .slice A1 n1 c1, .slice A1' m1 d1, .int .i64 s2, .slice A2 n2 c2, .slice A2' m2 d2, .int .i64 s3, .slice A3 n3 c3, .slice A3' m3 d3] 25)) := by
  obtain ⟨W, hW⟩ : ∃ W, W = L.alloc (.cells #[.int .i64 s0, .slice A0 n0 c0, .slice A0' m0 d0, .int .i64 s1, .slice A1 n1 c1, .slice A1' m1 d1, .int .i64 s2, .slice A2 n2 c2, .slice A2' m2 d2, .int .i64 s3, .slice A3 n3 c3, .slice A3' m3 d3] 25) := ⟨_, rfl⟩
  have hbw : Below L.heap.size L W := by rw [hW]; exact (Below.refl _ _).alloc (Nat.le_refl _) _
  have hq : Blk W L.heap.size 25 #[.int .i64 s0, .slice A0 n0 c0, .slice A0' m0 d0, .int .i64 s1, .slice A1 n1 c1, .slice A1' m1 d1, .int .i64 s2, .slice A2 n2 c2, .slice A2' m2 d2, .int .i64 s3, .slice A3 n3 c3, .slice A3' m3 d3] := by rw [hW]; exact Blk.new _ _ _
  rw [← hW]
  refine ⟨fun j hj => ?_, hq.lt, below_next hc (Nat.le_refl _) hbw⟩
  rcases (by omega : j = 0 ∨ j = 1 ∨ j = 2 ∨ j = 3) with e | e | e | e <;> subst e
  · exact ⟨_, _, _, _, _, _, _, b0.1, b0.2, hq.cell 0, hq.cell 1, hq.cell 2, v0.next hbw⟩
  · exact ⟨_, _, _, _, _, _, _, b1.1, b1.2, hq.cell 3, hq.cell 4, hq.cell 5, v1.next hbw⟩
  · exact ⟨_, _, _, _, _, _, _, b2.1, b2.2, hq.cell 6, hq.cell 7, hq.cell 8, v2.next hbw⟩
  · exact ⟨_, _, _, _, _, _, _, b3.1, b3.2, hq.cell 9, hq.cell 10, hq.cell 11, v3.next hbw⟩
end Go.Proofs.Ythcfcciemjkilaa
