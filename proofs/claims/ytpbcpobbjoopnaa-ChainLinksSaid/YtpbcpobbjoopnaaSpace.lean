/-
  The maker of the statements' spaces: Space.
-/
import Derived.Test.YtpbcpobbjoopnaaGrown
import Derived.Test.YtpbcpobbjoopnaaNewR
namespace Go.Proofs.Ytpbcpobbjoopnaa
open Go.RowKit
set_option maxRecDepth 100000
set_option linter.unusedVariables false

/-- A row stays where a box of another type is written. -/
theorem Own.box {w : World} {base n c b : Nat} {A : Option Addr} {f : Nat → Int} {t : TypeId} {cs : Array Value} (h : Own w base A n c f) (hb : Blk w b t cs) (ht : t ≠ 67) (i : Nat) (u : Value) : Own (w.setCell ⟨b, i, none⟩ u) base A n c f := by
  obtain ⟨h1, h2, h3⟩ := h
  refine ⟨h1, h2, ?_⟩
  rcases h3 with h3 | ⟨g, cur, hA, hg, hh, hs⟩
  · exact .inl h3
  · refine .inr ⟨g, cur, hA, hg, ?_, hs⟩
    have hne : g ≠ b := by
      rintro rfl
      unfold Blk at hb
      rw [hh] at hb
      injection hb with hb
      injection hb with _ hb
      exact ht hb.symm
    exact (Below.heap_setCell w ⟨b, i, none⟩ u g hne).trans hh

theorem OwnT.box {w : World} {base n c b : Nat} {A : Option Addr} {F : Nat → Fr} {t : TypeId} {cs : Array Value} (h : OwnT w base A n c F) (hb : Blk w b t cs) (ht : t ≠ 64) (i : Nat) (u : Value) : OwnT (w.setCell ⟨b, i, none⟩ u) base A n c F := by
  obtain ⟨h1, h2, h3⟩ := h
  refine ⟨h1, h2, ?_⟩
  rcases h3 with h3 | ⟨g, cur, hA, hg, hh, hs⟩
  · exact .inl h3
  · refine .inr ⟨g, cur, hA, hg, ?_, hs⟩
    have hne : g ≠ b := by
      rintro rfl
      unfold Blk at hb
      rw [hh] at hb
      injection hb with hb
      injection hb with _ hb
      exact ht hb.symm
    exact (Below.heap_setCell w ⟨b, i, none⟩ u g hne).trans hh

theorem ownsRow_keep {w w' : World} {B s n : Nat} {e : TypeId} {v : Value} {xs : List Value} (h : w.ownsRow B e s v n xs) (hk : ∀ g, v.ownBlock = some g → B ≤ g → g < w.heap.size → w'.heap[g]? = w.heap[g]?) : w'.ownsRow B e s v n xs := by
  obtain ⟨hl, h⟩ := h
  refine ⟨hl, ?_⟩
  rcases h with h | ⟨g, cap, cur, rfl, hb, hg, h⟩
  · exact .inl h
  · exact .inr ⟨g, cap, cur, rfl, hb, (hk g rfl hb (blk_lt hg)).trans hg, h⟩

/-- An increment, and a list of them as cells. -/
structure IncR where
  sq : Int
  bt : Int
  fi : Int
  la : Int
  wo : Int
def incCells (I : List IncR) : List Value := I.flatMap fun i => [.int .i64 i.sq, .int .i64 i.bt, .int .i64 i.fi, .int .i64 i.la, .int .i64 i.wo]
theorem incCells_snoc (I : List IncR) (i : IncR) : incCells (I ++ [i]) = incCells I ++ [.int .i64 i.sq, .int .i64 i.bt, .int .i64 i.fi, .int .i64 i.la, .int .i64 i.wo] := by simp [incCells]
/-- Each increment of the list is well, and not empty; the t-th one's number lies from 3 t to 3 t + 2. -/
def AllP (F : Nat → Fr) (n k : Nat) (I : List IncR) : Prop := ∀ (t : Nat) (i : IncR), I[t]? = some i → IncP F n k i.sq i.bt i.fi i.la i.wo ∧ 0 < i.wo ∧ 3 * (t : Int) ≤ i.sq ∧ i.sq ≤ 3 * (t : Int) + 2
theorem AllP.keeps {F F' : Nat → Fr} {n k : Nat} {I : List IncR} {sq : Int} (h : AllP F n k I) (hk : KeepsO F F' sq) (hf : FV F n) (hs : 3 * (I.length : Int) ≤ sq) : AllP F' n k I := fun t i hi => by
  obtain ⟨h1, h2, h3, h4⟩ := h t i hi
  have ht : t < I.length := by
    rcases Nat.lt_or_ge t I.length with x | x
    · exact x
    · rw [List.getElem?_eq_none x] at hi; cases hi
  exact ⟨h1.other hk hf (by omega), h2, h3, h4⟩
theorem AllP.snoc {F : Nat → Fr} {n k : Nat} {I : List IncR} {i : IncR} (h : AllP F n k I) (h1 : IncP F n k i.sq i.bt i.fi i.la i.wo) (h2 : 0 < i.wo) (h3 : 3 * (I.length : Int) ≤ i.sq) (h4 : i.sq ≤ 3 * (I.length : Int) + 2) : AllP F n k (I ++ [i]) := fun t x hx => by
  rcases Nat.lt_trichotomy t I.length with e | e | e
  · rw [List.getElem?_append_left e] at hx; exact h t x hx
  · subst e
    rw [List.getElem?_append_right (Nat.le_refl _), Nat.sub_self] at hx
    simp at hx
    subst hx
    exact ⟨h1, h2, h3, h4⟩
  · rw [List.getElem?_eq_none (by simp; omega)] at hx; cases hx
theorem cntO_none {F : Nat → Fr} {o : Int} : ∀ {t : Nat}, (∀ f, f < t → (F f).ow ≠ o) → cntO F o t = 0
  | 0, _ => rfl
  | t + 1, h => by simp only [cntO]; rw [cntO_none (fun f hf => h f (by omega)), if_neg (h t (by omega))]
theorem cntO_zero {F : Nat → Fr} {o : Int} : ∀ {t : Nat}, cntO F o t = 0 → ∀ f, f < t → (F f).ow ≠ o
  | 0, _, f, hf => absurd hf (by omega)
  | t + 1, h, f, hf => by
    simp only [cntO] at h
    by_cases e : (F t).ow = o
    · rw [if_pos e] at h; omega
    · rcases (show f < t ∨ f = t by omega) with x | rfl
      · exact cntO_zero (by omega) f x
      · exact e
theorem inc_new {F : Nat → Fr} {n k : Nat} {sq bt : Int} (h1 : 0 ≤ sq) (h2 : sq ≤ 50) (h3 : 0 ≤ bt) (h4 : bt ≤ 2) (h : ∀ f, f < n → (F f).ow ≠ sq) : IncP F n k sq bt (-1) (-1) 0 :=
  ⟨h1, h2, h3, h4, 0, rfl, .inl ⟨ceilV_zero k, rfl⟩, by rw [cntO_none h, ceilV_zero]⟩

/-- The list of increments: a row of the call's own, in a block below ib. -/
def LRow (W : World) (B ib j : Nat) (l : Value) (xs : List Value) : Prop := W.ownsRow B 53 5 l j xs ∧ ∀ b, l.ownBlock = some b → b < ib

theorem LRow.turn {W W' : World} {B ib j g : Nat} {l : Value} {xs : List Value} (h : LRow W B ib j l xs) (hG : W.grownBy W' (some g)) (hg : g < B) : LRow W' B ib j l xs := by
  obtain ⟨h1, h2⟩ := h
  exact ⟨ownsRow_keep h1 fun x _ hx hl => hG.block x hl (by intro e; injection e; omega), h2⟩
theorem LRow.below {W W' : World} {B ib j : Nat} {l : Value} {xs : List Value} (h : LRow W B ib j l xs) (hb : Below W.heap.size W W') : LRow W' B ib j l xs := by
  obtain ⟨h1, h2⟩ := h
  exact ⟨ownsRow_keep h1 fun x _ _ hl => hb.block x hl, h2⟩
theorem LRow.far {W : World} {B ib j : Nat} {l : Value} {xs : List Value} (h : LRow W B ib j l xs) {p : Addr} (hp : p.block < B ∨ ib ≤ p.block) (u : Value) : LRow (W.setCell p u) B ib j l xs := by
  obtain ⟨h1, h2⟩ := h
  refine ⟨ownsRow_keep h1 fun x hx hB hl => Below.heap_setCell W p u x ?_, h2⟩
  have := h2 x hx
  omega
theorem LRow.more {W : World} {B ib ib' j : Nat} {l : Value} {xs : List Value} (h : LRow W B ib j l xs) (hi : ib ≤ ib') : LRow W B ib' j l xs :=
  ⟨h.1, fun b hb => Nat.lt_of_lt_of_le (h.2 b hb) hi⟩

/-- The box sb holds a valid space of rows of the call's own. -/
def SpAt (w : World) (dk B k n sb : Nat) (F : Nat → Fr) (W : World) : Prop :=
  ∃ (A : Option Addr) (c g c' : Nat) (wd : Nat → Int), Blk W sb 25 #[.int .i64 k, .slice A (n * 2 ^ k) c, .slice (some ⟨g, 0, none⟩) n c'] ∧ Own W B A (n * 2 ^ k) c wd ∧ OwnT W B (some ⟨g, 0, none⟩) n c' F ∧
    ValidO k (n * 2 ^ k) wd n F ∧ DeckP W dk ∧ w.grownBy W (some dk)

def SpaceOf (dk : Nat) (w : World) (e : Ending) (w' : World) : Prop :=
  ∃ (k n : Nat) (A : Option Addr) (c g c' : Nat) (wd : Nat → Int) (F : Nat → Fr) (L : Value), e = .returned (.tuple #[.agg #[.int .i64 k, .slice A (n * 2 ^ k) c, .slice (some ⟨g, 0, none⟩) n c'], L]) ∧ 3 ≤ k ∧ k ≤ 4 ∧ 2 ≤ n ∧ n ≤ 10 ∧
    Own w' w.heap.size A (n * 2 ^ k) c wd ∧ OwnT w' w.heap.size (some ⟨g, 0, none⟩) n c' F ∧ ValidO k (n * 2 ^ k) wd n F ∧ (DeckP w' dk ∧ ∃ (I : List IncR) (B : Nat), w.heap.size ≤ B ∧ LRow w' B w'.heap.size I.length L (incCells I) ∧ AllP F n k I) ∧ w.grownBy w' (some dk)

theorem SpAt.turn {w W W' : World} {dk B k n sb : Nat} {F : Nat → Fr} (h : SpAt w dk B k n sb F W) (hB : dk < B) (hs : sb ≠ dk) (hD : DeckP W' dk) (hG : W.grownBy W' (some dk)) : SpAt w dk B k n sb F W' := by
  obtain ⟨A, c, g, c', wd, h1, h2, h3, h4, h5, h6⟩ := h
  exact ⟨A, c, g, c', wd, h1.turn hG hs, h2.turnB hG hB, h3.turnB hG hB, h4, hD, turn_trans h6 hG⟩
theorem SpAt.deck {w W : World} {dk B k n sb : Nat} {F : Nat → Fr} (h : SpAt w dk B k n sb F W) : DeckP W dk := by
  obtain ⟨A, c, g, c', wd, h1, h2, h3, h4, h5, h6⟩ := h
  exact h5
theorem SpAt.next {w W W' : World} {dk B k n sb : Nat} {F : Nat → Fr} (h : SpAt w dk B k n sb F W) (hB : dk < B) (hs : sb ≠ dk) (hb : Below W.heap.size W W') : SpAt w dk B k n sb F W' :=
  h.turn hB hs (h.deck.next hb) (turn_below hb)

/-- The boxes behind eight stores: three into x, five into y. -/
theorem Blk.first8 {w : World} {x y : Nat} {t : TypeId} {a0 a1 a2 : Value} (h : Blk w x t #[a0, a1, a2]) (hxy : x ≠ y) (v0 v1 v2 u0 u1 u2 u3 u4 : Value) : Blk ((((((((w.setCell ⟨x, 0, none⟩ v0).setCell ⟨x, 1, none⟩ v1).setCell ⟨x, 2, none⟩ v2).setCell ⟨y, 0, none⟩ u0).setCell ⟨y, 1, none⟩ u1).setCell ⟨y, 2, none⟩ u2).setCell ⟨y, 3, none⟩ u3).setCell ⟨y, 4, none⟩ u4) x t #[v0, v1, v2] :=
  (((((((h.set_ 0 v0).set_ 1 v1).set_ 2 v2).far hxy u0).far hxy u1).far hxy u2).far hxy u3).far hxy u4
theorem Blk.second8 {w : World} {x y : Nat} {t : TypeId} {a0 a1 a2 a3 a4 : Value} (h : Blk w y t #[a0, a1, a2, a3, a4]) (hxy : x ≠ y) (v0 v1 v2 u0 u1 u2 u3 u4 : Value) : Blk ((((((((w.setCell ⟨x, 0, none⟩ v0).setCell ⟨x, 1, none⟩ v1).setCell ⟨x, 2, none⟩ v2).setCell ⟨y, 0, none⟩ u0).setCell ⟨y, 1, none⟩ u1).setCell ⟨y, 2, none⟩ u2).setCell ⟨y, 3, none⟩ u3).setCell ⟨y, 4, none⟩ u4) y t #[u0, u1, u2, u3, u4] :=
  (((((((h.far (p := ⟨x, 0, none⟩) (Ne.symm hxy) v0).far (p := ⟨x, 1, none⟩) (Ne.symm hxy) v1).far (p := ⟨x, 2, none⟩) (Ne.symm hxy) v2).set_ 0 u0).set_ 1 u1).set_ 2 u2).set_ 3 u3).set_ 4 u4
theorem Blk.far8 {w : World} {x y z : Nat} {t : TypeId} {cs : Array Value} (h : Blk w z t cs) (hx : z ≠ x) (hy : z ≠ y) (v0 v1 v2 u0 u1 u2 u3 u4 : Value) : Blk ((((((((w.setCell ⟨x, 0, none⟩ v0).setCell ⟨x, 1, none⟩ v1).setCell ⟨x, 2, none⟩ v2).setCell ⟨y, 0, none⟩ u0).setCell ⟨y, 1, none⟩ u1).setCell ⟨y, 2, none⟩ u2).setCell ⟨y, 3, none⟩ u3).setCell ⟨y, 4, none⟩ u4) z t cs :=
  (((((((h.far hx v0).far hx v1).far hx v2).far hy u0).far hy u1).far hy u2).far hy u3).far hy u4
theorem LRow.put8 {w : World} {B ib j x y : Nat} {l : Value} {xs : List Value} (h : LRow w B ib j l xs) (hx : x < B ∨ ib ≤ x) (hy : y < B ∨ ib ≤ y) (v0 v1 v2 u0 u1 u2 u3 u4 : Value) : LRow ((((((((w.setCell ⟨x, 0, none⟩ v0).setCell ⟨x, 1, none⟩ v1).setCell ⟨x, 2, none⟩ v2).setCell ⟨y, 0, none⟩ u0).setCell ⟨y, 1, none⟩ u1).setCell ⟨y, 2, none⟩ u2).setCell ⟨y, 3, none⟩ u3).setCell ⟨y, 4, none⟩ u4) B ib j l xs :=
  (((((((h.far hx v0).far hx v1).far hx v2).far hy u0).far hy u1).far hy u2).far hy u3).far hy u4
theorem Own.box8 {w : World} {base n c x y : Nat} {A : Option Addr} {f : Nat → Int} {t1 t2 : TypeId} {a0 a1 a2 : Value} {cs : Array Value} (h : Own w base A n c f) (hx : Blk w x t1 #[a0, a1, a2]) (hy : Blk w y t2 cs) (h1 : t1 ≠ 67) (h2 : t2 ≠ 67) (hxy : x ≠ y) (v0 v1 v2 u0 u1 u2 u3 u4 : Value) : Own ((((((((w.setCell ⟨x, 0, none⟩ v0).setCell ⟨x, 1, none⟩ v1).setCell ⟨x, 2, none⟩ v2).setCell ⟨y, 0, none⟩ u0).setCell ⟨y, 1, none⟩ u1).setCell ⟨y, 2, none⟩ u2).setCell ⟨y, 3, none⟩ u3).setCell ⟨y, 4, none⟩ u4) base A n c f := by
  have y1 := hy.far (p := ⟨x, 0, none⟩) (Ne.symm hxy) v0
  have y2 := y1.far (p := ⟨x, 1, none⟩) (Ne.symm hxy) v1
  have y3 := y2.far (p := ⟨x, 2, none⟩) (Ne.symm hxy) v2
  exact (((((((h.box hx h1 0 v0).box (hx.set_ 0 v0) h1 1 v1).box ((hx.set_ 0 v0).set_ 1 v1) h1 2 v2).box y3 h2 0 u0).box (y3.set_ 0 u0) h2 1 u1).box ((y3.set_ 0 u0).set_ 1 u1) h2 2 u2).box (((y3.set_ 0 u0).set_ 1 u1).set_ 2 u2) h2 3 u3).box ((((y3.set_ 0 u0).set_ 1 u1).set_ 2 u2).set_ 3 u3) h2 4 u4
theorem OwnT.box8 {w : World} {base n c x y : Nat} {A : Option Addr} {F : Nat → Fr} {t1 t2 : TypeId} {a0 a1 a2 : Value} {cs : Array Value} (h : OwnT w base A n c F) (hx : Blk w x t1 #[a0, a1, a2]) (hy : Blk w y t2 cs) (h1 : t1 ≠ 64) (h2 : t2 ≠ 64) (hxy : x ≠ y) (v0 v1 v2 u0 u1 u2 u3 u4 : Value) : OwnT ((((((((w.setCell ⟨x, 0, none⟩ v0).setCell ⟨x, 1, none⟩ v1).setCell ⟨x, 2, none⟩ v2).setCell ⟨y, 0, none⟩ u0).setCell ⟨y, 1, none⟩ u1).setCell ⟨y, 2, none⟩ u2).setCell ⟨y, 3, none⟩ u3).setCell ⟨y, 4, none⟩ u4) base A n c F := by
  have y1 := hy.far (p := ⟨x, 0, none⟩) (Ne.symm hxy) v0
  have y2 := y1.far (p := ⟨x, 1, none⟩) (Ne.symm hxy) v1
  have y3 := y2.far (p := ⟨x, 2, none⟩) (Ne.symm hxy) v2
  exact (((((((h.box hx h1 0 v0).box (hx.set_ 0 v0) h1 1 v1).box ((hx.set_ 0 v0).set_ 1 v1) h1 2 v2).box y3 h2 0 u0).box (y3.set_ 0 u0) h2 1 u1).box ((y3.set_ 0 u0).set_ 1 u1) h2 2 u2).box (((y3.set_ 0 u0).set_ 1 u1).set_ 2 u2) h2 3 u3).box ((((y3.set_ 0 u0).set_ 1 u1).set_ 2 u2).set_ 3 u3) h2 4 u4

theorem inc_info : (Try.prog.info? 53).map (fun i => (i.zero, i.size, i.bytes)) = some (some (.agg #[.int .i64 0, .int .i64 0, .int .i64 0, .int .i64 0, .int .i64 0]), 5, 40) := by kernel_rfl

theorem turn_row {a w w1 : World} {g : Nat} {row : Option Nat} (h : a.grownBy w (some g)) (hr : w.grownBy w1 row) (hb : ∀ k, row = some k → a.heap.size ≤ k) : a.grownBy w1 (some g) :=
  ⟨hr.os.trans h.os, hr.tape.trans h.tape, hr.output.trans h.output, Nat.le_trans h.size hr.size, fun i hi hn => (hr.block i (Nat.lt_of_lt_of_le hi h.size) (fun e => by have := hb i e.symm; omega)).trans (h.block i hi hn)⟩

theorem row_type {w : World} {base : Nat} {t : TypeId} {size n : Nat} {v : Value} {xs : List Value} (h : w.ownsRow base t size v n xs) : ∀ k, v.ownBlock = some k → ∃ cur, Blk w k t cur := by
  intro k hk
  obtain ⟨hl, h⟩ := h
  rcases h with ⟨rfl, rfl⟩ | ⟨g, cap, cur, rfl, hb, hg, _⟩
  · simp [Value.ownBlock] at hk
  · simp [Value.ownBlock] at hk
    subst hk
    exact ⟨cur, hg⟩

theorem Blk.row {w w' : World} {b : Nat} {t : TypeId} {cs : Array Value} {row : Option Nat} (h : Blk w b t cs) (hG : w.grownBy w' row) (hn : row ≠ some b) : Blk w' b t cs := (hG.block b h.lt (fun e => hn e.symm)).trans h

theorem Own.row {w w' : World} {base n c : Nat} {A : Option Addr} {f : Nat → Int} {t : TypeId} {row : Option Nat} (h : Own w base A n c f) (hG : w.grownBy w' row) (hr : ∀ b, row = some b → ∃ cs, Blk w b t cs) (ht : t ≠ 67) : Own w' base A n c f := by
  obtain ⟨h1, h2, h3⟩ := h
  refine ⟨h1, h2, ?_⟩
  rcases h3 with h3 | ⟨g, cur, hA, hg, hh, hs⟩
  · exact .inl h3
  · refine .inr ⟨g, cur, hA, hg, (hG.block g (blk_lt hh) ?_).trans hh, hs⟩
    intro e
    obtain ⟨cs, hb⟩ := hr g e.symm
    unfold Blk at hb
    rw [hh] at hb
    injection hb with hb
    injection hb with _ hb
    exact ht hb.symm
theorem OwnT.row {w w' : World} {base n c : Nat} {A : Option Addr} {F : Nat → Fr} {t : TypeId} {row : Option Nat} (h : OwnT w base A n c F) (hG : w.grownBy w' row) (hr : ∀ b, row = some b → ∃ cs, Blk w b t cs) (ht : t ≠ 64) : OwnT w' base A n c F := by
  obtain ⟨h1, h2, h3⟩ := h
  refine ⟨h1, h2, ?_⟩
  rcases h3 with h3 | ⟨g, cur, hA, hg, hh, hs⟩
  · exact .inl h3
  · refine .inr ⟨g, cur, hA, hg, (hG.block g (blk_lt hh) ?_).trans hh, hs⟩
    intro e
    obtain ⟨cs, hb⟩ := hr g e.symm
    unfold Blk at hb
    rw [hh] at hb
    injection hb with hb
    injection hb with _ hb
    exact ht hb.symm
theorem DeckP.row {w w' : World} {dk : Nat} {row : Option Nat} (h : DeckP w dk) (hG : w.grownBy w' row) (hr : ∀ b, row = some b → dk < b) : DeckP w' dk := by
  have hB : Below (dk + 1) w w' := ⟨hG.os, hG.tape, hG.output, hG.size, fun i hi => hG.block i (by have := h.lt; omega) (fun e => by have := hr i e.symm; omega)⟩
  obtain ⟨A, n, c, q, h1, h2, h3, h4, h5⟩ := h
  refine ⟨A, n, c, q, (hB.block dk (by omega)).trans h1, h2, h3, h4, fun j hj => ?_⟩
  obtain ⟨b, o, v, e, hlt, hc, hv⟩ := h5 j hj
  exact ⟨b, o, v, e, hlt, by rw [hB.cell (by show b < _; omega)]; exact hc, hv⟩

theorem SpAt.row {w W W' : World} {dk k n sb : Nat} {F : Nat → Fr} {row : Option Nat} (h : SpAt w dk w.heap.size k n sb F W) (hd : dk < w.heap.size) (hs : w.heap.size < sb) (hG : W.grownBy W' row) (hr : ∀ b, row = some b → sb < b) (ht : ∀ b, row = some b → ∃ cs, Blk W b 53 cs) : SpAt w dk w.heap.size k n sb F W' := by
  obtain ⟨A, c, g, c', wd, h1, h2, h3, h4, h5, h6⟩ := h
  exact ⟨A, c, g, c', wd, h1.row hG (fun e => by have := hr _ e; omega), h2.row hG ht (by decide), h3.row hG ht (by decide), h4, h5.row hG (fun b e => by have := hr b e; omega), turn_row h6 hG (fun b e => by have := hr b e; omega)⟩

theorem row_of {w : World} {B s n : Nat} {v : Value} {xs : List Value} (h : w.ownsRow B 53 s v n xs) (hs : s = 5) : LRow w B w.heap.size n v xs := by
  subst hs
  exact ⟨h, fun b hb => by obtain ⟨cs, hh⟩ := row_type h b hb; exact hh.lt⟩

theorem five_news {w : World} {g : Nat} {v0 v1 v2 v3 v4 : Value} (h0 : w.cell? ⟨g, 0, none⟩ = some v0) (h1 : w.cell? ⟨g, 1, none⟩ = some v1) (h2 : w.cell? ⟨g, 2, none⟩ = some v2) (h3 : w.cell? ⟨g, 3, none⟩ = some v3) (h4 : w.cell? ⟨g, 4, none⟩ = some v4) :
    ∀ (j : Nat) (u : Value), [v0, v1, v2, v3, v4][j]? = some u → w.cell? ((⟨g, 0, none⟩ : Addr).add j) = some u := by
  intro j u hu
  rw [add_at]
  rcases j with _ | _ | _ | _ | _ | j <;> simp at hu <;> subst hu <;> simp <;> assumption

/-- At the outer loop's head. -/
def OutAt (w : World) (dk k n sb : Nat) (l kk : Value) (wr : World) : Prop := ∃ (t j : Nat) (I : List IncR) (F : Nat → Fr), kk = .int .i64 t ∧ t + j ≤ 4 ∧ LRow wr (sb + 1) wr.heap.size j l (incCells I) ∧ SpAt w dk w.heap.size k n sb F wr ∧ Blk wr w.heap.size 25 #[.int .i64 0, .slice none 0 0, .slice none 0 0] ∧ sb < wr.heap.size ∧
  I.length = j ∧ AllP F n k I ∧ ∀ f, f < n → (F f).ow = -1 ∨ (F f).ow < 3 * (j : Int)

/-- At the inner loop's head. -/
def InAt (w : World) (dk k n sb ib j : Nat) (I : List IncR) (l mm : Value) (wr : World) : Prop := ∃ (t : Nat) (i0 i1 i2 i3 i4 : Int) (F : Nat → Fr), mm = .int .i64 t ∧ t ≤ 5 ∧ LRow wr (sb + 1) ib j l (incCells I) ∧ SpAt w dk w.heap.size k n sb F wr ∧ Blk wr w.heap.size 25 #[.int .i64 0, .slice none 0 0, .slice none 0 0] ∧
  Blk wr ib 53 #[.int .i64 i0, .int .i64 i1, .int .i64 i2, .int .i64 i3, .int .i64 i4] ∧ 3 * (j : Int) ≤ i0 ∧ i0 ≤ 3 * (j : Int) + 2 ∧ IncP F n k i0 i1 i2 i3 i4 ∧ AllP F n k I ∧ ∀ f, f < n → (F f).ow = -1 ∨ (F f).ow < 3 * (j : Int) ∨ (F f).ow = i0

set_option maxHeartbeats 2000000 in
theorem space_any (dk : Nat) (w : World) (hd : DeckP w dk) : Calls Try.prog 9 #[.pointer (some ⟨dk, 0, none⟩)] w (SpaceOf dk w) := by
  have hlt := hd.lt
  go_enter Try.func9, Try.ntmps9
  go_wp2_with fail
  obtain ⟨V, hV⟩ : ∃ V, V = w.alloc (.cells #[.int .i64 0, .slice none 0 0, .slice none 0 0] 25) := ⟨_, rfl⟩
  have hb : Below w.heap.size w V := by rw [hV]; exact (Below.refl _ w).alloc (Nat.le_refl _) _
  have X0 := Lib.hid (show Blk V w.heap.size 25 #[.int .i64 0, .slice none 0 0, .slice none 0 0] by rw [hV]; exact Blk.new _ _ _)
  have D0 := Lib.hid (hd.next hb)
  have T0 := Lib.hid (show w.grownBy V (some dk) from turn_below hb)
  rw [← hV]
  clear hV hb hd
  refine (next_any dk 2 V (by omega) (by omega) D0.out).mono ?_
  rintro e V1 ⟨v1, rfl, a0, a1, hD, hG⟩
  have D1 := Lib.hid hD
  have T1 := Lib.hid (turn_trans T0.out hG)
  have X1 := Lib.hid (X0.out.turn hG (by omega))
  clear D0 T0 X0 hD hG
  have s1 : IntKind.i64.wrap (3 + v1) = 3 + v1 := IntWalk.i64_in _ (by omega)
  go_wp2_with fail
  refine (next_any dk 9 V1 (by omega) (by omega) D1.out).mono ?_
  rintro e V2 ⟨v2, rfl, b0, b1, hD, hG⟩
  have D2 := Lib.hid hD
  have T2 := Lib.hid (turn_trans T1.out hG)
  have X2 := Lib.hid (X1.out.turn hG (by omega))
  clear D1 T1 X1 hD hG s1
  have s1 : IntKind.i64.wrap (2 + v2) = 2 + v2 := IntWalk.i64_in _ (by omega)
  go_wp2_with fail
  obtain ⟨j1, e, hj1⟩ : ∃ j : Nat, v1 = j ∧ j ≤ 1 := ⟨v1.toNat, by omega, by omega⟩
  subst e
  obtain ⟨j2, e, hj2⟩ : ∃ j : Nat, v2 = j ∧ j ≤ 8 := ⟨v2.toNat, by omega, by omega⟩
  subst e
  clear a0 a1 b0 b1 s1
  rw [show (3 + (j1 : Int)) = ((3 + j1 : Nat) : Int) by omega, show (2 + (j2 : Int)) = ((2 + j2 : Nat) : Int) by omega]
  obtain ⟨k, hk, k0, k1⟩ : ∃ k, 3 + j1 = k ∧ 3 ≤ k ∧ k ≤ 4 := ⟨_, rfl, by omega, by omega⟩
  obtain ⟨n, hn, n0, n1⟩ : ∃ n, 2 + j2 = n ∧ 2 ≤ n ∧ n ≤ 10 := ⟨_, rfl, by omega, by omega⟩
  rw [hk, hn]
  clear hk hn
  refine (refNew_yes k n V2 k0 (by omega) n0 (by omega)).mono ?_
  rintro e V3 ⟨A, A', rfl, ho, ht, hb⟩
  obtain ⟨g, rfl⟩ : ∃ g, A' = some ⟨g, 0, none⟩ := by
    obtain ⟨_, _, h | ⟨g', cur, hA, _⟩⟩ := ht
    · omega
    · exact ⟨g', hA⟩
  have hsz2 : w.heap.size ≤ V2.heap.size := T2.out.size
  have O3 := Lib.hid (ho.lower hsz2)
  have OT3 := Lib.hid (ht.lower hsz2)
  have D3 := Lib.hid (D2.out.next hb)
  have T3 := Lib.hid (turn_next T2.out hb)
  have X3 := Lib.hid (X2.out.next hb)
  have HV3 := Lib.hid (show ValidO k (n * 2 ^ k) (fun _ => 0) n (fun _ => frFree) from ⟨valid_fresh (k := k) (n := n) (by omega) (by omega) (by omega) (by omega), fun _ => by show (-1 : Int) ≤ 50; decide⟩)
  clear ho ht hb D2 T2 X2
  go_wp2_with fail
  obtain ⟨V4, hV4⟩ : ∃ V4, V4 = V3.alloc (.cells #[.int .i64 k, .slice A (n * 2 ^ k) (n * 2 ^ k), .slice (some ⟨g, 0, none⟩) n n] 25) := ⟨_, rfl⟩
  have hsb : w.heap.size < V3.heap.size := X3.out.lt
  have hb : Below V3.heap.size V3 V4 := by rw [hV4]; exact (Below.refl _ _).alloc (Nat.le_refl _) _
  have SP4 := Lib.hid (show SpAt w dk w.heap.size k n V3.heap.size (fun _ => frFree) V4 from ⟨A, _, g, _, _, by rw [hV4]; exact Blk.new _ _ _, O3.out.below hb, OT3.out.below hb, HV3.out, D3.out.next hb, turn_next T3.out hb⟩)
  have X4 := Lib.hid (X3.out.next hb)
  have hsz4 : V3.heap.size < V4.heap.size := by rw [hV4]; simp
  rw [← hV4]
  clear hV4 hb O3 OT3 D3 T3 X3 HV3
  refine (next_any dk 5 V4 (by omega) (by omega) SP4.out.deck).mono ?_
  rintro e V5 ⟨v5, rfl, a0, a1, hD, hG⟩
  have SP5 := Lib.hid (SP4.out.turn hlt (by omega) hD hG)
  have X5 := Lib.hid (X4.out.turn hG (by omega))
  have hsz5 : V4.heap.size ≤ V5.heap.size := hG.size
  clear SP4 X4 hD hG
  obtain ⟨t5, e, ht5⟩ : ∃ j : Nat, v5 = j ∧ j ≤ 4 := ⟨v5.toNat, by omega, by omega⟩
  subst e
  clear a0 a1
  go_wp2_with fail
  go_loopw [6, 7, 8, 9] (fun l kk _ _ wr => OutAt w dk k n V3.heap.size l kk wr) (fun _ kk _ _ _ => (intOf kk).toNat)
  case atStart => exact ⟨t5, 0, [], _, rfl, by omega, ⟨World.ownsRow_nil _ _ _ _, fun b hb => by simp [Value.ownBlock] at hb⟩, SP5.out, X5.out, by omega, rfl, fun t i hi => by simp at hi, fun f _ => .inl rfl⟩
  case round =>
    obtain ⟨t, j, I, F, rfl, htj, hL, hSP, hX, hsr, hIl, hAll, hFr⟩ := hrel
    obtain ⟨A0, c0, rfl, hjc⟩ : ∃ A c, u6 = .slice A j c ∧ j ≤ c := row_slice hL.1
    have HIL := Lib.hid hIl
    have HALL := Lib.hid hAll
    have HFR := Lib.hid hFr
    clear hIl hAll hFr
    have HL := Lib.hid hL
    have HSP := Lib.hid hSP
    have HX := Lib.hid hX
    clear hL hSP hX
    by_cases ht : 0 < t
    · have ht' : 0 < (t : Int) := by omega
      have s1 : IntKind.i64.wrap (3 * (j : Int)) = 3 * j := IntWalk.i64_in _ (by omega)
      go_wp2_with fail
      refine (next_any dk 3 wr (by omega) (by omega) HSP.out.deck).mono ?_
      rintro e W1 ⟨v1, rfl, a0, a1, hD, hG⟩
      have L1 := Lib.hid (HL.out.turn hG (by omega))
      have SP1 := Lib.hid (HSP.out.turn hlt (by omega) hD hG)
      have X1 := Lib.hid (HX.out.turn hG (by omega))
      have hs1 : wr.heap.size ≤ W1.heap.size := hG.size
      clear HL HSP HX hD hG s1
      have s1 : IntKind.i64.wrap (3 * (j : Int) + v1) = 3 * j + v1 := IntWalk.i64_in _ (by omega)
      go_wp2_with fail
      refine (next_any dk 3 W1 (by omega) (by omega) SP1.out.deck).mono ?_
      rintro e W2 ⟨v2, rfl, b0, b1, hD, hG⟩
      have L2 := Lib.hid (L1.out.turn hG (by omega))
      have SP2 := Lib.hid (SP1.out.turn hlt (by omega) hD hG)
      have X2 := Lib.hid (X1.out.turn hG (by omega))
      have hs2 : W1.heap.size ≤ W2.heap.size := hG.size
      clear L1 SP1 X1 hD hG s1
      go_wp2_with fail
      obtain ⟨W3, hW3⟩ : ∃ W3, W3 = W2.alloc (.cells #[.int .i64 (3 * (j : Int) + v1), .int .i64 v2, .int .i64 (-1), .int .i64 (-1), .int .i64 0] 53) := ⟨_, rfl⟩
      have hb : Below W2.heap.size W2 W3 := by rw [hW3]; exact (Below.refl _ _).alloc (Nat.le_refl _) _
      have I3 := Lib.hid (show Blk W3 W2.heap.size 53 #[.int .i64 (3 * (j : Int) + v1), .int .i64 v2, .int .i64 (-1), .int .i64 (-1), .int .i64 0] by rw [hW3]; exact Blk.new _ _ _)
      have L3 := Lib.hid ((L2.out.below hb).more (show wr.heap.size ≤ W2.heap.size by omega))
      have SP3 := Lib.hid (SP2.out.next hlt (by omega) hb)
      have X3 := Lib.hid (X2.out.next hb)
      rw [← hW3]
      clear L2 SP2 X2 hb hW3
      refine (next_any dk 5 W3 (by omega) (by omega) SP3.out.deck).mono ?_
      rintro e W4 ⟨v4, rfl, d0, d1, hD, hG⟩
      have L4 := Lib.hid (L3.out.turn hG (by omega))
      have SP4 := Lib.hid (SP3.out.turn hlt (by omega) hD hG)
      have X4 := Lib.hid (X3.out.turn hG (by omega))
      have I4 := Lib.hid (I3.out.turn hG (by omega))
      clear L3 SP3 X3 I3 hD hG
      obtain ⟨m4, e, hm4⟩ : ∃ m : Nat, v4 = m ∧ m ≤ 4 := ⟨v4.toNat, by omega, by omega⟩
      subst e
      have s1 : IntKind.i64.wrap (1 + (m4 : Int)) = ((1 + m4 : Nat) : Int) := by rw [IntWalk.i64_in _ (by omega)]; omega
      have hib : w.heap.size < W2.heap.size := by omega
      have hib' : V3.heap.size < W2.heap.size := by omega
      go_wp2_with fail
      go_loopw [9] (fun mm wr => InAt w dk k n V3.heap.size W2.heap.size j I (.slice A0 j c0) mm wr) (fun mm _ => (intOf mm).toNat)
      case atStart => exact ⟨1 + m4, _, _, _, _, _, F, by first | rfl | go_num | simp, by omega, L4.out, SP4.out, X4.out, I4.out, by omega, by omega, inc_new (by omega) (by omega) (by omega) (by omega) (fun f hf => by have := HFR.out f hf; omega), HALL.out, fun f hf => by have := HFR.out f hf; omega⟩
      case round =>
        obtain ⟨mt, i0, i1, i2, i3, i4, F5, rfl, hmt, hL, hSP, hX, hI, hlo, hhi, hinc, hall, hfr⟩ := hrel
        have HINC := Lib.hid hinc
        have HALL5 := Lib.hid hall
        have HFR5 := Lib.hid hfr
        clear hinc hall hfr
        clear L4 SP4 X4 I4
        obtain ⟨A5, c5, g5, c5', wd5, hS, hO, hT, hV, hD, hG⟩ := hSP
        have q0 := hS.cell 0
        have q1 := hS.cell 1
        have q2 := hS.cell 2
        have i0' := hI.cell 0
        have i1' := hI.cell 1
        have i2' := hI.cell 2
        have i3' := hI.cell 3
        have i4' := hI.cell 4
        simp at q0 q1 q2 i0' i1' i2' i3' i4'
        by_cases hm : 0 < mt
        · have hm' : 0 < (mt : Int) := by omega
          have HL := Lib.hid hL
          have HX := Lib.hid hX
          have HI := Lib.hid hI
          have HS := Lib.hid hS
          have HO := Lib.hid hO
          have HT := Lib.hid hT
          have HV := Lib.hid hV
          have HD := Lib.hid hD
          have HG := Lib.hid hG
          go_wp2_with fail
          clear hL hX hI hS hO hT hV hD hG q0 q1 q2 i0' i1' i2' i3' i4'
          refine (grown_any dk w.heap.size k (n * 2 ^ k) n c5 g5 c5' A5 wd5 F5 i0 i1 i2 i3 i4 wr hlt HG.out.size HD.out HO.out HT.out HV.out HINC.out).mono ?_
          rintro e W5 ⟨A6, c6, g6, c6', wd6, F6, n0', n1', n2', n3', n4', rfl, hO, hT, hV, hD, hG, hn0, hn1, hinc', hkp⟩
          have HINC' := Lib.hid hinc'
          have HALL6 := Lib.hid (HALL5.out.keeps hkp HV.out.1.fv (by rw [HIL.out]; exact hlo))
          have HFR6 := Lib.hid (show ∀ f, f < n → (F6 f).ow = -1 ∨ (F6 f).ow < 3 * (j : Int) ∨ (F6 f).ow = n0' from fun f hf => by
            have h1 := HFR5.out f hf
            rcases hkp.2 f with h | h
            · rw [h, hn0]; exact h1
            · exact .inr (.inr (by rw [h, hn0])))
          have HN0 := Lib.hid hn0
          clear hn0 hn1 hinc' hkp
          have HL5 := Lib.hid (HL.out.turn hG (by omega))
          have HX5 := Lib.hid (HX.out.turn hG (by omega))
          have HI5 := Lib.hid (HI.out.turn hG (by omega))
          have HS5 := Lib.hid (HS.out.turn hG (by omega))
          have HG5 := Lib.hid (turn_trans HG.out hG)
          have HO5 := Lib.hid hO
          have HT5 := Lib.hid hT
          have HV5 := Lib.hid hV
          have HD5 := Lib.hid hD
          clear HL HX HI HS HO HT HV HD HG hO hT hV hD hG
          have q0 := HS5.out.cell 0
          have q1 := HS5.out.cell 1
          have q2 := HS5.out.cell 2
          have i0' := HI5.out.cell 0
          have i1' := HI5.out.cell 1
          have i2' := HI5.out.cell 2
          have i3' := HI5.out.cell 3
          have i4' := HI5.out.cell 4
          have f0 := HS5.out.frozen 0
          have f1 := HS5.out.frozen 1
          have f2 := HS5.out.frozen 2
          have e0 := HI5.out.frozen 0
          have e1 := HI5.out.frozen 1
          have e2 := HI5.out.frozen 2
          have e3 := HI5.out.frozen 3
          have e4 := HI5.out.frozen 4
          simp at q0 q1 q2 i0' i1' i2' i3' i4'
          have zs : V3.heap.size < W5.heap.size := HS5.out.lt
          have zi : W2.heap.size < W5.heap.size := HI5.out.lt
          have s1 : IntKind.i64.wrap ((mt : Int) - 1) = ((mt - 1 : Nat) : Int) := by rw [IntWalk.i64_in _ (by omega)]; omega
          go_wp2_with fail
          have hne : V3.heap.size ≠ W2.heap.size := by omega
          refine ⟨⟨mt - 1, n0', n1', n2', n3', n4', F6, rfl, by omega, HL5.out.put8 (by omega) (by omega) _ _ _ _ _ _ _ _,
            ⟨A6, c6, g6, c6', wd6, HS5.out.first8 hne _ _ _ _ _ _ _ _, HO5.out.box8 HS5.out HI5.out (by decide) (by decide) hne _ _ _ _ _ _ _ _, HT5.out.box8 HS5.out HI5.out (by decide) (by decide) hne _ _ _ _ _ _ _ _, HV5.out,
              HD5.out.put8 (by omega) (by omega) _ _ _ _ _ _ _ _, turn_put8 HG5.out (by omega) (by omega) _ _ _ _ _ _ _ _⟩,
            HX5.out.far8 (by omega) (by omega) _ _ _ _ _ _ _ _, HI5.out.second8 hne _ _ _ _ _ _ _ _, by rw [HN0.out]; exact hlo, by rw [HN0.out]; exact hhi, HINC'.out, HALL6.out, HFR6.out⟩, by simp [intOf]; omega⟩
        · obtain rfl : mt = 0 := by omega
          have hSP : SpAt w dk w.heap.size k n V3.heap.size F5 wr := ⟨A5, c5, g5, c5', wd5, hS, hO, hT, hV, hD, hG⟩
          have HL := Lib.hid hL
          have HX := Lib.hid hX
          have HI := Lib.hid hI
          have HSP := Lib.hid hSP
          have zi : W2.heap.size < wr.heap.size := hI.lt
          have s1 : IntKind.i64.wrap ((t : Int) - 1) = ((t - 1 : Nat) : Int) := by rw [IntWalk.i64_in _ (by omega)]; omega
          clear hL hSP hX hI hS hO hT hV hD hG q0 q1 q2
          by_cases hi4 : 0 < i4
          · obtain ⟨i0', hi0', hz0, hz1, hz2⟩ := info_parts inc_info
            obtain ⟨hxs, hbx⟩ := HL.out
            have HXS := Lib.hid hxs
            have HBX := Lib.hid hbx
            clear hxs hbx
            go_wp2_with (at_builtin; refine wpList_append_own _ rfl _ _ 29 rfl (V3.heap.size + 1) 53 i0' (.agg #[.int .i64 0, .int .i64 0, .int .i64 0, .int .i64 0, .int .i64 0]) 5 40 Try.underlying29 hi0' hz0 hz1 hz2 rfl (by decide) _ j (incCells I) rfl (HXS.out.alloc _) ⟨wr.heap.size, 0, none⟩ 1 1 [.int .i64 i0, .int .i64 i1, .int .i64 i2, .int .i64 i3, .int .i64 i4] rfl rfl ?c1 (by simp [Value.oneCell']) (by simp only [maxLen]; omega) (by omega) ?c5 ?_)
            case c1 => exact five_news (by go_simp) (by go_simp) (by go_simp) (by go_simp) (by go_simp)
            case c5 => simp; omega
            intro v' w1 hown' hgrow _
            obtain ⟨U, hU⟩ : ∃ U, U = wr.alloc (.cells #[.int .i64 i0, .int .i64 i1, .int .i64 i2, .int .i64 i3, .int .i64 i4] 53) := ⟨_, rfl⟩
            rw [← hU] at hgrow
            have hbu : Below wr.heap.size wr U := by rw [hU]; exact (Below.refl _ _).alloc (Nat.le_refl _) _
            have hr : ∀ b, (Value.slice A0 j c0).ownBlock = some b → V3.heap.size < b := row_block HXS.out
            have ht : ∀ b, (Value.slice A0 j c0).ownBlock = some b → ∃ cs, Blk U b 53 cs := fun b hb => by
              obtain ⟨cs, hh⟩ := row_type HXS.out b hb
              exact ⟨cs, hh.next hbu⟩
            have HL1 := Lib.hid (row_of hown' rfl)
            have HSP1 := Lib.hid ((HSP.out.next hlt (by omega) hbu).row hlt hsb hgrow hr ht)
            have HX1 := Lib.hid ((HX.out.next hbu).row hgrow (fun e => by have := hr _ e; omega))
            have hs1 : wr.heap.size ≤ w1.heap.size := Nat.le_trans hbu.size hgrow.size
            clear hU hbu hr ht hown' hgrow HL HSP HX HI HXS HBX hi0' hz0 hz1 hz2
            go_wp2
            exact ⟨⟨t - 1, j + 1, I ++ [⟨i0, i1, i2, i3, i4⟩], F5, rfl, by omega, by rw [incCells_snoc]; exact HL1.out, HSP1.out, HX1.out, by omega, by rw [List.length_append, HIL.out]; rfl, HALL5.out.snoc HINC.out hi4 (by rw [HIL.out]; exact hlo) (by rw [HIL.out]; exact hhi), fun f hf => by have := HFR5.out f hf; omega⟩, by simp [intOf]; omega⟩
          · have HNO := Lib.hid (show ∀ f, f < n → (F5 f).ow = -1 ∨ (F5 f).ow < 3 * (j : Int) from fun f hf => by
              obtain ⟨_, _, _, _, W', hw', _, hc'⟩ := HINC.out
              have hW0 : W' = 0 := by omega
              rw [hW0, ceilV_zero] at hc'
              have h1 := cntO_zero hc' f hf
              have h2 := HFR5.out f hf
              omega)
            go_wp2_with fail
            exact ⟨⟨t - 1, j, I, F5, rfl, by omega, HL.out.more (by omega), HSP.out, HX.out, by omega, HIL.out, HALL5.out, HNO.out⟩, by simp [intOf]; omega⟩
    · obtain rfl : t = 0 := by omega
      obtain ⟨A9, c9, g9, c9', wd9, bs, o9, t9, v9, d9, r9⟩ := HSP.out
      have q0 := bs.cell 0
      have q1 := bs.cell 1
      have q2 := bs.cell 2
      have x0 := HX.out.cell 0
      have x1 := HX.out.cell 1
      have x2 := HX.out.cell 2
      have f0 := HX.out.frozen 0
      have f1 := HX.out.frozen 1
      have f2 := HX.out.frozen 2
      simp at q0 q1 q2 x0 x1 x2
      have zx : w.heap.size < wr.heap.size := HX.out.lt
      go_wp2
      refine bodyPost_ret (v := .tuple #[.agg #[.int .i64 k, .slice A9 (n * 2 ^ k) c9, .slice (some ⟨g9, 0, none⟩) n c9'], .slice A0 j c0]) (by simp [results, Try.results9, go_sem, x0, x1, x2]) rfl ⟨k, n, A9, c9, g9, c9', wd9, F, _, rfl, k0, k1, n0, n1, ?_, ?_, v9, ⟨?_, I, V3.heap.size + 1, by omega, ?_, HALL.out⟩, ?_⟩
      · exact ((o9.box HX.out (by decide) 0 _).box (HX.out.set_ 0 _) (by decide) 1 _).box ((HX.out.set_ 0 _).set_ 1 _) (by decide) 2 _
      · exact ((t9.box HX.out (by decide) 0 _).box (HX.out.set_ 0 _) (by decide) 1 _).box ((HX.out.set_ 0 _).set_ 1 _) (by decide) 2 _
      · exact ((d9.far hlt _).far hlt _).far hlt _
      · rw [HIL.out]
        exact (((HL.out.far (p := ⟨w.heap.size, 0, none⟩) (.inl (by show w.heap.size < _; omega)) _).far (p := ⟨w.heap.size, 1, none⟩) (.inl (by show w.heap.size < _; omega)) _).far (p := ⟨w.heap.size, 2, none⟩) (.inl (by show w.heap.size < _; omega)) _).more (by simp)
      · exact turn_new (turn_new (turn_new r9 _ (Nat.le_refl _) _) _ (Nat.le_refl _) _) _ (Nat.le_refl _) _

end Go.Proofs.Ytpbcpobbjoopnaa
