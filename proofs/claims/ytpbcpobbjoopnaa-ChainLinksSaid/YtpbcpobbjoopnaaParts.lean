/-
  The walk of FrameParts.
-/
import Derived.Test.YtpbcpobbjoopnaaSpoilt
import Derived.Test.YtpbcpobbjoopnaaSame
import Derived.Test.YtpbcpobbjoopnaaUn
import Derived.Test.YtpbcpobbjoopnaaRefs
namespace Go.Proofs.Ytpbcpobbjoopnaa
open Go.RowKit
set_option linter.unusedVariables false

theorem ListP.next {w w' : World} {A : Option Addr} {n c : Nat} (h : ListP w w.heap.size A n c) (hb : Below w.heap.size w w') : ListP w' w'.heap.size A n c := by
  obtain ⟨h1, h2, h3⟩ := h
  refine ⟨h1, h2, fun j hj => ?_⟩
  obtain ⟨b, o, v, e, hl, hc, hv⟩ := h3 j hj
  have := hb.size
  exact ⟨b, o, v, e, by omega, by rw [hb.cell hl]; exact hc, hv⟩

theorem below_turn {d : Nat} {a w w1 : World} (h : Below a.heap.size a w) (hG : w.grownBy w1 (some d)) (hd : a.heap.size ≤ d) : Below a.heap.size a w1 :=
  h.trans ⟨hG.os, hG.tape, hG.output, hG.size, fun i hi => hG.block i (by have := h.size; omega) (fun e => by injection e; omega)⟩

/-- The j-th space of a slice of spaces in block Q. -/
def XAt (W : World) (Q j : Nat) : Prop := ∃ (s : Int) (A : Option Addr) (nw c : Nat) (A' : Option Addr) (n c' : Nat), n ≤ 80 ∧ W.cell? ⟨Q, j * 3, none⟩ = some (.int .i64 s) ∧ W.cell? ⟨Q, j * 3 + 1, none⟩ = some (.slice A nw c) ∧ W.cell? ⟨Q, j * 3 + 2, none⟩ = some (.slice A' n c')

/-- The j-th of a slice of triples of numbers in block Q. -/
def TriAt (W : World) (Q j : Nat) : Prop := ∃ (b : Nat) (x y z : Int), b < W.heap.size ∧ W.cell? ⟨Q, j, none⟩ = some (.slice (some ⟨b, 0, none⟩) 3 3) ∧ W.cell? ⟨b, 0, none⟩ = some (.int .i64 x) ∧ W.cell? ⟨b, 1, none⟩ = some (.int .i64 y) ∧ W.cell? ⟨b, 2, none⟩ = some (.int .i64 z) ∧
  (-9223372036854775808 ≤ x ∧ x ≤ 9223372036854775807) ∧ (-9223372036854775808 ≤ y ∧ y ≤ 9223372036854775807) ∧ (-9223372036854775808 ≤ z ∧ z ≤ 9223372036854775807)

/-- What one round of the inner loop reads: the box of x and the triple p. -/
def InP (W : World) (bx bt : Nat) (s : Int) (V1 : Value) (A : Option Addr) (n c : Nat) (x y z : Int) : Prop :=
  W.cell? ⟨bx, 0, none⟩ = some (.int .i64 s) ∧ W.cell? ⟨bx, 1, none⟩ = some V1 ∧ W.cell? ⟨bx, 2, none⟩ = some (.slice A n c) ∧ W.cell? ⟨bt, 0, none⟩ = some (.int .i64 x) ∧ W.cell? ⟨bt, 1, none⟩ = some (.int .i64 y) ∧ W.cell? ⟨bt, 2, none⟩ = some (.int .i64 z) ∧ bx < W.heap.size ∧ bt < W.heap.size
theorem InP.next {W W' : World} {bx bt n c : Nat} {s x y z : Int} {V1 : Value} {A : Option Addr} (h : InP W bx bt s V1 A n c x y z) (hb : Below W.heap.size W W') : InP W' bx bt s V1 A n c x y z := by
  obtain ⟨h0, h1, h2, h3, h4, h5, h6, h7⟩ := h
  have := hb.size
  exact ⟨(hb.cell h6).trans h0, (hb.cell h6).trans h1, (hb.cell h6).trans h2, (hb.cell h7).trans h3, (hb.cell h7).trans h4, (hb.cell h7).trans h5, by omega, by omega⟩

/-- The space that the list's numbers make. -/
def MadeSp (w : World) (e : Ending) (w' : World) : Prop :=
  ∃ (k n : Nat) (A : Option Addr) (c g c' : Nat) (wd : Nat → Int) (F : Nat → Fr) (L : Value), e = .returned (.tuple #[.agg #[.int .i64 k, .slice A (n * 2 ^ k) c, .slice (some ⟨g, 0, none⟩) n c'], L]) ∧ 3 ≤ k ∧ k ≤ 4 ∧ 2 ≤ n ∧ n ≤ 10 ∧
    Own w' w.heap.size A (n * 2 ^ k) c wd ∧ OwnT w' w.heap.size (some ⟨g, 0, none⟩) n c' F ∧ Below w.heap.size w w'

end Go.Proofs.Ytpbcpobbjoopnaa
