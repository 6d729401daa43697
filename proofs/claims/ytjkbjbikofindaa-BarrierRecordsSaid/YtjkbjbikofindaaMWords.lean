/-
  Merged: Back, Parts, Makes, Opens.
-/
import Derived.Test.YtjkbjbikofindaaMBase
import Derived.Deep.DeepCutAuto
import Derived.Test.YtjkbjbikofindaaMSpoilt
import Derived.Test.YtjkbjbikofindaaMRef
import Derived.Lib.SmallJoins
import Derived.ChangeSlices
import Derived.Deep.Slices
import Derived.Deep.Fields
namespace Go.Proofs.Ytjkbjbikofindaa
set_option maxRecDepth 100000
open Go.RowKit
set_option linter.unusedVariables false

end Go.Proofs.Ytjkbjbikofindaa

namespace Go.Proofs.Ytjkbjbikofindaa
set_option maxRecDepth 100000
open Go.RowKit
set_option linter.unusedVariables false

theorem ListP.next {w w' : World} {A : Option Addr} {n c : Nat} (h : ListP w w.heap.size A n c) (hb : Below w.heap.size w w') : ListP w' w'.heap.size A n c := by
  obtain ⟨h1, h2, h3⟩ := h
  refine ⟨h1, h2, fun j hj => ?_⟩
  obtain ⟨b, o, v, e, hl, hc, hv⟩ := h3 j hj
  have := hb.size
  exact ⟨b, o, v, e, by omega, by rw [hb.cell hl]; exact hc, hv⟩

theorem below_turn {d : Nat} {a w w1 : World} (h : Below a.heap.size a w) (hG : w.grownBy w1 (some d)) (hd : a.heap.size ≤ d) : Below a.heap.size a w1 :=
  h.trans ⟨hG.os, hG.tape, hG.output, hG.size, fun i hi => hG.block i (by have := h.size; omega) (fun e => by injection e; omega)⟩

/-- The j-th space of a slice of spaces in block Q. -/
def XAt (W : World) (Q j : Nat) : Prop := ∃ (s : Int) (A : Option Addr) (nw c : Nat) (A' : Option Addr) (n c' : Nat), n ≤ 80 ∧ W.cell? ⟨Q, j * 3, none⟩ = some (.int .i64 s) ∧ W.cell? ⟨Q, j * 3 + 1, none⟩ = some (.slice A nw c) ∧ W.cell? ⟨Q, j * 3 + 2, none⟩ = some (.slice A' n c')

/-- The j-th of a slice of triples of numbers in block Q. -/
def TriAt (W : World) (Q j : Nat) : Prop := ∃ (b : Nat) (x y z : Int), b < W.heap.size ∧ W.cell? ⟨Q, j, none⟩ = some (.slice (some ⟨b, 0, none⟩) 3 3) ∧ W.cell? ⟨b, 0, none⟩ = some (.int .i64 x) ∧ W.cell? ⟨b, 1, none⟩ = some (.int .i64 y) ∧ W.cell? ⟨b, 2, none⟩ = some (.int .i64 z) ∧
  (-9223372036854775808 ≤ x ∧ x ≤ 9223372036854775807) ∧ (-9223372036854775808 ≤ y ∧ y ≤ 9223372036854775807) ∧ (-9223372036854775808 ≤ z ∧ z ≤ 9223372036854775807)

/-- What one round of the inner loop reads: the box of x and the triple p. -/
def InP (W : World) (bx bt : Nat) (s : Int) (V1 : Value) (A : Option Addr) (n c : Nat) (x y z : Int) : Prop :=
  W.cell? ⟨bx, 0, none⟩ = some (.int .i64 s) ∧ W.cell? ⟨bx, 1, none⟩ = some V1 ∧ W.cell? ⟨bx, 2, none⟩ = some (.slice A n c) ∧ W.cell? ⟨bt, 0, none⟩ = some (.int .i64 x) ∧ W.cell? ⟨bt, 1, none⟩ = some (.int .i64 y) ∧ W.cell? ⟨bt, 2, none⟩ = some (.int .i64 z) ∧ bx < W.heap.size ∧ bt < W.heap.size
theorem InP.next {W W' : World} {bx bt n c : Nat} {s x y z : Int} {V1 : Value} {A : Option Addr} (h : InP W bx bt s V1 A n c x y z) (hb : Below W.heap.size W W') : InP W' bx bt s V1 A n c x y z := by
  obtain ⟨h0, h1, h2, h3, h4, h5, h6, h7⟩ := h
  have := hb.size
  exact ⟨(hb.cell h6).trans h0, (hb.cell h6).trans h1, (hb.cell h6).trans h2, (hb.cell h7).trans h3, (hb.cell h7).trans h4, (hb.cell h7).trans h5, by omega, by omega⟩

/-- The space that the list's numbers make. -/
def MadeSp (w : World) (e : Ending) (w' : World) : Prop :=
  ∃ (k n : Nat) (A : Option Addr) (c g c' : Nat) (wd : Nat → Int) (F : Nat → Fr) (L : Value), e = .returned (.tuple #[.agg #[.int .i64 k, .slice A (n * 2 ^ k) c, .slice (some ⟨g, 0, none⟩) n c'], L]) ∧ 3 ≤ k ∧ k ≤ 4 ∧ 2 ≤ n ∧ n ≤ 10 ∧
    Own w' w.heap.size A (n * 2 ^ k) c wd ∧ OwnT w' w.heap.size (some ⟨g, 0, none⟩) n c' F ∧ Below w.heap.size w w'

end Go.Proofs.Ytjkbjbikofindaa

namespace Go.Proofs.Ytjkbjbikofindaa
set_option maxRecDepth 100000
open Go.RowKit
set_option linter.unusedVariables false

/-- The rows of a space can be read. -/
def YV (W : World) (s : Int) (A : Option Addr) (nw c : Nat) (A' : Option Addr) (n c' : Nat) : Prop := ∃ wd F, Arr W W.heap.size A nw c wd ∧ Tab W W.heap.size A' n c' F
theorem YV.next {W W' : World} {s : Int} {A A' : Option Addr} {nw c n c' : Nat} (h : YV W s A nw c A' n c') (hb : Below W.heap.size W W') : YV W' s A nw c A' n c' := by
  obtain ⟨wd, F, h1, h2⟩ := h
  exact ⟨wd, F, h1.next hb, h2.next hb⟩

/-- The j-th space of a slice of spaces in block Q. -/
def YAt (W : World) (Q j : Nat) : Prop := ∃ (s : Int) (A : Option Addr) (nw c : Nat) (A' : Option Addr) (n c' : Nat), W.cell? ⟨Q, j * 3, none⟩ = some (.int .i64 s) ∧ W.cell? ⟨Q, j * 3 + 1, none⟩ = some (.slice A nw c) ∧ W.cell? ⟨Q, j * 3 + 2, none⟩ = some (.slice A' n c') ∧ YV W s A nw c A' n c'

/-- What New gives, on either side. -/
def NewGives (s err : Int) (nw n : Nat) (w : World) (e : Ending) (w' : World) : Prop :=
  ∃ A c A' c', e = .returned (.tuple #[.agg #[.int .i64 s, .slice A nw c, .slice A' n c'], .int .i64 err]) ∧ Own w' w.heap.size A nw c (fun _ => 0) ∧ OwnT w' w.heap.size A' n c' (fun _ => frFree) ∧ Below w.heap.size w w'

/-- The j-th of a slice of pairs of numbers in block Q. -/
def TwoAt (W : World) (Q j : Nat) : Prop := ∃ (b : Nat) (x y : Int), b < W.heap.size ∧ W.cell? ⟨Q, j, none⟩ = some (.slice (some ⟨b, 0, none⟩) 2 2) ∧ W.cell? ⟨b, 0, none⟩ = some (.int .i64 x) ∧ W.cell? ⟨b, 1, none⟩ = some (.int .i64 y)

theorem cell_far3 {W : World} {b g o : Nat} (h : g ≠ b) (v0 v1 v2 : Value) : (((W.setCell ⟨b, 0, none⟩ v0).setCell ⟨b, 1, none⟩ v1).setCell ⟨b, 2, none⟩ v2).cell? ⟨g, o, none⟩ = W.cell? ⟨g, o, none⟩ := by
  rw [World.cell?_setCell_other _ _ _ _ (by intro e; injection e; omega), World.cell?_setCell_other _ _ _ _ (by intro e; injection e; omega), World.cell?_setCell_other _ _ _ _ (by intro e; injection e; omega)]

/-- A box of a new space. -/
def BoxAt (R : World) (s : Int) (nw n : Nat) (v : Value) (W : World) : Prop := ∃ (b : Nat) (A : Option Addr) (c : Nat) (A' : Option Addr) (c' : Nat), v = .pointer (some ⟨b, 0, none⟩) ∧ Blk W b 25 #[.int .i64 s, .slice A nw c, .slice A' n c'] ∧
  Arr W W.heap.size A nw c (fun _ => 0) ∧ Tab W W.heap.size A' n c' (fun _ => frFree) ∧ Below R.heap.size R W

theorem box_late {R U wn : World} {s : Int} {nw n c c' : Nat} {A A' : Option Addr} (hU : Below R.heap.size R U) (hb : Below U.heap.size U wn) (ho : Own wn U.heap.size A nw c (fun _ => 0)) (ht : OwnT wn U.heap.size A' n c' (fun _ => frFree)) :
    BoxAt R s nw n (.pointer (some ⟨wn.heap.size, 0, none⟩)) (wn.alloc (.cells #[.int .i64 s, .slice A nw c, .slice A' n c'] 25)) := by
  have h1 : Below wn.heap.size wn (wn.alloc (.cells #[.int .i64 s, .slice A nw c, .slice A' n c'] 25)) := (Below.refl _ _).alloc (Nat.le_refl _) _
  exact ⟨_, A, c, A', c', rfl, Blk.new _ _ _, (ho.below h1).arr, (ht.below h1).tab, below_next (below_next hU (Nat.le_refl _) hb) (Nat.le_refl _) h1⟩
theorem box_early {R U wn : World} {s : Int} {nw n c c' b : Nat} {A A' : Option Addr} {cs : Array Value} (hbR : R.heap.size ≤ b) (hU : Below R.heap.size R U) (hb : Below U.heap.size U wn) (bb : Blk wn b 25 cs) (hbU : b < U.heap.size) (hcs : cs.size = 3) (ho : Own wn U.heap.size A nw c (fun _ => 0)) (ht : OwnT wn U.heap.size A' n c' (fun _ => frFree)) :
    BoxAt R s nw n (.pointer (some ⟨b, 0, none⟩)) (((wn.setCell ⟨b, 0, none⟩ (.int .i64 s)).setCell ⟨b, 1, none⟩ (.slice A nw c)).setCell ⟨b, 2, none⟩ (.slice A' n c')) := by
  have hset : ((cs.setIfInBounds 0 (.int .i64 s)).setIfInBounds 1 (.slice A nw c)).setIfInBounds 2 (.slice A' n c') = #[.int .i64 s, .slice A nw c, .slice A' n c'] := by
    obtain ⟨l⟩ := cs
    match l, hcs with
    | [_, _, _], _ => rfl
  refine ⟨b, A, c, A', c', rfl, ?_, (ho.put3 hbU _ _ _).arr, (ht.put3 hbU _ _ _).tab, below_put3 (below_next hU (Nat.le_refl _) hb) hbR _ _ _⟩
  rw [← hset]
  exact ((bb.set_ 0 _).set_ 1 _).set_ 2 _

end Go.Proofs.Ytjkbjbikofindaa

namespace Go.Proofs.Ytjkbjbikofindaa
open Go.ChangeShapes Go.WideShapes Go.ChangeAt Go.RowKit Go.Deep Go.Joins
set_option maxRecDepth 100000
set_option linter.unusedVariables false

section
variable {H : Type} {enc : TypeId × Value → H} {W : World} {r : Reach} {b0 base : Nat} {held : Bool}

theorem rows_in {x : Addr} {len cap : Nat} {zs : List Int} (hl : len ≤ cap) (hm : cap ≤ maxLen) (hz : zs.length = cap) (hc : ∀ i, i < zs.length → W.cell? (x.add i) = some (.int .u64 (zs.getD i 0))) :
    Arr W W.heap.size (some x) len cap (fun j => zs.getD j 0) := by
  refine ⟨hl, hm, (fun e => by cases e), fun hn => ?_⟩
  obtain ⟨b, o, s⟩ := x
  have h0 := hc 0 (by omega)
  have hs : s = none := by simpa [Addr.add] using World.cell?_spot h0
  subst hs
  rw [add_at] at h0
  refine ⟨b, o, rfl, cell_lt h0, fun j hj => ?_⟩
  have h1 := hc j (by omega)
  rw [add_at] at h1
  exact h1

theorem list_in {x : Addr} {len cap : Nat} {zs : List Int} (hl : len ≤ cap) (hm : cap ≤ maxLen) (hz : zs.length = cap) (hc : ∀ i, i < zs.length → W.cell? (x.add i) = some (.int .i64 (zs.getD i 0))) (hw : ∀ n ∈ zs, (Lit.int .i64 n).wf = true) :
    ListP W W.heap.size (some x) len cap := by
  refine ⟨hl, hm, fun j hj => ?_⟩
  obtain ⟨b, o, s⟩ := x
  have h00 := hc 0 (by omega)
  have hs : s = none := by simpa [Addr.add] using World.cell?_spot h00
  subst hs
  have h0 := hc j (by omega)
  rw [add_at] at h0
  refine ⟨b, o, _, rfl, cell_lt h0, h0, ?_⟩
  refine bounds_i64 (hw _ ?_)
  have hjl : j < zs.length := by omega
  have hg : zs.getD j 0 = zs[j] := by simp [List.getD_eq_getElem?_getD, List.getElem?_eq_getElem hjl]
  rw [hg]
  exact List.getElem_mem _

theorem frames_in {x : Addr} {len cap : Nat} (hl : len ≤ cap) (hm : cap ≤ maxLen) (hi : ∀ i, i < len → ∃ a b c : Int, W.cell? (x.add (i * 3)) = some (.int .i64 a) ∧ W.cell? (x.add (i * 3 + 1)) = some (.int .i64 b) ∧ W.cell? (x.add (i * 3 + 2)) = some (.int .i64 c)) :
    ∃ F, Tab W W.heap.size (some x) len cap F := by
  rcases Nat.eq_zero_or_pos len with e | hn
  · subst e
    exact ⟨fun _ => frFree, hl, hm, (fun e => by cases e), fun h => absurd h (by omega)⟩
  · obtain ⟨b, o, s⟩ := x
    obtain ⟨_, _, _, h0, _⟩ := hi 0 hn
    have hs : s = none := by simpa [Addr.add] using World.cell?_spot h0
    subst hs
    rw [add_at] at h0
    have hf : ∀ i, i < len → ∃ f : Fr, W.cell? ⟨b, o + i * 3, none⟩ = some (.int .i64 f.ow) ∧ W.cell? ⟨b, o + i * 3 + 1, none⟩ = some (.int .i64 f.st) ∧ W.cell? ⟨b, o + i * 3 + 2, none⟩ = some (.int .i64 f.nx) := fun i h => by
      obtain ⟨a, b, c, h1, h2, h3⟩ := hi i h
      rw [add_at] at h1 h2 h3
      exact ⟨⟨a, b, c⟩, h1, h2, h3⟩
    refine ⟨fun i => if h : i < len then Classical.choose (hf i h) else frFree, hl, hm, (fun e => by cases e), fun _ => ⟨b, o, rfl, cell_lt h0, fun j hj => ?_⟩⟩
    simp only [dif_pos hj]
    exact Classical.choose_spec (hf j hj)

theorem open_space {v : Value} {d : DataW H} {p : List MemPlace} (hv : Value.okWide Try.prog W r b0 25 v) (h : DataW.Trod enc Try.prog W base (fun _ => true) held 25 v d p) :
    ∃ (s : Int) (A : Option Addr) (nw c : Nat) (A' : Option Addr) (n c' : Nat) (wd : Nat → Int) (F : Nat → Fr), v = .agg #[.int .i64 s, .slice A nw c, .slice A' n c'] ∧ Arr W W.heap.size A nw c wd ∧ Tab W W.heap.size A' n c' F := by
  obtain ⟨v0, v1, v2, y0, y1, y2, n, rfl, _, _, h0, h1, h2⟩ := open_agg3 Try.underlying25 (by kernel_rfl) (by kernel_rfl) hv h
  obtain ⟨s, e0, _, _⟩ := DataW.trod_int Try.underlying3 h0
  injection e0 with e0
  subst e0
  have hw : ∃ A nw c wd, v1 = .slice A nw c ∧ Arr W W.heap.size A nw c wd := by
    rcases open_ints Try.underlying22 Try.underlying28 (by kernel_rfl) h1 with ⟨hcs, _⟩ | ⟨x, l, c, zs, hcs, _, hl, hm, hz, _, hcell, _⟩
    · injection hcs with hcs
      exact ⟨none, 0, 0, fun _ => 0, hcs, Arr.nil _ _ _⟩
    · injection hcs with hcs
      exact ⟨some x, l, c, _, hcs, rows_in hl hm (by simpa using hz) hcell⟩
  have ht : ∃ A n c F, v2 = .slice A n c ∧ Tab W W.heap.size A n c F := by
    rcases open_slice Try.underlying23 h2 with ⟨hcs, _⟩ | ⟨x, l, c, m, n', D, Pl, hcs, _, hl, hm, hmm, _, hi⟩
    · injection hcs with hcs
      exact ⟨none, 0, 0, fun _ => frFree, hcs, Tab.nil _ _ _⟩
    · injection hcs with hcs
      have hC : Try.prog.cellsOf 61 = 3 := by kernel_rfl
      rw [hC] at hi
      simp only [if_true] at hmm
      obtain ⟨F, hF⟩ := frames_in (W := W) (x := x) hl hm (fun i h => by
        obtain ⟨cs, hc, ht⟩ := hi i (by omega)
        obtain ⟨ys, n2, _, _, hlen, hyl, hf⟩ := DataW.trod_struct Try.underlying61 ht
        obtain ⟨_, hcl, hat⟩ := World.cells?_some hc
        match cs, hlen.trans hC with
        | [u0, u1, u2], _ =>
          have k0 := hat 0 (by omega)
          have k1 := hat 1 (by omega)
          have k2 := hat 2 (by omega)
          obtain ⟨z0, hz0⟩ : ∃ z, ys[0]? = some z := ⟨_, List.getElem?_eq_getElem (by rw [hyl]; decide)⟩
          obtain ⟨z1, hz1⟩ : ∃ z, ys[1]? = some z := ⟨_, List.getElem?_eq_getElem (by rw [hyl]; decide)⟩
          obtain ⟨z2, hz2⟩ : ∃ z, ys[2]? = some z := ⟨_, List.getElem?_eq_getElem (by rw [hyl]; decide)⟩
          have g0 := (hf 0 _ rfl).trans hz0
          have g1 := (hf 1 _ rfl).trans hz1
          have g2 := (hf 2 _ rfl).trans hz2
          obtain ⟨a, ea, _, _⟩ := DataW.trod_int Try.underlying3 g0
          obtain ⟨b, eb, _, _⟩ := DataW.trod_int Try.underlying3 g1
          obtain ⟨c, ec, _, _⟩ := DataW.trod_int Try.underlying3 g2
          have hI : Try.prog.cellsOf 3 = 1 := by kernel_rfl
          change List.take (Try.prog.cellsOf 3) (List.drop 0 [u0, u1, u2]) = _ at ea
          change List.take (Try.prog.cellsOf 3) (List.drop 1 [u0, u1, u2]) = _ at eb
          change List.take (Try.prog.cellsOf 3) (List.drop 2 [u0, u1, u2]) = _ at ec
          rw [hI] at ea eb ec
          simp at ea eb ec
          subst ea
          subst eb
          subst ec
          rw [Go.Deep.add_add] at k0 k1 k2
          exact ⟨a, b, c, k0, k1, k2⟩)
      exact ⟨some x, l, c, F, hcs, hF⟩
  obtain ⟨A, nw, c, wd, rfl, hA⟩ := hw
  obtain ⟨A', n, c', F, rfl, hT⟩ := ht
  exact ⟨s, A, nw, c, A', n, c', wd, F, rfl, hA, hT⟩

theorem open_list {v : Value} {d : DataW H} {p : List MemPlace} (hv : Value.okWide Try.prog W r b0 27 v) (h : DataW.Trod enc Try.prog W base (fun _ => true) held 27 v d p) :
    ∃ (A : Option Addr) (n c : Nat), v = .slice A n c ∧ ListP W W.heap.size A n c := by
  obtain ⟨A, n, c, rfl⟩ := okWide_slice Try.underlying27 hv
  refine ⟨A, n, c, rfl, ?_⟩
  obtain ⟨fuel, hf⟩ := h
  rcases open_ints Try.underlying27 Try.underlying3 (by kernel_rfl) hf with ⟨hcs, _⟩ | ⟨x, l, c2, zs, hcs, _, hl, hm, hz, _, hcell, hw⟩
  · simp [Value.cells] at hcs
    obtain ⟨rfl, rfl, rfl⟩ := hcs
    exact ⟨Nat.le_refl _, by simp, fun j hj => absurd hj (by omega)⟩
  · simp [Value.cells] at hcs
    obtain ⟨rfl, rfl, rfl⟩ := hcs
    exact list_in hl hm (by simpa using hz) hcell hw
end
end Go.Proofs.Ytjkbjbikofindaa
