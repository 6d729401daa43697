/-
  Merged: Spoilt.
-/
import Derived.Test.YtmhbbjbbckdlbaaDoorMSpace
import Derived.Test.YtmhbbjbbckdlbaaDoorMRef
import Derived.Deep.RegionWith
import Derived.Deep.CutBlock
import Derived.Deep.DeepCutAuto
namespace Go.Proofs.YtmhbbjbbckdlbaaDoor
open Go.RowKit
set_option maxRecDepth 100000
set_option linter.unusedVariables false

theorem Own.ownsRow {w : World} {base n c : Nat} {A : Option Addr} {f : Nat → Int} (h : Own w base A n c f) : w.ownsRow base 92 1 (.slice A n c) n (wordsOf n f) := by
  obtain ⟨h1, h2, h3⟩ := h
  refine ⟨by rw [wordsOf_length, Nat.mul_one], ?_⟩
  rcases h3 with ⟨rfl, rfl⟩ | ⟨g, cur, rfl, hb, hh, hs, hc⟩
  · obtain rfl : n = 0 := by omega
    exact .inl ⟨rfl, rfl⟩
  · refine .inr ⟨g, c, cur, rfl, hb, hh, h1, h2, by omega, ?_⟩
    apply List.ext_getElem?
    intro j
    rw [List.getElem?_take]
    rcases Nat.lt_or_ge j n with hl | hg
    · rw [if_pos (by omega), wordsOf_get n f j hl]
      simpa using hc j hl
    · rw [if_neg (by omega), List.getElem?_eq_none (by rw [wordsOf_length]; omega)]

/-- One cell of a table turned: a table still. -/
theorem OwnT.poke {w : World} {base n c g : Nat} {F : Nat → Fr} (h : OwnT w base (some ⟨g, 0, none⟩) n c F) (i : Nat) (hi : i < n) (r : Nat) (hr : r < 3) (v : Int) : ∃ F', OwnT (w.setCell ⟨g, i * 3 + r, none⟩ (.int .i64 v)) base (some ⟨g, 0, none⟩) n c F' := by
  obtain ⟨h1, h2, h3⟩ := h
  rcases h3 with ⟨h3, _⟩ | ⟨g0, cur, hA, hb, hg, hs, hc⟩
  · cases h3
  · injection hA with hA
    injection hA with hA
    subst hA
    refine ⟨fun j => if j = i then (if r = 0 then ⟨v, (F j).st, (F j).nx⟩ else if r = 1 then ⟨(F j).ow, v, (F j).nx⟩ else ⟨(F j).ow, (F j).st, v⟩) else F j, h1, h2, .inr ⟨g, cur.setIfInBounds (i * 3 + r) (.int .i64 v), rfl, hb, by simp [World.setCell, Array.getElem?_modify, hg], by simpa using hs, fun j hj => ?_⟩⟩
    obtain ⟨c0, c1, c2⟩ := hc j hj
    by_cases e : j = i
    · subst e
      have hz : j * 3 + 2 < cur.size := by omega
      rcases (show r = 0 ∨ r = 1 ∨ r = 2 by omega) with e | e | e <;> subst e
      · have k1 : ¬ j * 3 + 0 = j * 3 + 1 := by omega
        have k2 : ¬ j * 3 + 0 = j * 3 + 2 := by omega
        have k3 : j * 3 + 0 < cur.size := by omega
        refine ⟨?_, ?_, ?_⟩
        · rw [Array.getElem?_setIfInBounds, if_pos (by omega), if_pos k3]; simp
        · rw [Array.getElem?_setIfInBounds, if_neg k1]; simpa using c1
        · rw [Array.getElem?_setIfInBounds, if_neg k2]; simpa using c2
      · have k1 : ¬ j * 3 + 1 = j * 3 := by omega
        have k2 : ¬ j * 3 + 1 = j * 3 + 2 := by omega
        have k3 : j * 3 + 1 < cur.size := by omega
        refine ⟨?_, ?_, ?_⟩
        · rw [Array.getElem?_setIfInBounds, if_neg k1]; simpa using c0
        · rw [Array.getElem?_setIfInBounds, if_pos rfl, if_pos k3]; simp
        · rw [Array.getElem?_setIfInBounds, if_neg k2]; simpa using c2
      · have k1 : ¬ j * 3 + 2 = j * 3 := by omega
        have k2 : ¬ j * 3 + 2 = j * 3 + 1 := by omega
        refine ⟨?_, ?_, ?_⟩
        · rw [Array.getElem?_setIfInBounds, if_neg k1]; simpa using c0
        · rw [Array.getElem?_setIfInBounds, if_neg k2]; simpa using c1
        · rw [Array.getElem?_setIfInBounds, if_pos rfl, if_pos hz]; simp
    · have k0 : ¬ i * 3 + r = j * 3 := by omega
      have k1 : ¬ i * 3 + r = j * 3 + 1 := by omega
      have k2 : ¬ i * 3 + r = j * 3 + 2 := by omega
      simp only [Array.getElem?_setIfInBounds, if_neg k0, if_neg k1, if_neg k2, if_neg e]
      exact ⟨c0, c1, c2⟩

def SpoiltOf (P : Prop) (nw n : Nat) (w : World) (e : Ending) (w' : World) : Prop :=
  ∃ (k : Int) (nw' c g c' : Nat) (A : Option Addr) (wd : Nat → Int) (F : Nat → Fr), e = .returned (.agg #[.int .i64 k, .slice A nw' c, .slice (some ⟨g, 0, none⟩) n c']) ∧ nw ≤ nw' ∧ nw' ≤ nw + 1 ∧ Own w' w.heap.size A nw' c wd ∧ OwnT w' w.heap.size (some ⟨g, 0, none⟩) n c' F ∧ Below w.heap.size w w' ∧ (P → U64w nw' wd)

structure Spoiling (P : Prop) (w W : World) (b nw n : Nat) (k : Int) (A : Option Addr) (nw' c g c' : Nat) : Prop where
  bx : Blk W b 31 #[.int .i64 k, .slice A nw' c, .slice (some ⟨g, 0, none⟩) n c']
  br : Blk W (w.heap.size + 1) 31 #[.int .i64 0, .slice none 0 0, .slice none 0 0]
  own : ∃ wd, Own W (w.heap.size + 2) A nw' c wd ∧ (P → U64w nw' wd)
  ownT : ∃ F, OwnT W (w.heap.size + 2) (some ⟨g, 0, none⟩) n c' F
  below : Below w.heap.size w W
  lo : nw ≤ nw'
  hi : nw' ≤ nw + 1
theorem Spoiling.end {P : Prop} {w W : World} {b nw n nw' c g c' : Nat} {k : Int} {A : Option Addr} (h : Spoiling P w W b nw n k A nw' c g c') (v0 v1 v2 : Value) :
    SpoiltOf P nw n w (.returned (.agg #[.int .i64 k, .slice A nw' c, .slice (some ⟨g, 0, none⟩) n c'])) (((W.setCell ⟨w.heap.size + 1, 0, none⟩ v0).setCell ⟨w.heap.size + 1, 1, none⟩ v1).setCell ⟨w.heap.size + 1, 2, none⟩ v2) := by
  obtain ⟨_, _, ⟨wd, ho, hu⟩, ⟨F, ht⟩, hb, h1, h2⟩ := h
  exact ⟨k, nw', c, g, c', A, wd, F, rfl, h1, h2, (ho.put3 (by omega) _ _ _).lower (by omega), (ht.put3 (by omega) _ _ _).lower (by omega), below_put3 hb (by omega) _ _ _, hu⟩
/-- One cell of the table turned. -/
theorem Spoiling.poke {P : Prop} {w W : World} {b nw n nw' c g c' : Nat} {k : Int} {A : Option Addr} (h : Spoiling P w W b nw n k A nw' c g c') (hg : g < b) (i : Nat) (hi : i < n) (r : Nat) (hr : r < 3) (v : Int) : Spoiling P w (W.setCell ⟨g, i * 3 + r, none⟩ (.int .i64 v)) b nw n k A nw' c g c' := by
  obtain ⟨bx, br, ⟨wd, ho, hu⟩, ⟨F, ht⟩, hb, h1, h2⟩ := h
  have hbase : w.heap.size + 2 ≤ g := by
    obtain ⟨g1, _⟩ := ht.spotAt i hi ⟨0, 0, 0⟩
    exact g1
  obtain ⟨F', ht'⟩ := ht.poke i hi r hr v
  exact ⟨bx.far (p := ⟨g, i * 3 + r, none⟩) (show b ≠ g by omega) _, br.far (p := ⟨g, i * 3 + r, none⟩) (show w.heap.size + 1 ≠ g by omega) _, ⟨wd, ho.beside ht (turn_set (turn_below (Below.refl _ _)) _ _), hu⟩, ⟨F', ht'⟩, hb.setCell (p := ⟨g, i * 3 + r, none⟩) (show w.heap.size ≤ g by omega) _, h1, h2⟩
theorem Spoiling.drew {P : Prop} {w W : World} {b nw n nw' c g c' : Nat} {k : Int} {A : Option Addr} (h : Spoiling P w W b nw n k A nw' c g c') : Spoiling P w W.drew b nw n k A nw' c g c' :=
  ⟨h.bx, h.br, h.own, h.ownT, h.below.drew, h.lo, h.hi⟩

theorem Spoiling.word {P : Prop} {w W : World} {b nw n nw' c g c' g3 : Nat} {k : Int} (h : Spoiling P w W b nw n k (some ⟨g3, 0, none⟩) nw' c g c') (hg : b ≠ g3) (x : Nat) (hx : x < nw') (v : Int) (hv : 0 ≤ v ∧ v < 18446744073709551616) : Spoiling P w (W.setCell ⟨g3, x, none⟩ (.int .u64 v)) b nw n k (some ⟨g3, 0, none⟩) nw' c g c' := by
  obtain ⟨bx, br, ⟨wd, ho, hu⟩, ⟨F, ht⟩, hb, h1, h2⟩ := h
  obtain ⟨g4, e, hbase, _, _, _, hn⟩ := ho.spot x hx v
  injection e with e
  injection e with e
  subst e
  exact ⟨bx.far (p := ⟨g3, x, none⟩) hg _, br.far (p := ⟨g3, x, none⟩) (show w.heap.size + 1 ≠ g3 by omega) _, ⟨_, hn, fun hP j hj => by
    show 0 ≤ (if j = x then v else wd j) ∧ (if j = x then v else wd j) < 18446744073709551616
    by_cases e : j = x
    · rw [if_pos e]; exact hv
    · rw [if_neg e]; exact hu hP j hj⟩, ⟨F, (ht.beside ho (turn_set (turn_below (Below.refl _ _)) _ _)).1⟩, hb.setCell (p := ⟨g3, x, none⟩) (show w.heap.size ≤ g3 by omega) _, h1, h2⟩
theorem Spoiling.shift {P : Prop} {w W : World} {b nw n nw' c g c' : Nat} {k : Int} {A : Option Addr} (h : Spoiling P w W b nw n k A nw' c g c') (hb : w.heap.size + 2 ≤ b) (v : Int) : Spoiling P w (W.setCell ⟨b, 0, none⟩ (.int .i64 v)) b nw n v A nw' c g c' := by
  obtain ⟨bx, br, ⟨wd, ho, hu⟩, ⟨F, ht⟩, hB, h1, h2⟩ := h
  exact ⟨bx.set_ 0 _, br.far (p := ⟨b, 0, none⟩) (show w.heap.size + 1 ≠ b by omega) _, ⟨wd, ho.box bx (by decide) 0 _, hu⟩, ⟨F, ht.box bx (by decide) 0 _⟩, hB.setCell (p := ⟨b, 0, none⟩) (show w.heap.size ≤ b by omega) _, h1, h2⟩
theorem Spoiling.entry {P : Prop} {w W : World} {b nw n nw' c g c' i : Nat} {k : Int} {A : Option Addr} {F : Nat → Fr} {v0 v1 v2 : Value} (h : Spoiling P w W b nw n k A nw' c g c') (hg : g < b) (hb2 : w.heap.size + 2 ≤ g) (hn : OwnT (((W.setCell ⟨g, i * 3, none⟩ v0).setCell ⟨g, i * 3 + 1, none⟩ v1).setCell ⟨g, i * 3 + 2, none⟩ v2) (w.heap.size + 2) (some ⟨g, 0, none⟩) n c' F) :
    Spoiling P w (((W.setCell ⟨g, i * 3, none⟩ v0).setCell ⟨g, i * 3 + 1, none⟩ v1).setCell ⟨g, i * 3 + 2, none⟩ v2) b nw n k A nw' c g c' := by
  obtain ⟨bx, br, ⟨wd, ho, hu⟩, ⟨F, ht⟩, hB, h1, h2⟩ := h
  exact ⟨bx.far3 (by omega) _ _ _, br.far3 (by omega) _ _ _, ⟨wd, ho.beside ht (turn_set3 (turn_below (Below.refl _ _)) _ _ _ _ _ _), hu⟩, ⟨_, hn⟩, below_set3 hB (by omega) _ _ _, h1, h2⟩

theorem Blk.rowT {w w' : World} {b : Nat} {t t' : TypeId} {cs : Array Value} {row : Option Nat} (h : Blk w b t cs) (hG : w.grownBy w' row) (hr : ∀ x, row = some x → ∃ cs, Blk w x t' cs) (ht : t ≠ t') : Blk w' b t cs :=
  h.row hG fun e => by
    obtain ⟨cs', h'⟩ := hr _ e
    unfold Blk at h h'
    rw [h] at h'
    injection h' with h'
    injection h' with _ h'
    exact ht h'
theorem Spoiling.next {P : Prop} {w W W' : World} {b nw n nw' c g c' : Nat} {k : Int} {A : Option Addr} (h : Spoiling P w W b nw n k A nw' c g c') (hb : Below W.heap.size W W') : Spoiling P w W' b nw n k A nw' c g c' := by
  obtain ⟨bx, br, ⟨wd, ho, hu⟩, ⟨F, ht⟩, hB, h1, h2⟩ := h
  exact ⟨bx.next hb, br.next hb, ⟨wd, ho.below hb, hu⟩, ⟨F, ht.below hb⟩, below_next hB (Nat.le_refl _) hb, h1, h2⟩
theorem Spoiling.app {P : Prop} {w W W' : World} {b nw n c g c' c2 : Nat} {k : Int} {A A2 : Option Addr} {wd2 : Nat → Int} (h : Spoiling P w W b nw n k A nw c g c') (hw : w.heap.size + 2 ≤ W.heap.size) (hb2 : w.heap.size + 2 ≤ b) (hG : W.grownBy W' (Value.slice A nw c).ownBlock) (ho2 : Own W' (w.heap.size + 2) A2 (nw + 1) c2 wd2) (hu2 : P → U64w (nw + 1) wd2) :
    Spoiling P w (W'.setCell ⟨b, 1, none⟩ (.slice A2 (nw + 1) c2)) b nw n k A2 (nw + 1) c2 g c' := by
  obtain ⟨bx, br, ⟨wd, ho, hu⟩, ⟨F, ht⟩, hB, h1, h2⟩ := h
  have hr := row_type ho.ownsRow
  have hrb := row_block ho.ownsRow
  have bx' := bx.rowT hG hr (by decide)
  exact ⟨bx'.set_ 1 _, (br.rowT hG hr (by decide)).far (p := ⟨b, 1, none⟩) (show w.heap.size + 1 ≠ b by omega) _, ⟨_, ho2.box bx' (by decide) 1 _, hu2⟩, ⟨F, (ht.row hG hr (by decide)).box bx' (by decide) 1 _⟩,
    (hB.grown hG (by omega) (fun x hx => by have := hrb x hx; omega)).setCell (p := ⟨b, 1, none⟩) (show w.heap.size ≤ b by omega) _, by omega, Nat.le_refl _⟩

theorem u64_wrap {x : Int} : 0 ≤ IntKind.u64.wrap x ∧ IntKind.u64.wrap x < 18446744073709551616 := by
  have e : IntKind.u64.wrap x = x % 18446744073709551616 := by simp [IntKind.wrap, IntKind.signed, IntKind.bits]
  omega

end Go.Proofs.YtmhbbjbbckdlbaaDoor
