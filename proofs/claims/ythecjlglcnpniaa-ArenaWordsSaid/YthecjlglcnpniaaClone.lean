/-
  Contracts of the clones, of the inner closures of Read, Fill and Copy.
-/
import Derived.Test.YthecjlglcnpniaaInner
import Derived.Laws.AppendOwnNone
import Derived.OwnWalk
namespace Go.Proofs.Ythecjlglcnpniaa
open Go.RowKit
set_option linter.unusedVariables false

/-- A slice of n words that read as f: a row of the call's own; nothing that was there has turned. -/
def GivesOwn (n : Nat) (f : Nat → Int) (w : World) (e : Ending) (w' : World) : Prop :=
  ∃ A c, e = .returned (.slice A n c) ∧ Own w' w.heap.size A n c f ∧ Below w.heap.size w w'

theorem news_cells {w : World} {B n c : Nat} {x : Addr} {f : Nat → Int} (h : Arr w B (some x) n c f) : ∀ j u, (wordsOf n f)[j]? = some u → w.cell? (x.add j) = some u := by
  intro j u hu
  obtain ⟨hj, rfl⟩ := wordsOf_get' hu
  obtain ⟨b, o, hA, _, hc⟩ := h.2.2.2 (by omega)
  injection hA with hA
  subst hA
  rw [add_at]
  exact hc j hj

theorem refClone_any (A : Option Addr) (n c : Nat) (f : Nat → Int) (w : World) (h : Arr w w.heap.size A n c f) (hn : n ≤ 1048576) :
    Calls Try.prog 20 #[.slice A n c] w (GivesOwn n f w) := by
  obtain ⟨i0, hi0, hz0, hz1, hz2⟩ := info_parts word_info
  rcases A with _ | x
  · have hc : c = 0 := h.2.2.1 rfl
    have h1 := h.1
    obtain rfl : n = 0 := by omega
    subst hc
    clear h h1
    go_enter Try.func20, Try.ntmps20
    go_wp2_with (at_builtin; refine wpList_append_own_none _ rfl _ _ _ rfl w.heap.size 23 i0 _ Try.underlying22 hi0 hz0 (.slice none 0 0) 0 [] rfl (World.ownsRow_nil _ _ _ _) ?_)
    go_ret
    exact ⟨none, 0, rfl, Own.nil_ _ _ _, Below.refl _ _⟩
  · have hc := news_cells h
    have H := Lib.hid h
    have HC := Lib.hid hc
    clear h hc
    go_enter Try.func20, Try.ntmps20
    go_wp2_with (at_builtin; refine wpList_append_own _ rfl _ _ 22 rfl w.heap.size 23 i0 _ 1 8 Try.underlying22 hi0 hz0 hz1 hz2 rfl (by decide) _ 0 [] rfl (World.ownsRow_nil _ _ _ _) x n c (wordsOf n f) rfl (by simp [wordsOf]) HC.out (wordsOf_one n f) (by simp only [maxLen]; omega) (by omega) (Nat.le_refl _) ?_)
    intro v1 w1 hown hg _
    obtain ⟨A1, c1, rfl, ho⟩ := own_of_row hown (fun j hj => wordsOf_get n f j hj)
    have HO := Lib.hid ho
    have HG := Lib.hid hg
    clear ho hg hown
    go_wp2
    go_ret
    exact ⟨A1, c1, rfl, HO.out, (Below.refl _ _).grown HG.out (Nat.le_refl _) (by simp [Value.ownBlock])⟩

theorem clone_any (A : Option Addr) (n c : Nat) (f : Nat → Int) (w : World) (h : Arr w w.heap.size A n c f) (hn : n ≤ 1048576) :
    Calls Try.prog 26 #[.slice A n c] w (GivesOwn n f w) := by
  obtain ⟨i0, hi0, hz0, hz1, hz2⟩ := info_parts word_info
  have qT : ∀ (w : World) (a : Option Addr) (n c n' c' : Nat), (binOp .eql 22 (.slice a n c) (.slice none n' c')).run Try.prog w = .ok (.bool a.isNone) w := fun w a n c n' c' => Lib.run_eql_slice_nil w _ _ a n c n' c' Try.underlying22
  rcases A with _ | x
  · have hc : c = 0 := h.2.2.1 rfl
    have h1 := h.1
    obtain rfl : n = 0 := by omega
    subst hc
    clear h h1
    go_enter Try.func26, Try.ntmps26
    go_wp2
    go_ret
    exact ⟨none, 0, rfl, Own.nil_ _ _ _, Below.refl _ _⟩
  · have hc := news_cells h
    have h2 : Arr (w.alloc (.cells #[] 23)) w.heap.size (some x) n c f := h.below ((Below.refl _ _).alloc (Nat.le_refl _) _)
    have hc2 := news_cells h2
    have hw : (w.alloc (.cells #[] 23)).ownsRow w.heap.size 23 1 (.slice (some ⟨w.heap.size, 0, none⟩) 0 0) 0 [] := World.ownsRow_made w #[] 0 (Nat.le_refl _) (by simp) (by simp)
    have HC := Lib.hid hc2
    have HW := Lib.hid hw
    clear h hc h2 hc2 hw
    go_enter Try.func26, Try.ntmps26
    go_wp2_with (at_builtin; refine wpList_append_own _ rfl _ _ 22 rfl w.heap.size 23 i0 _ 1 8 Try.underlying22 hi0 hz0 hz1 hz2 rfl (by decide) _ 0 [] rfl HW.out x n c (wordsOf n f) rfl (by simp [wordsOf]) HC.out (wordsOf_one n f) (by simp only [maxLen]; omega) (by omega) (by simp) ?_)
    intro v1 w1 hown hg _
    obtain ⟨A1, c1, rfl, ho⟩ := own_of_row hown (fun j hj => wordsOf_get n f j hj)
    have HO := Lib.hid ho
    have HG := Lib.hid hg
    clear ho hg hown
    go_wp2
    go_ret
    refine ⟨A1, c1, rfl, HO.out, ((Below.refl _ _).alloc (Nat.le_refl _) _).grown HG.out (by simp) ?_⟩
    intro k hk
    simp [Value.ownBlock] at hk
    omega
end Go.Proofs.Ythecjlglcnpniaa
