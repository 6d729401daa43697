/-
  Contracts of package pool: clone, isOwner, isBelt, hasOtherStamp; of package slices: Clone, IndexFunc, ContainsFunc at frames.
-/
import Derived.Test.YtpbcpobbjoopnaaFree
import Derived.Test.YtpbcpobbjoopnaaCopy
import Derived.Lib.SliceRun
namespace Go.Proofs.Ytpbcpobbjoopnaa
open Go.RowKit
set_option maxRecDepth 100000
set_option linter.unusedVariables false

theorem clonew_any (b o n c : Nat) (f : Nat → Int) (w : World) (h : Arr w w.heap.size (some ⟨b, o, none⟩) n c f) (hn : n ≤ 1048576) (hn0 : 0 < n) :
    Calls Try.prog 56 #[.slice (some ⟨b, o, none⟩) n c] w (GivesOwn n f w) := by
  obtain ⟨i0, hi0, hz0, hz1, hz2⟩ := info_parts word_info
  have hc := news_words h
  have HC := Lib.hid hc
  have heq : ∀ W, (binOp .eql 22 (.slice (some ⟨b, o, none⟩) n c) (.slice none 0 0)).run Try.prog W = .ok (.bool false) W := fun W => by rw [Lib.run_eql_slice_nil W 22 67 _ n c 0 0 Try.underlying22]; rfl
  clear h hc
  go_enter Try.func56, Try.ntmps56
  go_wp2_with (at_builtin; refine wpList_append_own _ rfl _ _ 22 rfl w.heap.size 67 i0 _ 1 8 Try.underlying22 hi0 hz0 hz1 hz2 rfl (by decide) _ 0 [] rfl ?c0 ⟨b, o, none⟩ n c (wordsOf n f) rfl (by simp [wordsOf]) ?c1 (wordsOf_one n f) (by simp only [maxLen]; omega) (by omega) ?c5 ?_)
  case c0 => exact World.ownsRow_made w #[] 0 (Nat.le_refl _) (by simp) (by simp)
  case c1 => exact fun j u hu => Lib.cell?_alloc_some _ (HC.out j u hu)
  case c5 => simp
  intro v1 w1 hown hg _
  obtain ⟨A1, c1, rfl, ho⟩ := own_of_row hown (fun j hj => wordsOf_get n f j hj)
  have HO := Lib.hid ho
  have HB : Hid (Below w.heap.size w w1) := ((Below.refl _ _).alloc (Nat.le_refl _) _).grown hg (by simp) (by simp [Value.ownBlock])
  clear ho hg hown
  go_wp2
  go_ret
  exact ⟨A1, c1, rfl, HO.out, HB.out⟩

set_option maxHeartbeats 1000000 in
theorem clonef_any (b o n c : Nat) (F : Nat → Fr) (w : World) (h : Tab w w.heap.size (some ⟨b, o, none⟩) n c F) (hn : n ≤ 4096) (hn0 : 0 < n) :
    Calls Try.prog 57 #[.slice (some ⟨b, o, none⟩) n c] w fun e w' => ∃ g c', e = .returned (.slice (some ⟨g, 0, none⟩) n c') ∧ OwnT w' w.heap.size (some ⟨g, 0, none⟩) n c' F ∧ Below w.heap.size w w' := by
  obtain ⟨i0, hi0, hz0, hz1, hz2⟩ := info_parts frame_info
  have hc := tabList_cells h
  have HC := Lib.hid hc
  have heq : ∀ W, (binOp .eql 23 (.slice (some ⟨b, o, none⟩) n c) (.slice none 0 0)).run Try.prog W = .ok (.bool false) W := fun W => by rw [Lib.run_eql_slice_nil W 23 64 _ n c 0 0 Try.underlying23]; rfl
  clear h hc
  go_enter Try.func57, Try.ntmps57
  go_wp2_with (at_builtin; refine wpList_append_own _ rfl _ _ 23 rfl w.heap.size 64 i0 _ 3 24 Try.underlying23 hi0 hz0 hz1 hz2 rfl (by decide) _ 0 [] rfl ?c0 ⟨b, o, none⟩ n c (tabList n F) rfl (tabList_length n F) ?c1 (tabList_one n F) (by simp only [maxLen]; omega) (by omega) ?c5 ?_)
  case c0 => exact World.ownsRow_made w #[] 0 (Nat.le_refl _) (by simp) (by simp)
  case c1 => exact fun j u hu => Lib.cell?_alloc_some _ (HC.out j u hu)
  case c5 => simp
  intro v1 w1 hown hg _
  obtain ⟨g, c1, rfl, ho⟩ := ownT_of_row hown hn0
  have HO := Lib.hid ho
  have HB : Hid (Below w.heap.size w w1) := ((Below.refl _ _).alloc (Nat.le_refl _) _).grown hg (by simp) (by simp [Value.ownBlock])
  clear ho hg hown
  go_wp2
  go_ret
  exact ⟨g, c1, rfl, HO.out, HB.out⟩

/-- Whether a number is an owner's; whether a number is a belt's. -/
def okO (o : Int) : Bool := decide (0 ≤ o ∧ o ≤ 4294967295)
def okB (b : Int) : Bool := decide (0 ≤ b ∧ b < 4)
def anyB (F : Nat → Fr) (o st : Int) : Nat → Bool
  | 0 => false
  | n + 1 => anyB F o st n || (decide ((F n).ow = o) && decide ((F n).st ≠ st))
theorem anyB_iff (F : Nat → Fr) (o st : Int) : ∀ n, anyB F o st n = true ↔ ∃ f, f < n ∧ (F f).ow = o ∧ (F f).st ≠ st
  | 0 => by simp [anyB]
  | n + 1 => by
    simp only [anyB, Bool.or_eq_true, anyB_iff F o st n]
    constructor
    · rintro (⟨f, h1, h2⟩ | h)
      · exact ⟨f, by omega, h2⟩
      · simp at h; exact ⟨n, by omega, h⟩
    · rintro ⟨f, h1, h2, h3⟩
      rcases (show f < n ∨ f = n by omega) with h | rfl
      · exact .inl ⟨f, h, h2, h3⟩
      · right; simp [h2, h3]

/-- A place at which the predicate holds, or -1. -/
def Found (F : Nat → Fr) (o st : Int) (n : Nat) (w : World) (e : Ending) (w' : World) : Prop := (∃ k : Int, e = .returned (.int .i64 k) ∧ -1 ≤ k ∧ decide (0 ≤ k) = anyB F o st n) ∧ Below w.heap.size w w'
end Go.Proofs.Ytpbcpobbjoopnaa
