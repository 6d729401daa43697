/-
  Contracts: the reference's Write, Make, Same; the example of the chapter.
-/
import Derived.Test.YthecjlglcnpniaaRanges
import Derived.Deep.QuietTactic
import Derived.BigQuiet
namespace Go.Proofs.Ythecjlglcnpniaa
open Go.RowKit
set_option linter.unusedVariables false

theorem refWrite_any (A : Option Addr) (n c : Nat) (f : Nat → Int) (a v : Int) (w : World) (h : Arr w w.heap.size A n c f) (hn : n ≤ 1048576) (a0 : -9223372036854775808 ≤ a) (a1 : a ≤ 9223372036854775807) :
    Calls Try.prog 15 #[.slice A n c, .int .i64 a, .int .u64 v] w (GivesArr (fillN n a 1) (putF f a.toNat 1 v) (outE n a 1) w) := by
  have H := Lib.hid h
  have hle := h.1
  have hm := h.2.1
  clear h
  by_cases hc : a < 0 ∨ n ≤ a
  · have e := outE_out (n := n) (a := a) (k := 1) (by omega) (by omega)
    rw [fillN_bad (by rw [e]; decide), e]
    clear e
    by_cases h1 : a < 0
    · clear hc
      go_enter Try.func15, Try.ntmps15
      go_wp2
      go_ret2
      exact ⟨none, 0, rfl, Arr.nil _ _ _, Below.refl _ _⟩
    · have h2 : (n : Int) ≤ a := by omega
      clear hc
      go_enter Try.func15, Try.ntmps15
      go_wp2
      go_ret2
      exact ⟨none, 0, rfl, Arr.nil _ _ _, Below.refl _ _⟩
  · have e := outE_ok (n := n) (a := a) (k := 1) (by omega) (by omega) (by omega)
    rw [fillN_ok e, e]
    have h1 : ¬ a < 0 := by omega
    have h2 : ¬ (n : Int) ≤ a := by omega
    have h3 : 0 ≤ a ∧ a < n := by omega
    clear e hc
    go_enter Try.func15, Try.ntmps15
    go_wp2_with fail
    refine (refClone_any A n c f _ H.out hn).mono ?_
    rintro e w1 ⟨A1, c1, rfl, ho, hb⟩
    obtain ⟨g, rfl, hg1, hg2, hcell, hfree, hnew⟩ := ho.spot a.toNat (by omega) v
    have hb2 : Below w.heap.size w (w1.setCell ⟨g, a.toNat, none⟩ (.int .u64 v)) := hb.setCell hg1 _
    have hP : (fun j => if j = a.toNat then v else f j) = putF f a.toNat 1 v := by
      have := putF_succ f a.toNat 0 v
      rw [putF_zero] at this
      exact this
    rw [hP] at hnew
    have HN := Lib.hid hnew.arr
    have HB2 := Lib.hid hb2
    have hle1 := ho.le
    clear ho hb hnew hb2 hP
    go_wp2
    go_ret2
    exact ⟨_, _, rfl, HN.out, HB2.out⟩

def makeE (k : Int) : Int := if k < 0 ∨ 16384 < k then 1 else 0
def makeN (k : Int) : Nat := if k < 0 ∨ 16384 < k then 0 else k.toNat

theorem made_own (w : World) (n : Nat) (hn : n ≤ 16384) : Own (w.alloc (.cells (madeCells #[.int .u64 0] n) 23)) w.heap.size (some ⟨w.heap.size, 0, none⟩) n n (fun _ => 0) := by
  refine ⟨Nat.le_refl _, by simp only [maxLen]; omega, .inr ⟨w.heap.size, _, rfl, Nat.le_refl _, heap_alloc_new w _, by simp [size_madeCells], fun j hj => ?_⟩⟩
  simp [madeCells, hj, Nat.mod_one]

theorem make_any (k : Int) (w : World) :
    Calls Try.prog 9 #[.int .i64 k] w (GivesArr (makeN k) (fun _ => 0) (makeE k) w) := by
  by_cases h : k < 0 ∨ 16384 < k
  · have e1 : makeN k = 0 := by unfold makeN; rw [if_pos h]
    have e2 : makeE k = 1 := by unfold makeE; rw [if_pos h]
    rw [e1, e2]
    clear e1 e2
    by_cases h1 : k < 0
    · clear h
      go_enter Try.func9, Try.ntmps9
      go_wp2
      go_ret2
      exact ⟨none, 0, rfl, Arr.nil _ _ _, Below.refl _ _⟩
    · have h2 : 16384 < k := by omega
      clear h
      go_enter Try.func9, Try.ntmps9
      go_wp2
      go_ret2
      exact ⟨none, 0, rfl, Arr.nil _ _ _, Below.refl _ _⟩
  · have e1 : makeN k = k.toNat := by unfold makeN; rw [if_neg h]
    have e2 : makeE k = 0 := by unfold makeE; rw [if_neg h]
    rw [e1, e2]
    have h1 : ¬ k < 0 := by omega
    have h2 : ¬ 16384 < k := by omega
    obtain ⟨n, rfl⟩ : ∃ n : Nat, k = n := ⟨k.toNat, by omega⟩
    have hn : n ≤ 16384 := by omega
    have hmk := run_make_row' (P := Try.prog) 22 23 (.int .u64 0) 8 Try.underlying22 word_info rfl .i64 .i64 n (by omega) (by omega)
    have HO := Lib.hid (made_own w n hn).arr
    have HB := Lib.hid ((Below.refl w.heap.size w).alloc (Nat.le_refl _) (.cells (madeCells #[.int .u64 0] n) 23))
    clear e1 e2 h
    go_enter Try.func9, Try.ntmps9
    go_wp2
    go_ret2
    exact ⟨_, _, rfl, HO.out, HB.out⟩

theorem refMake_any (k : Int) (w : World) :
    Calls Try.prog 10 #[.int .i64 k] w (GivesArr (makeN k) (fun _ => 0) (makeE k) w) := by
  by_cases h : k < 0 ∨ 16384 < k
  · have e1 : makeN k = 0 := by unfold makeN; rw [if_pos h]
    have e2 : makeE k = 1 := by unfold makeE; rw [if_pos h]
    rw [e1, e2]
    clear e1 e2
    by_cases h1 : k < 0
    · clear h
      go_enter Try.func10, Try.ntmps10
      go_wp2
      go_ret2
      exact ⟨none, 0, rfl, Arr.nil _ _ _, Below.refl _ _⟩
    · have h2 : 16384 < k := by omega
      clear h
      go_enter Try.func10, Try.ntmps10
      go_wp2
      go_ret2
      exact ⟨none, 0, rfl, Arr.nil _ _ _, Below.refl _ _⟩
  · have e1 : makeN k = k.toNat := by unfold makeN; rw [if_neg h]
    have e2 : makeE k = 0 := by unfold makeE; rw [if_neg h]
    rw [e1, e2]
    have h1 : ¬ k < 0 := by omega
    have h2 : ¬ 16384 < k := by omega
    obtain ⟨n, rfl⟩ : ∃ n : Nat, k = n := ⟨k.toNat, by omega⟩
    have hn : n ≤ 16384 := by omega
    have hmk := run_make_row' (P := Try.prog) 22 23 (.int .u64 0) 8 Try.underlying22 word_info rfl .i64 .i64 n (by omega) (by omega)
    have HO := Lib.hid (made_own w n hn).arr
    have HB := Lib.hid ((Below.refl w.heap.size w).alloc (Nat.le_refl _) (.cells (madeCells #[.int .u64 0] n) 23))
    clear e1 e2 h
    go_enter Try.func10, Try.ntmps10
    go_wp2
    go_ret2
    exact ⟨_, _, rfl, HO.out, HB.out⟩

theorem after_draws {B : Nat} {a w : World} (m : Nat) (h : Below B a w) : Below B a (w.drewN m) := h.trans ⟨rfl, rfl, rfl, Nat.le_refl _, fun _ _ => rfl⟩

/-- Two arrays that read alike are the same. -/
theorem same_yes (A A' : Option Addr) (n c c' : Nat) (f g : Nat → Int) (w : World) (h : Arr w w.heap.size A n c f) (h' : Arr w w.heap.size A' n c' g) (hn : n ≤ 1048576) (e : ∀ j, j < n → f j = g j) :
    Calls Try.prog 11 #[.slice A n c, .slice A' n c'] w fun e w' => e = .returned (.bool true) ∧ Below w.heap.size w w' := by
  have H := Lib.hid h
  have H' := Lib.hid h'
  have HE := Lib.hid e
  clear h h' e
  go_enter Try.func11, Try.ntmps11
  go_wp2
  go_loopw [13] (fun i wr => ∃ t : Nat, t ≤ n ∧ i = .int .i64 t ∧ ∃ m, wr = w.drewN m) (fun i _ => n - (intOf i).toNat)
  case atStart => exact ⟨0, Nat.zero_le _, rfl, 0, rfl⟩
  case round =>
    obtain ⟨t, ht, rfl, m, rfl⟩ := hrel
    by_cases hlt : t < n
    · obtain ⟨b, o, rfl, hb, hc1⟩ := H.out.at_ t hlt
      obtain ⟨b', o', rfl, hb', hc2⟩ := H'.out.at_ t hlt
      rw [← HE.out t hlt] at hc2
      have hx : 0 ≤ (t : Int) ∧ (t : Int) < n := by omega
      have hlt2 : (t : Int) < n := by omega
      go_wp2
      go_quiet (fail)
      go_wp2
      go_roundw
      case rel => exact ⟨t + 1, by omega, by go_num, _, rfl⟩
      case measure => simp [intOf]; omega
    · have hlt2 : ¬ (t : Int) < n := by omega
      go_wp2
      go_ret
      exact ⟨rfl, after_draws _ (Below.refl _ _)⟩
end Go.Proofs.Ythecjlglcnpniaa
