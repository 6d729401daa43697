/-
  Presets by the reference (Names, Get), and shares that are drawn.
-/
import Derived.Test.YtmhbbjbbckdlbaaDoorCRul
import Derived.Test.YtmhbbjbbckdlbaaDoorMSpace
namespace Go.Proofs.YtmhbbjbbckdlbaaDoor
open Go.RowKit
set_option maxRecDepth 100000
set_option linter.unusedVariables false

/-- A row that was just built. -/
theorem ROwn.of_block {w : World} {B g : Nat} {R : List Rl} (hg : w.heap[g]? = some (.cells (rulCells R).toArray 63 (0, 0))) (hB : B ≤ g) (hn : R.length ≤ 4096) : ROwn w B (.slice (some ⟨g, 0, none⟩) R.length R.length) R := by
  refine ⟨rulCells_length R, .inr ⟨g, R.length, (rulCells R).toArray, rfl, hB, hg, Nat.le_refl _, by simp only [maxLen]; omega, by simp [rulCells_length], ?_⟩⟩
  rw [← rulCells_length R]
  simp

theorem pct_share_all : ∀ n : Fin 101, 1 ≤ (n : Nat) → 0 < Sh.pctF n ∧ Sh.pctF n ≤ 4607182418800017408 := by decide +kernel
theorem pct_share {p : Int} (h1 : 1 ≤ p) (h2 : p ≤ 100) : 0 < Sh.pcF p ∧ Sh.pcF p ≤ 4607182418800017408 ∧ Sh.pcE p = 0 := by
  obtain ⟨k, rfl⟩ := Int.eq_ofNat_of_zero_le (show 0 ≤ p by omega)
  have := pct_share_all ⟨k, by omega⟩ (by show 1 ≤ k; omega)
  unfold Sh.pcF Sh.pcE
  rw [if_pos (by omega), if_pos (by omega), Int.toNat_natCast]
  exact ⟨this.1, this.2, rfl⟩

/-- A share that is drawn: greater than 0. -/
def ShareOf (w : World) (dk : Nat) (e : Ending) (w' : World) : Prop := ∃ x : Nat, e = .returned (.float .f64 x) ∧ 0 < x ∧ x ≤ 4607182418800017408 ∧ DeckP w' dk ∧ w.grownBy w' (some dk)
set_option maxHeartbeats 2000000 in
theorem share_any (dk : Nat) (w : World) (hd : DeckP w dk) : Calls Tryd.prog 48 #[.pointer (some ⟨dk, 0, none⟩)] w (ShareOf w dk) := by
  go_enter Tryd.func48, Tryd.ntmps48
  go_wp2_with fail
  refine (next_any dk 4 w (by decide) (by decide) hd).mono ?_
  rintro e w1 ⟨v, rfl, v0, v1, hd1, hg1⟩
  have HD1 := Lib.hid hd1
  have HG1 := Lib.hid hg1
  clear hd hd1 hg1
  by_cases h : v = 0
  · subst h
    go_wp2_with fail
    obtain ⟨V, hV⟩ : ∃ V, V = w1.alloc (.cells #[.float .f64 4602678819172646912, .float .f64 4593671619917905920, .float .f64 4607182418800017408, .float .f64 4599676419421066581, .float .f64 4562254508917369340] 61) := ⟨_, rfl⟩
    have BV := Lib.hid (show Blk V w1.heap.size 61 #[.float .f64 4602678819172646912, .float .f64 4593671619917905920, .float .f64 4607182418800017408, .float .f64 4599676419421066581, .float .f64 4562254508917369340] by rw [hV]; exact Blk.new _ _ _)
    have hbV : Below w1.heap.size w1 V := by rw [hV]; exact (Below.refl _ _).alloc (Nat.le_refl _) _
    have hdl := HD1.out.lt
    rw [← hV]
    refine (next_any dk 5 V (by decide) (by decide) (HD1.out.next hbV)).mono ?_
    rintro e w2 ⟨u, rfl, u0, u1, hd2, hg2⟩
    have BV2 := Lib.hid (BV.out.turn hg2 (by omega))
    have HD2 := Lib.hid hd2
    have HG2 := Lib.hid (turn_trans HG1.out (turn_trans (turn_below hbV) hg2))
    clear hd2 hg2 hbV hV BV
    obtain ⟨k, rfl⟩ := Int.eq_ofNat_of_zero_le u0
    have hk : k = 0 ∨ k = 1 ∨ k = 2 ∨ k = 3 ∨ k = 4 := by omega
    have c0 := BV2.out.cell 0
    have c1 := BV2.out.cell 1
    have c2 := BV2.out.cell 2
    have c3 := BV2.out.cell 3
    have c4 := BV2.out.cell 4
    simp at c0 c1 c2 c3 c4
    clear u0 u1
    rcases hk with rfl | rfl | rfl | rfl | rfl
    all_goals (
      go_wp2
      go_ret
      exact ⟨_, rfl, by decide, by decide, HD2.out, HG2.out⟩)
  · have hb : (v == 0) = false := by simpa using h
    clear h
    go_wp2_with fail
    refine (next_any dk 100 w1 (by decide) (by decide) HD1.out).mono ?_
    rintro e w2 ⟨u, rfl, u0, u1, hd2, hg2⟩
    have HD2 := Lib.hid hd2
    have HG2 := Lib.hid (turn_trans HG1.out hg2)
    have hw : IntKind.i64.wrap (1 + u) = 1 + u := IntWalk.i64_in _ (by omega)
    obtain ⟨p1, p2, p3⟩ := pct_share (p := 1 + u) (by omega) (by omega)
    have hp := fun W => Sh.refPercent_any (1 + u) (by omega) (by omega) W
    rw [p3] at hp
    have P1 := Lib.hid p1
    have P2 := Lib.hid p2
    clear hd2 hg2 p1 p2 p3
    generalize Sh.pcF (1 + u) = x at *
    go_wp2_with fail
    refine (hp _).mono ?_
    rintro e w' ⟨rfl, rfl⟩
    clear hp
    go_wp2
    go_ret
    exact ⟨x, rfl, P1.out, P2.out, HD2.out, HG2.out⟩

/-- The names of the presets, their rules, how often a full round. -/
def preN : Nat → ByteArray
  | 0 => { data := #[115, 101, 109, 105, 115, 112, 97, 99, 101] }
  | 1 => { data := #[97, 112, 112, 101, 108] }
  | 2 => { data := #[102, 105, 120, 101, 100] }
  | 3 => { data := #[111, 108, 100, 101, 114, 45, 102, 105, 114, 115, 116] }
  | 4 => { data := #[120, 120] }
  | 5 => { data := #[120, 120, 49, 48, 48] }
  | _ => { data := #[] }
def preR (x : Nat) : Nat → List Rl
  | 0 => [⟨0, 0, 0, 0⟩]
  | 1 => [⟨0, 0, 0, 1⟩, ⟨0, 0, 0, 1⟩]
  | 2 => [⟨x, 1, 0, 1⟩, ⟨0, 0, 0, 1⟩]
  | 3 => [⟨x, 0, 1, 0⟩]
  | 4 => [⟨x, 0, 1, 1⟩, ⟨x, 0, 1, 1⟩]
  | _ => [⟨x, 0, 1, 1⟩, ⟨x, 0, 1, 2⟩, ⟨0, 0, 0, 2⟩]
def preF : Nat → Int
  | 0 => 1
  | 1 => 8
  | 2 => 8
  | 3 => 0
  | 4 => 0
  | _ => 8
theorem names_any (w : World) : Calls Tryd.prog 47 #[] w fun e w' => e = .returned (.slice (some ⟨w.heap.size, 0, none⟩) 6 6) ∧ w' = w.alloc (.cells #[.string (preN 0), .string (preN 1), .string (preN 2), .string (preN 3), .string (preN 4), .string (preN 5)] 9) := by
  go_enter Tryd.func47, Tryd.ntmps47
  go_wp2
  go_ret
  exact ⟨rfl, rfl⟩
/-- A preset that is valid. -/
def PreOf (x i : Nat) (w : World) (e : Ending) (w' : World) : Prop := ∃ v, e = .returned (.tuple #[.agg #[.string (preN i), v, .int .i64 (preF i)], .int .i64 0]) ∧ ROwn w' w.heap.size v (preR x i) ∧ Below w.heap.size w w'
theorem heap_third (W : World) (a b c : Obj) : (((W.alloc a).alloc b).alloc c).heap[W.heap.size + 1 + 1]? = some c := by
  have h : (((W.alloc a).alloc b).alloc c).heap[((W.alloc a).alloc b).heap.size]? = some c := heap_alloc_new _ _
  have e : ((W.alloc a).alloc b).heap.size = W.heap.size + 1 + 1 := by simp
  rw [← e]
  exact h
theorem below_third (W : World) (a b c : Obj) : Below W.heap.size W (((W.alloc a).alloc b).alloc c) :=
  (((Below.refl _ _).alloc (Nat.le_refl _) _).alloc (by simp) _).alloc (by simp; omega) _
set_option maxHeartbeats 4000000 in
theorem get_any (i : Nat) (hi : i < 6) (p : Int) (w : World) (h1 : 1 ≤ p) (h2 : p ≤ 100) : Calls Tryd.prog 46 #[.string (preN i), .int .i64 p] w (PreOf (Sh.pcF p) i w) := by
  obtain ⟨_, _, p3⟩ := pct_share h1 h2
  have hp := fun W => Sh.refPercent_any p (by omega) (by omega) W
  rw [p3] at hp
  clear p3
  generalize Sh.pcF p = x at *
  rcases (by omega : i = 0 ∨ i = 1 ∨ i = 2 ∨ i = 3 ∨ i = 4 ∨ i = 5) with rfl | rfl | rfl | rfl | rfl | rfl
  all_goals (
    clear hi
    simp only [preN]
    go_enter Tryd.func46, Tryd.ntmps46
    go_wp2_with fail
    refine (hp _).mono ?_
    rintro e w' ⟨rfl, rfl⟩
    clear hp
    go_wp2_with fail)
  · exact bodyPost_ret (v := .tuple #[.agg #[.string (preN 0), .slice (some ⟨w.heap.size + 1 + 1, 0, none⟩) 1 1, .int .i64 (preF 0)], .int .i64 0]) (by simp [results, Tryd.results46, go_sem, preN, preF]) rfl
      ⟨_, rfl, ROwn.of_block (R := preR x 0) (heap_third w _ _ _) (by omega) (by simp [preR]), below_third w _ _ _⟩
  · exact bodyPost_ret (v := .tuple #[.agg #[.string (preN 1), .slice (some ⟨w.heap.size + 1 + 1, 0, none⟩) 2 2, .int .i64 (preF 1)], .int .i64 0]) (by simp [results, Tryd.results46, go_sem, preN, preF]) rfl
      ⟨_, rfl, ROwn.of_block (R := preR x 1) (heap_third w _ _ _) (by omega) (by simp [preR]), below_third w _ _ _⟩
  · exact bodyPost_ret (v := .tuple #[.agg #[.string (preN 2), .slice (some ⟨w.heap.size + 1 + 1, 0, none⟩) 2 2, .int .i64 (preF 2)], .int .i64 0]) (by simp [results, Tryd.results46, go_sem, preN, preF]) rfl
      ⟨_, rfl, ROwn.of_block (R := preR x 2) (heap_third w _ _ _) (by omega) (by simp [preR]), below_third w _ _ _⟩
  · exact bodyPost_ret (v := .tuple #[.agg #[.string (preN 3), .slice (some ⟨w.heap.size + 1 + 1, 0, none⟩) 1 1, .int .i64 (preF 3)], .int .i64 0]) (by simp [results, Tryd.results46, go_sem, preN, preF]) rfl
      ⟨_, rfl, ROwn.of_block (R := preR x 3) (heap_third w _ _ _) (by omega) (by simp [preR]), below_third w _ _ _⟩
  · exact bodyPost_ret (v := .tuple #[.agg #[.string (preN 4), .slice (some ⟨w.heap.size + 1 + 1, 0, none⟩) 2 2, .int .i64 (preF 4)], .int .i64 0]) (by simp [results, Tryd.results46, go_sem, preN, preF]) rfl
      ⟨_, rfl, ROwn.of_block (R := preR x 4) (heap_third w _ _ _) (by omega) (by simp [preR]), below_third w _ _ _⟩
  · exact bodyPost_ret (v := .tuple #[.agg #[.string (preN 5), .slice (some ⟨w.heap.size + 1 + 1, 0, none⟩) 3 3, .int .i64 (preF 5)], .int .i64 0]) (by simp [results, Tryd.results46, go_sem, preN, preF]) rfl
      ⟨_, rfl, ROwn.of_block (R := preR x 5) (heap_third w _ _ _) (by omega) (by simp [preR]), below_third w _ _ _⟩
end Go.Proofs.YtmhbbjbbckdlbaaDoor
