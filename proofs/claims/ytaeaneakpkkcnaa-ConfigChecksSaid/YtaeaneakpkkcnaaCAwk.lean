/-
  The laws' sanity check: the examples of chapter 12.
-/
import Derived.Test.YtaeaneakpkkcnaaCCap
import Derived.Test.YtaeaneakpkkcnaaCGet
namespace Go.Proofs.Ytaeaneakpkkcnaa
open Go.RowKit
set_option maxRecDepth 100000
set_option linter.unusedVariables false

def exC : List Rl := [⟨4598175219545276416, 0, 0, 1⟩, ⟨0, 0, 0, 1⟩]
def exD : List Rl := [⟨0, 0, 0, 0⟩, ⟨0, 0, 0, 1⟩]
theorem exC_ok : chk { data := #[97] } exC 8 = 0 ∧ cplB { data := #[97] } exC 8 = true := by decide
theorem exD_ok : chk { data := #[97] } exD 8 = 10 := by decide
theorem ROwn.arr {w : World} {B g n : Nat} {R : List Rl} (h : ROwn w B (.slice (some ⟨g, 0, none⟩) n n) R) (hn : n = R.length) : RArr w (Rng B w.heap.size) (some ⟨g, 0, none⟩) n R := by
  subst hn
  obtain ⟨A, c, e, h1⟩ := h.slice
  injection e with e1 _ e2
  subst e1 e2
  exact h1
set_option maxHeartbeats 2000000 in
theorem awake_any (w : World) : Calls Try.prog 6 #[] w fun e w' => e = .returned (.bool true) ∧ Below w.heap.size w w' := by
  obtain ⟨W1, hW1⟩ : ∃ W, W = w.alloc (.cells (rulCells exC).toArray 42) := ⟨_, rfl⟩
  obtain ⟨W2, hW2⟩ : ∃ W, W = W1.alloc (.cells #[.string { data := #[97] }, .slice (some ⟨w.heap.size, 0, none⟩) 2 2, .int .i64 8] 24) := ⟨_, rfl⟩
  obtain ⟨W3, hW3⟩ : ∃ W, W = W2.alloc (.cells (rulCells exD).toArray 42) := ⟨_, rfl⟩
  obtain ⟨W4, hW4⟩ : ∃ W, W = W3.alloc (.cells #[.string { data := #[97] }, .slice (some ⟨W2.heap.size, 0, none⟩) 2 2, .int .i64 8] 24) := ⟨_, rfl⟩
  have b1 : Below w.heap.size w W1 := by rw [hW1]; exact (Below.refl _ _).alloc (Nat.le_refl _) _
  have b2 : Below W1.heap.size W1 W2 := by rw [hW2]; exact (Below.refl _ _).alloc (Nat.le_refl _) _
  have b3 : Below W2.heap.size W2 W3 := by rw [hW3]; exact (Below.refl _ _).alloc (Nat.le_refl _) _
  have b4 : Below W3.heap.size W3 W4 := by rw [hW4]; exact (Below.refl _ _).alloc (Nat.le_refl _) _
  have z1 : W1.heap.size = w.heap.size + 1 := by rw [hW1]; simp
  have z2 : W2.heap.size = w.heap.size + 1 + 1 := by rw [hW2]; simp [z1]
  have z3 : W3.heap.size = w.heap.size + 1 + 1 + 1 := by rw [hW3]; simp [z2]
  have r1 : RArr W4 (Lt W4.heap.size) (some ⟨w.heap.size, 0, none⟩) 2 exC := by
    have h : ROwn W1 w.heap.size (.slice (some ⟨w.heap.size, 0, none⟩) 2 2) exC := ROwn.of_block (R := exC) (by rw [hW1]; exact heap_alloc_new _ _) (Nat.le_refl _) (by decide)
    exact (((h.arr rfl).lt.next b2).next b3).next b4
  have r2 : RArr W4 (Lt W4.heap.size) (some ⟨W2.heap.size, 0, none⟩) 2 exD := by
    have h : ROwn W3 W2.heap.size (.slice (some ⟨W2.heap.size, 0, none⟩) 2 2) exD := ROwn.of_block (R := exD) (by rw [hW3]; exact heap_alloc_new _ _) (Nat.le_refl _) (by decide)
    exact (h.arr rfl).lt.next b4
  have B2 : Blk W4 W1.heap.size 24 #[.string { data := #[97] }, .slice (some ⟨w.heap.size, 0, none⟩) 2 2, .int .i64 8] := by
    have h : Blk W2 W1.heap.size 24 #[.string { data := #[97] }, .slice (some ⟨w.heap.size, 0, none⟩) 2 2, .int .i64 8] := by rw [hW2]; exact Blk.new _ _ _
    exact (h.next b3).next b4
  have B4 : Blk W4 W3.heap.size 24 #[.string { data := #[97] }, .slice (some ⟨W2.heap.size, 0, none⟩) 2 2, .int .i64 8] := by rw [hW4]; exact Blk.new _ _ _
  have hb : Below w.heap.size w W4 := below_step (below_step (below_step b1 (by omega) b2) (by omega) b3) (by omega) b4
  have HW : Hid (W4 = (((w.alloc (.cells #[.float .f64 4598175219545276416, .int .i64 0, .int .i64 0, .int .i64 1, .float .f64 0, .int .i64 0, .int .i64 0, .int .i64 1] 42)).alloc (.cells #[.string { data := #[97] }, .slice (some ⟨w.heap.size, 0, none⟩) 2 2, .int .i64 8] 24)).alloc (.cells #[.float .f64 0, .int .i64 0, .int .i64 0, .int .i64 0, .float .f64 0, .int .i64 0, .int .i64 0, .int .i64 1] 42)).alloc (.cells #[.string { data := #[97] }, .slice (some ⟨w.heap.size + 1 + 1, 0, none⟩) 2 2, .int .i64 8] 24)) := by
    rw [hW4, z2, hW3, hW2, hW1]
    exact Lib.hid rfl
  have w1 : WfR exC := fun j r h => by
    have := gt_lt h
    rcases (by simp [exC] at this; omega : j = 0 ∨ j = 1) with rfl | rfl
    · injection h with h; subst h; decide
    · injection h with h; subst h; decide
  have w2 : WfR exD := fun j r h => by
    have := gt_lt h
    rcases (by simp [exD] at this; omega : j = 0 ∨ j = 1) with rfl | rfl
    · injection h with h; subst h; decide
    · injection h with h; subst h; decide
  rw [z2] at r2 B4
  rw [z3] at B4
  rw [z1] at B2
  have HB := Lib.hid hb
  have R1 := Lib.hid r1
  have R2 := Lib.hid r2
  have BB2 := Lib.hid B2
  have BB4 := Lib.hid B4
  have W1' := Lib.hid w1
  have W2' := Lib.hid w2
  have z4 : w.heap.size + 1 + 1 + 1 < W4.heap.size := B4.lt
  have p0 := B2.cell 0
  have p1 := B2.cell 1
  have p2 := B2.cell 2
  have q0 := B4.cell 0
  have q1 := B4.cell 1
  have q2 := B4.cell 2
  simp at p0 p1 p2 q0 q1 q2
  clear hW1 hW2 hW3 hW4 b1 b2 b3 b4 z1 z2 z3 r1 r2 B2 B4 hb w1 w2
  have hc1 := check_any { data := #[97] } (some ⟨w.heap.size, 0, none⟩) 2 exC 8 W4 R1.out W1'.out
  rw [exC_ok.1] at hc1
  go_enter Try.func6, Try.ntmps6
  go_wp2_with fail
  rw [← HW.out]
  refine hc1.mono ?_
  rintro e W5 ⟨rfl, hb5⟩
  have HB5 := Lib.hid (below_step HB.out HB.out.size hb5)
  have BB5 := Lib.hid (BB2.out.next hb5)
  have BC5 := Lib.hid (BB4.out.next hb5)
  have R5 := Lib.hid (R1.out.next hb5)
  have R6 := Lib.hid (R2.out.next hb5)
  clear hc1 p0 p1 p2 q0 q1 q2 hb5
  have p0 := BB5.out.cell 0
  have p1 := BB5.out.cell 1
  have p2 := BB5.out.cell 2
  simp at p0 p1 p2
  have hc1 := complete_any { data := #[97] } (some ⟨w.heap.size, 0, none⟩) 2 exC 8 W5 R5.out W1'.out
  rw [exC_ok.2] at hc1
  go_wp2_with fail
  refine hc1.mono ?_
  rintro e W6 ⟨rfl, hb6⟩
  have HB6 := Lib.hid (below_step HB5.out HB5.out.size hb6)
  have BC6 := Lib.hid (BC5.out.next hb6)
  have R7 := Lib.hid (R6.out.next hb6)
  clear hc1 p0 p1 p2 hb6
  have q0 := BC6.out.cell 0
  have q1 := BC6.out.cell 1
  have q2 := BC6.out.cell 2
  simp at q0 q1 q2
  have hc1 := check_any { data := #[97] } (some ⟨w.heap.size + 1 + 1, 0, none⟩) 2 exD 8 W6 R7.out W2'.out
  rw [exD_ok] at hc1
  go_wp2_with fail
  refine hc1.mono ?_
  rintro e W7 ⟨rfl, hb7⟩
  have HB7 := Lib.hid (below_step HB6.out HB6.out.size hb7)
  clear hc1 hb7
  go_wp2
  go_ret
  exact ⟨rfl, HB7.out⟩
end Go.Proofs.Ytaeaneakpkkcnaa
