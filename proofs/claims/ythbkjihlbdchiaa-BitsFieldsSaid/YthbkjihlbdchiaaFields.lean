/-
  The walk of BitsFields. No conditions.
-/
import Derived.Test.YthbkjihlbdchiaaRows
import Derived.Test.YthbkjihlbdchiaaMasks
import Derived.Test.YthbkjihlbdchiaaBv
import Derived.Deep.QuietTactic
import Derived.BigQuiet
import Derived.WalkSmall
namespace Go.Proofs.Ythbkjihlbdchiaa
set_option linter.unusedVariables false
open Go.ChangeShapes Go.WideShapes Go.ChangeAt Go.RowKit

def okF (a n : Int) : Bool := decide (0 ≤ a ∧ 0 ≤ n ∧ a + n ≤ 64)
def getV (v a n : Int) : Int := if okF a n then getZ v a n else 0
def getE (a n : Int) : Int := if okF a n then 0 else 1
def putV (v a n x : Int) : Int := if okF a n && fitsB x n then putZ v a n x else 0
def putE (a n x : Int) : Int := if okF a n then if fitsB x n then 0 else 3 else 1

theorem get_any (v a n : Int) (w0 : -9223372036854775808 ≤ a) (w1 : a ≤ 9223372036854775807) (w : World) :
    Calls Try.prog 15 #[.int .u64 v, .int .i64 a, .int .i64 n] w fun e w' => e = .returned (.tuple #[.int .u64 (getV v a n), .int .i64 (getE a n)]) ∧ w = w' := by
  unfold getV getE okF
  by_cases h : 0 ≤ a ∧ 0 ≤ n ∧ a + n ≤ 64
  · rw [decide_eq_true h]; exact get_yes v a n h.1 h.2.1 h.2.2 w
  · rw [decide_eq_false h]; exact get_no v a n w0 w1 h w

theorem refGet_any (v a n : Int) (w0 : -9223372036854775808 ≤ a) (w1 : a ≤ 9223372036854775807) (w : World) :
    Calls Try.prog 16 #[.int .u64 v, .int .i64 a, .int .i64 n] w fun e w' => e = .returned (.tuple #[.int .u64 (getV v a n), .int .i64 (getE a n)]) ∧ w = w' := by
  unfold getV getE okF
  by_cases h : 0 ≤ a ∧ 0 ≤ n ∧ a + n ≤ 64
  · rw [decide_eq_true h]; exact refGet_yes v a n h.1 h.2.1 h.2.2 w
  · rw [decide_eq_false h]; exact refGet_no v a n w0 w1 h w

theorem put_any (v a n x : Int) (w0 : -9223372036854775808 ≤ a) (w1 : a ≤ 9223372036854775807) (w : World) :
    Calls Try.prog 17 #[.int .u64 v, .int .i64 a, .int .i64 n, .int .u64 x] w fun e w' => e = .returned (.tuple #[.int .u64 (putV v a n x), .int .i64 (putE a n x)]) ∧ w = w' := by
  unfold putV putE okF
  by_cases h : 0 ≤ a ∧ 0 ≤ n ∧ a + n ≤ 64
  · rw [decide_eq_true h]
    cases hf : fitsB x n
    · exact put_unfit v a n x h.1 h.2.1 h.2.2 hf w
    · exact put_yes v a n x h.1 h.2.1 h.2.2 hf w
  · rw [decide_eq_false h]; exact put_no v a n x w0 w1 h w

theorem refPut_any (v a n x : Int) (w0 : -9223372036854775808 ≤ a) (w1 : a ≤ 9223372036854775807) (w : World) :
    Calls Try.prog 18 #[.int .u64 v, .int .i64 a, .int .i64 n, .int .u64 x] w fun e w' => e = .returned (.tuple #[.int .u64 (putV v a n x), .int .i64 (putE a n x)]) ∧ w = w' := by
  unfold putV putE okF
  by_cases h : 0 ≤ a ∧ 0 ≤ n ∧ a + n ≤ 64
  · rw [decide_eq_true h]
    cases hf : fitsB x n
    · exact refPut_unfit v a n x h.1 h.2.1 h.2.2 hf w
    · exact refPut_yes v a n x h.1 h.2.1 h.2.2 hf w
  · rw [decide_eq_false h]; exact refPut_no v a n x w0 w1 h w

/-- a quiet call, the caller's world on the left; behind another draw as well -/
theorem quietL {P : Program} {f : FuncId} {args : Array Value} {w : World} {n : Nat} {v : Value}
    (h : Calls P f args (w.drewN n) fun e w' => e = .returned v ∧ w.drewN n = w') : Calls P f args (w.drewN n) fun e w'' => e = .returned v ∧ ∃ m, w'' = w.drewN m :=
  h.mono fun _ _ ⟨he, hm⟩ => ⟨he, n, hm.symm⟩
theorem quietL2 {P : Program} {f : FuncId} {args : Array Value} {w : World} {a n : Nat} {v : Value}
    (h : Calls P f args (w.drewN (a + n)) fun e w' => e = .returned v ∧ w.drewN (a + n) = w') :
    Calls P f args (w.drewN (a + n)) fun e w'' => e = .returned v ∧ ∃ m, w'' = w.drewN (a + m) :=
  h.mono fun _ _ ⟨he, hm⟩ => ⟨he, n, hm.symm⟩

/-- a slice of slices of two numbers holds at place j a pair of numbers -/
def PairAt (W : World) (B j : Nat) : Prop := ∃ (b : Nat) (x y : Int), b < W.heap.size ∧ W.cell? ⟨B, j, none⟩ = some (.slice (some ⟨b, 0, none⟩) 2 2) ∧ W.cell? ⟨b, 0, none⟩ = some (.int .i64 x) ∧ W.cell? ⟨b, 1, none⟩ = some (.int .i64 y) ∧
  -9223372036854775808 ≤ x ∧ x ≤ 9223372036854775807 ∧ -9223372036854775808 ≤ y ∧ y ≤ 9223372036854775807

/-- the world has grown since W, and what was there in W is as it was -/
def Since (W w : World) : Prop := Below W.heap.size W w ∧ Grown W w
theorem Since.refl (W : World) : Since W W := ⟨Below.refl _ _, Grown.refl _⟩
theorem Since.cell {W w : World} (h : Since W w) {a : Addr} {v : Value} (ha : a.block < W.heap.size) (c : W.cell? a = some v) : w.cell? a = some v := by
  rw [h.1.cell ha]; exact c
theorem Since.size {W w : World} (h : Since W w) : W.heap.size ≤ w.heap.size := h.1.size
theorem Since.drewN {W w : World} (h : Since W w) (n : Nat) : Since W (w.drewN n) := ⟨below_drewN h.1 n, h.2⟩
theorem Since.alloc {W w : World} (h : Since W w) (c : Array Value) (t : TypeId) : Since W (w.alloc (.cells c t)) := ⟨h.1.alloc h.1.size _, h.2.alloc _ _⟩
theorem Since.grown {W w V : World} (h : Since W w) (g : Grown V W) : Grown V w :=
  ⟨World.keptBut_trans g.1 h.2.1, fun a => (h.2.2.1 a).trans (g.2.1 a), Nat.le_trans g.2.2 h.2.2.2⟩

theorem Drawn.since {W V w : World} (h : Drawn V w) (g : Since W V) : Since W w := by
  obtain ⟨m, rfl⟩ := h; exact g.drewN m
theorem cell_old {w : World} {a : Addr} {v : Value} (h : a.block < w.heap.size) (c : w.cell? a = some v) (o : Obj) : (w.alloc o).cell? a = some v := by
  rw [((Below.refl w.heap.size w).alloc (Nat.le_refl _) o).cell h]; exact c

/-- the world under a name -/
theorem world_named {R : World → Prop} {w : World} (h : ∀ V, V = w → R V) : R w := h _ rfl

set_option maxRecDepth 100000 in
theorem walkFields (a0 a1 a2 a3 : Int) (w0 : (Lit.int .u64 a0).wf = true) (w1 : (Lit.int .u64 a1).wf = true) (w2 : (Lit.int .i64 a2).wf = true) (w3 : (Lit.int .i64 a3).wf = true) (w : World) :
    Calls Try.prog 4 #[.int .u64 a0, .int .u64 a1, .int .i64 a2, .int .i64 a3] w fun e w' => e = .returned (.bool true) ∧ Grown w w' := by
  obtain ⟨l2, u2⟩ := bounds_i64 w2
  obtain ⟨l3, u3⟩ := bounds_i64 w3
  clear w0 w1 w2 w3
  go_enter Try.func4, Try.ntmps4
  go_wp2_with (go_at_call 9; refine (mod_any _ _ (by omega) (by omega) (by omega) (by omega) _).mono ?_; rintro e w' ⟨rfl, rfl⟩)
  have m0 := Int.emod_nonneg a2 (show (68 : Int) ≠ 0 by decide)
  have m1 := Int.emod_lt_of_pos a2 (show (0 : Int) < 68 by decide)
  have m2 := Int.emod_nonneg a3 (show (68 : Int) ≠ 0 by decide)
  have m3 := Int.emod_lt_of_pos a3 (show (0 : Int) < 68 by decide)
  have m4 := Int.emod_nonneg a2 (show (65 : Int) ≠ 0 by decide)
  have m5 := Int.emod_lt_of_pos a2 (show (0 : Int) < 65 by decide)
  obtain ⟨p2, hp2⟩ : ∃ x, x = a2 % 68 - 2 := ⟨_, rfl⟩
  obtain ⟨q2, hq2⟩ : ∃ x, x = a3 % 68 - 2 := ⟨_, rfl⟩
  obtain ⟨q3, hq3⟩ : ∃ x, x = 64 - a2 % 65 := ⟨_, rfl⟩
  obtain ⟨p3, hp3⟩ : ∃ x, x = a2 % 65 := ⟨_, rfl⟩
  rw [← hp2, ← hq2, ← hq3, ← hp3]
  have r0 : -9223372036854775808 ≤ p2 ∧ p2 ≤ 9223372036854775807 ∧ -9223372036854775808 ≤ q2 ∧ q2 ≤ 9223372036854775807 := by omega
  have r1 : -9223372036854775808 ≤ p3 ∧ p3 ≤ 9223372036854775807 ∧ -9223372036854775808 ≤ q3 ∧ q3 ≤ 9223372036854775807 := by omega
  clear hp2 hq2 hq3 hp3 m0 m1 m2 m3 m4 m5
  obtain ⟨W, hW⟩ : ∃ W, W = ((((w.alloc (Obj.cells #[Value.int IntKind.i64 a2, Value.int IntKind.i64 a3] 3)).alloc (Obj.cells #[Value.int IntKind.i64 p2, Value.int IntKind.i64 q2] 3)).alloc (Obj.cells #[Value.int IntKind.i64 p3, Value.int IntKind.i64 q3] 3)).alloc (Obj.cells #[Value.slice (some { block := w.heap.size, off := 0 }) 2 2, Value.slice (some { block := w.heap.size + 1, off := 0 }) 2 2, Value.slice (some { block := w.heap.size + 1 + 1, off := 0 }) 2 2] 24)) := ⟨_, rfl⟩
  rw [← hW]
  have hg : Grown w W := by subst hW; repeat (first | exact Grown.refl _ | apply Grown.alloc)
  have hz : w.heap.size + 3 < W.heap.size := by subst hW; simp
  have c00 : W.cell? ⟨w.heap.size, 0, none⟩ = some (.int .i64 a2) := by subst hW; go_simp
  have c01 : W.cell? ⟨w.heap.size, 1, none⟩ = some (.int .i64 a3) := by subst hW; go_simp
  have d0 : W.cell? ⟨w.heap.size + 1 + 1 + 1, 0, none⟩ = some (.slice (some ⟨w.heap.size, 0, none⟩) 2 2) := by subst hW; go_simp
  have c10 : W.cell? ⟨w.heap.size + 1, 0, none⟩ = some (.int .i64 p2) := by subst hW; go_simp
  have c11 : W.cell? ⟨w.heap.size + 1, 1, none⟩ = some (.int .i64 q2) := by subst hW; go_simp
  have d1 : W.cell? ⟨w.heap.size + 1 + 1 + 1, 1, none⟩ = some (.slice (some ⟨w.heap.size + 1, 0, none⟩) 2 2) := by subst hW; go_simp
  have c20 : W.cell? ⟨w.heap.size + 1 + 1, 0, none⟩ = some (.int .i64 p3) := by subst hW; go_simp
  have c21 : W.cell? ⟨w.heap.size + 1 + 1, 1, none⟩ = some (.int .i64 q3) := by subst hW; go_simp
  have d2 : W.cell? ⟨w.heap.size + 1 + 1 + 1, 2, none⟩ = some (.slice (some ⟨w.heap.size + 1 + 1, 0, none⟩) 2 2) := by subst hW; go_simp
  clear hW
  have cells : ∀ j : Nat, j < 3 → PairAt W (w.heap.size + 1 + 1 + 1) j := by
    intro j hj
    have hj' : j = 0 ∨ j = 1 ∨ j = 2 := by omega
    rcases hj' with rfl | rfl | rfl
    · exact ⟨_, a2, a3, by omega, d0, c00, c01, l2, u2, l3, u3⟩
    · exact ⟨_, p2, q2, by omega, d1, c10, c11, r0.1, r0.2.1, r0.2.2.1, r0.2.2.2⟩
    · exact ⟨_, p3, q3, by omega, d2, c20, c21, r1.1, r1.2.1, r1.2.2.1, r1.2.2.2⟩
  clear d0 d1 d2 c00 c01 c10 c11 c20 c21 r0 r1
  have HC := Lib.hid cells
  clear cells
  go_loopw [35] (fun i wr => ∃ j : Nat, j ≤ 3 ∧ i = .int .i64 j ∧ Since W wr) (fun i _ => 3 - (intOf i).toNat)
  case atStart => exact ⟨0, Nat.zero_le _, rfl, Since.refl _⟩
  case round =>
    obtain ⟨j, hj, rfl, hs⟩ := hrel
    by_cases hlt : j < 3
    · obtain ⟨b, x, y, hb, e0, e1, e2, x0, x1, y0, y1⟩ := HC.out j hlt
      have f0 := hs.cell (show w.heap.size + 1 + 1 + 1 < W.heap.size by omega) e0
      have f1 := hs.cell hb e1
      have f2 := hs.cell hb e2
      have hz1 := hs.size
      have HS := Lib.hid hs
      clear e0 e1 e2 hs
      go_wp2_with fail
      go_quiet ((go_at_call 15; first | exact quietL (get_any _ _ _ (by omega) (by omega) _) | exact quietL2 (get_any _ _ _ (by omega) (by omega) _)))
      go_wp2_with fail
      go_quiet ((go_at_call 16; first | exact quietL (refGet_any _ _ _ (by omega) (by omega) _) | exact quietL2 (refGet_any _ _ _ (by omega) (by omega) _)))
      refine world_named fun wq hq => ?_
      have f1 : wq.cell? ⟨b, 0, none⟩ = some (.int .i64 x) := by subst hq; exact f1
      have f2 : wq.cell? ⟨b, 1, none⟩ = some (.int .i64 y) := by subst hq; exact f2
      have hs : Since W wq := by subst hq; exact (HS.out.drewN _).drewN _
      have hz2 := hs.size
      have HQ := Lib.hid hs
      clear hs hq HS f0
      go_wp2_with fail
      refine (refMask_any _ (by omega) (by omega) _).mono ?_
      rintro e w' ⟨rfl, rfl⟩
      go_wp2_with fail
      refine world_named fun V hV => ?_
      have g0 : V.cell? ⟨wq.heap.size, 0, none⟩ = some (.int .u64 a1) := by subst hV; go_simp
      have g1 : V.cell? ⟨wq.heap.size, 1, none⟩ = some (.int .u64 (bits BinOp.and IntKind.u64 a1 (maskZ y))) := by subst hV; go_simp
      have k1 : V.cell? ⟨b, 0, none⟩ = some (.int .i64 x) := by subst hV; exact cell_old (by show b < _; omega) f1 _
      have k2 : V.cell? ⟨b, 1, none⟩ = some (.int .i64 y) := by subst hV; exact cell_old (by show b < _; omega) f2 _
      have hs : Since W V := by subst hV; exact HQ.out.alloc _ _
      have HV := Lib.hid hs
      clear hV hs f1 f2
      go_loopw [78] (fun i wv => ∃ l : Nat, l ≤ 2 ∧ i = .int .i64 l ∧ Drawn V wv) (fun i _ => 2 - (intOf i).toNat)
      case atStart => exact ⟨0, Nat.zero_le _, rfl, Drawn.refl _⟩
      case round =>
        obtain ⟨l, hl, rfl, hd⟩ := hrel
        have g0' := hd.cell g0
        have g1' := hd.cell g1
        have k1' := hd.cell k1
        have k2' := hd.cell k2
        have HD := Lib.hid hd
        clear hd g0 g1 k1 k2
        have hl' : l = 0 ∨ l = 1 ∨ l = 2 := by omega
        rcases hl' with rfl | rfl | rfl
        · go_wp2_with fail
          go_quiet ((go_at_call 17; first | exact quietL (put_any _ _ _ _ (by omega) (by omega) _) | exact quietL2 (put_any _ _ _ _ (by omega) (by omega) _)))
          go_wp2_with fail
          go_quiet ((go_at_call 18; first | exact quietL (refPut_any _ _ _ _ (by omega) (by omega) _) | exact quietL2 (refPut_any _ _ _ _ (by omega) (by omega) _)))
          go_wp2
          go_roundw
          case rel => exact ⟨1, by omega, rfl, HD.out.more _⟩
          case measure => simp [intOf]
        · go_wp2_with fail
          go_quiet ((go_at_call 17; first | exact quietL (put_any _ _ _ _ (by omega) (by omega) _) | exact quietL2 (put_any _ _ _ _ (by omega) (by omega) _)))
          go_wp2_with fail
          go_quiet ((go_at_call 18; first | exact quietL (refPut_any _ _ _ _ (by omega) (by omega) _) | exact quietL2 (refPut_any _ _ _ _ (by omega) (by omega) _)))
          go_wp2
          go_roundw
          case rel => exact ⟨2, by omega, rfl, HD.out.more _⟩
          case measure => simp [intOf]
        · go_wp2
          go_roundw
          case rel => exact ⟨j + 1, by omega, by go_num, HD.out.since HV.out⟩
          case measure => simp [intOf]; omega
    · obtain rfl : j = 3 := by omega
      have HS := Lib.hid hs
      clear hs
      go_wp2_with (go_at_call 14; refine (awake_any _).mono ?_; rintro e w' ⟨rfl, rfl⟩)
      go_ret
      exact ⟨rfl, HS.out.grown hg⟩
end Go.Proofs.Ythbkjihlbdchiaa
