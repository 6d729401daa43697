/-
  The walk of BitsFields. No conditions.
-/
import Derived.Test.YtplifmmabfjfoaaRows
import Derived.Test.YtplifmmabfjfoaaMasks
import Derived.Test.YtplifmmabfjfoaaBv
import Derived.Deep.QuietTactic
import Derived.BigQuiet
import Derived.WalkSmall
namespace Go.Proofs.Ytplifmmabfjfoaa
set_option linter.unusedVariables false
open Go.ChangeShapes Go.WideShapes Go.ChangeAt Go.RowKit

def okF (a n : Int) : Bool := decide (0 ≤ a ∧ 0 ≤ n ∧ a + n ≤ 64)
def getV (v a n : Int) : Int := if okF a n then getZ v a n else 0
def getE (a n : Int) : Int := if okF a n then 0 else 1
def putV (v a n x : Int) : Int := if okF a n && fitsB x n then putZ v a n x else 0
def putE (a n x : Int) : Int := if okF a n then if fitsB x n then 0 else 3 else 1

theorem get_any (v a n : Int) (w0 : -9223372036854775808 ≤ a) (w1 : a ≤ 9223372036854775807) (w : World) :
    Calls Try.prog 20 #[.int .u64 v, .int .i64 a, .int .i64 n] w fun e w' => e = .returned (.tuple #[.int .u64 (getV v a n), .int .i64 (getE a n)]) ∧ w = w' := by
  unfold getV getE okF
  by_cases h : 0 ≤ a ∧ 0 ≤ n ∧ a + n ≤ 64
  · rw [decide_eq_true h]; exact get_yes v a n h.1 h.2.1 h.2.2 w
  · rw [decide_eq_false h]; exact get_no v a n w0 w1 h w

theorem put_any (v a n x : Int) (w0 : -9223372036854775808 ≤ a) (w1 : a ≤ 9223372036854775807) (w : World) :
    Calls Try.prog 19 #[.int .u64 v, .int .i64 a, .int .i64 n, .int .u64 x] w fun e w' => e = .returned (.tuple #[.int .u64 (putV v a n x), .int .i64 (putE a n x)]) ∧ w = w' := by
  unfold putV putE okF
  by_cases h : 0 ≤ a ∧ 0 ≤ n ∧ a + n ≤ 64
  · rw [decide_eq_true h]
    cases hf : fitsB x n
    · exact put_unfit v a n x h.1 h.2.1 h.2.2 hf w
    · exact put_yes v a n x h.1 h.2.1 h.2.2 hf w
  · rw [decide_eq_false h]; exact put_no v a n x w0 w1 h w

/-- a quiet call, the caller's world on the left; behind another draw as well -/
theorem quietL {P : Program} {f : FuncId} {args : Array Value} {w : World} {n : Nat} {v : Value}
    (h : Calls P f args (w.drewN n) fun e w' => e = .returned v ∧ w.drewN n = w') : Calls P f args (w.drewN n) fun e w'' => e = .returned v ∧ ∃ m, w'' = w.drewN m :=
  h.mono fun _ _ ⟨he, hm⟩ => ⟨he, n, hm.symm⟩
theorem quietL2 {P : Program} {f : FuncId} {args : Array Value} {w : World} {a n : Nat} {v : Value}
    (h : Calls P f args (w.drewN (a + n)) fun e w' => e = .returned v ∧ w.drewN (a + n) = w') :
    Calls P f args (w.drewN (a + n)) fun e w'' => e = .returned v ∧ ∃ m, w'' = w.drewN (a + m) :=
  h.mono fun _ _ ⟨he, hm⟩ => ⟨he, n, hm.symm⟩

/-- a slice of slices of two numbers holds at place j a pair of numbers -/
def PairAt (W : World) (B j : Nat) : Prop := ∃ (b : Nat) (x y : Int), b < W.heap.size ∧ W.cell? ⟨B, j, none⟩ = some (.slice (some ⟨b, 0, none⟩) 2 2) ∧ W.cell? ⟨b, 0, none⟩ = some (.int .i64 x) ∧ W.cell? ⟨b, 1, none⟩ = some (.int .i64 y) ∧
  -9223372036854775808 ≤ x ∧ x ≤ 9223372036854775807 ∧ -9223372036854775808 ≤ y ∧ y ≤ 9223372036854775807

/-- the world has grown since W, and what was there in W is as it was -/
def Since (W w : World) : Prop := Below W.heap.size W w ∧ Grown W w
theorem Since.refl (W : World) : Since W W := ⟨Below.refl _ _, Grown.refl _⟩
theorem Since.cell {W w : World} (h : Since W w) {a : Addr} {v : Value} (ha : a.block < W.heap.size) (c : W.cell? a = some v) : w.cell? a = some v := by
  rw [h.1.cell ha]; exact c
theorem Since.size {W w : World} (h : Since W w) : W.heap.size ≤ w.heap.size := h.1.size
theorem Since.drewN {W w : World} (h : Since W w) (n : Nat) : Since W (w.drewN n) := ⟨below_drewN h.1 n, h.2⟩
theorem Since.alloc {W w : World} (h : Since W w) (c : Array Value) (t : TypeId) : Since W (w.alloc (.cells c t)) := ⟨h.1.alloc h.1.size _, h.2.alloc _ _⟩
theorem Since.grown {W w V : World} (h : Since W w) (g : Grown V W) : Grown V w :=
  ⟨World.keptBut_trans g.1 h.2.1, fun a => (h.2.2.1 a).trans (g.2.1 a), Nat.le_trans g.2.2 h.2.2.2⟩

theorem Drawn.since {W V w : World} (h : Drawn V w) (g : Since W V) : Since W w := by
  obtain ⟨m, rfl⟩ := h; exact g.drewN m
theorem cell_old {w : World} {a : Addr} {v : Value} (h : a.block < w.heap.size) (c : w.cell? a = some v) (o : Obj) : (w.alloc o).cell? a = some v := by
  rw [((Below.refl w.heap.size w).alloc (Nat.le_refl _) o).cell h]; exact c

/-- the world under a name -/
theorem world_named {R : World → Prop} {w : World} (h : ∀ V, V = w → R V) : R w := h _ rfl

end Go.Proofs.Ytplifmmabfjfoaa
