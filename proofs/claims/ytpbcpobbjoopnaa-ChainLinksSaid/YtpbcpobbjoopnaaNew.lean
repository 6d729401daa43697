/-
  Contracts: new spaces.
-/
import Derived.Test.YtpbcpobbjoopnaaRefs
import Derived.Laws.MakeOwn
import Derived.Deep.OwnRows
namespace Go.Proofs.Ytpbcpobbjoopnaa
open Go.RowKit
set_option linter.unusedVariables false

theorem freeFrame_any (w : World) :
    Calls Try.prog 64 #[] w fun e w' => e = .returned (.agg #[.int .i64 (-1), .int .i64 (-1), .int .i64 (-1)]) ∧ Below w.heap.size w w' := by
  go_enter Try.func64, Try.ntmps64
  go_wp2
  exact bodyPost_ret (v := .agg #[.int .i64 (-1), .int .i64 (-1), .int .i64 (-1)]) (by simp [results, Try.results64, go_sem]) rfl ⟨rfl, (Below.refl _ _).alloc (Nat.le_refl _) _⟩

theorem isNum_any (n : Int) (w : World) :
    Calls Try.prog 50 #[.int .i64 n] w fun e w' => e = .returned (.bool (nfB n)) ∧ w = w' := by
  by_cases h1 : 2 ≤ n
  · by_cases h2 : n ≤ 64
    · go_enter Try.func50, Try.ntmps50
      go_wp2
      go_ret
      exact ⟨ret_bool (by simp [nfB]; omega), rfl⟩
    · go_enter Try.func50, Try.ntmps50
      go_wp2
      go_ret
      exact ⟨ret_bool (by simp [nfB]; omega), rfl⟩
  · go_enter Try.func50, Try.ntmps50
    go_wp2
    go_ret
    exact ⟨ret_bool (by simp [nfB]; omega), rfl⟩

theorem frame_info : (Try.prog.info? 64).map (fun i => (i.zero, i.size, i.bytes)) = some (some (.agg #[.int .i64 0, .int .i64 0, .int .i64 0]), 3, 24) := by kernel_rfl

theorem run_make_rowN {P : Program} (t e : TypeId) (i : TypeInfo) (z : Value) (ht : P.underlying t = some (.slice e)) (hi : P.info? e = some i) (hz : i.zero = some z)
    (kl kc : IntKind) (n c : Nat) (hnc : n ≤ c) (hbytes : i.bytes * c ≤ 281474976710656) (h63 : c ≤ 9223372036854775807) (w : World) :
    (Instr.makeSlice t (.int kl (n : Int)) (.int kc (c : Int))).run P w = .ok (.slice (some ⟨w.heap.size, 0, none⟩) n c) (w.alloc (.cells (madeCells z.cells (c * i.size)) e)) := by
  have hb : (i.bytes : Int) * (c : Int) ≤ 281474976710656 := by
    have h : ((i.bytes * c : Nat) : Int) ≤ 281474976710656 := by omega
    rwa [Int.natCast_mul] at h
  have hr := run_make (P := P) w t e i z ht hi hz kl kc n c (by omega) (by omega) hb (by omega)
  simp only [Int.toNat_natCast] at hr
  exact hr

theorem prod_cast (n k : Nat) : ((n * 2 ^ k : Nat) : Int) = (n : Int) * 2 ^ k := by simp
theorem prod_le {n k : Nat} (hn : n ≤ 64) (hk : k ≤ 8) : n * 2 ^ k ≤ 16384 := by
  have h := (prod_bd hn hk).2
  rw [← prod_cast] at h
  omega
theorem make_words {n k : Nat} (hn : n ≤ 64) (hk : k ≤ 8) (w : World) :
    (Instr.makeSlice 22 (.int .i64 ((n : Int) * 2 ^ k)) (.int .i64 ((n : Int) * 2 ^ k))).run Try.prog w = .ok (.slice (some ⟨w.heap.size, 0, none⟩) (n * 2 ^ k) (n * 2 ^ k)) (w.alloc (.cells (madeCells #[.int .u64 0] (n * 2 ^ k)) 67)) := by
  have h := run_make_row' (P := Try.prog) 22 67 (.int .u64 0) 8 Try.underlying22 word_info rfl .i64 .i64 (n * 2 ^ k) (by have := prod_le hn hk; omega) (by have := prod_le hn hk; omega) w
  rw [prod_cast] at h
  exact h
theorem made_own (w : World) (n : Nat) (hn : n ≤ 16384) : Own (w.alloc (.cells (madeCells #[.int .u64 0] n) 67)) w.heap.size (some ⟨w.heap.size, 0, none⟩) n n (fun _ => 0) := by
  refine ⟨Nat.le_refl _, by simp only [maxLen]; omega, .inr ⟨w.heap.size, _, rfl, Nat.le_refl _, heap_alloc_new w _, by simp [size_madeCells], fun j hj => ?_⟩⟩
  simp [madeCells, hj, Nat.mod_one]

theorem made_ownAt (w : World) (s : Nat) (hs : w.heap.size = s) (n : Nat) (hn : n ≤ 16384) : Own (w.alloc (.cells (madeCells #[.int .u64 0] n) 67)) s (some ⟨s, 0, none⟩) n n (fun _ => 0) := by
  subst hs
  exact made_own w n hn

/-- What holds while the entries of a new table are written. -/
def NewAt (w W : World) (g n : Nat) (i : Value) (wr : World) : Prop :=
  ∃ t : Nat, t ≤ n ∧ i = .int .i64 t ∧ OwnT wr g (some ⟨g, 0, none⟩) n n (fun j => if j < t then frFree else frZero) ∧ Below g W wr

/-- A new space: n free frames, their words 0. -/
def NewSp (k n : Nat) (w : World) (e : Ending) (w' : World) : Prop :=
  ∃ A A', e = .returned (.tuple #[.agg #[.int .i64 k, .slice A (n * 2 ^ k) (n * 2 ^ k), .slice A' n n], .int .i64 0]) ∧
    Own w' w.heap.size A (n * 2 ^ k) (n * 2 ^ k) (fun _ => 0) ∧ OwnT w' w.heap.size A' n n (fun _ => frFree) ∧ Below w.heap.size w w'

end Go.Proofs.Ytpbcpobbjoopnaa
