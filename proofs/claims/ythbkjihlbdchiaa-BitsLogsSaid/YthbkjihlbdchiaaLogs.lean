/-
  The walk of BitsLogs. No conditions.
-/
import Derived.Test.YthbkjihlbdchiaaRows
import Derived.Test.YthbkjihlbdchiaaMasks
import Derived.Deep.QuietTactic
import Derived.BigQuiet
namespace Go.Proofs.Ythbkjihlbdchiaa
set_option linter.unusedVariables false
open Go.ChangeShapes Go.WideShapes Go.ChangeAt Go.RowKit

theorem wrap64_in (n : Int) : -9223372036854775808 ≤ wrap64 n ∧ wrap64 n ≤ 9223372036854775807 := by unfold wrap64; omega

theorem walkLogs (a0 a1 : Int) (w0 : (Lit.int .i64 a0).wf = true) (w1 : (Lit.int .i64 a1).wf = true) (w : World) :
    Calls Try.prog 5 #[.int .i64 a0, .int .i64 a1] w fun e w' => e = .returned (.bool true) ∧ Grown w w' := by
  obtain ⟨l0, u0⟩ := bounds_i64 w0
  obtain ⟨l1, u1⟩ := bounds_i64 w1
  clear w0 w1
  go_enter Try.func5, Try.ntmps5
  go_wp2_with fail
  refine (mod_any _ _ (by omega) (by omega) l1 u1 _).mono ?_
  rintro e w' ⟨rfl, rfl⟩
  have k0 := Int.emod_nonneg a1 (show (64 : Int) ≠ 0 by decide)
  have k1 := Int.emod_lt_of_pos a1 (show (0 : Int) < 64 by decide)
  generalize a1 % 64 = k at *
  go_wp2_with fail
  obtain ⟨b0, b1⟩ := wrap64_in (2 ^ k.toNat)
  generalize wrap64 (2 ^ k.toNat) = x1 at *
  obtain ⟨c0, c1⟩ := wrap64_in (x1 + 1)
  generalize wrap64 (x1 + 1) = x2 at *
  obtain ⟨d0, d1⟩ := wrap64_in (x1 - 1)
  generalize wrap64 (x1 - 1) = x3 at *
  go_loop [30] (fun i => ∃ j : Nat, j ≤ 4 ∧ i = .int .i64 j) (fun i => 4 - (intOf i).toNat)
  case atStart => exact ⟨0, Nat.zero_le _, rfl⟩
  case round =>
    obtain ⟨j, hj, rfl⟩ := hrel
    have hj' : j = 0 ∨ j = 1 ∨ j = 2 ∨ j = 3 ∨ j = 4 := by omega
    rcases hj' with rfl | rfl | rfl | rfl | rfl
    · go_wp2_with (first | (go_at_call 19; refine (log_any _ (by omega) (by omega) _).mono ?_; rintro e w' ⟨rfl, rfl⟩) | (go_at_call 20; refine (refLog_any _ _).mono ?_; rintro e w' ⟨rfl, rfl⟩))
      go_round
      case rel => exact ⟨1, by omega, rfl⟩
      case measure => simp [intOf]
    · go_wp2_with (first | (go_at_call 19; refine (log_any _ (by omega) (by omega) _).mono ?_; rintro e w' ⟨rfl, rfl⟩) | (go_at_call 20; refine (refLog_any _ _).mono ?_; rintro e w' ⟨rfl, rfl⟩))
      go_round
      case rel => exact ⟨2, by omega, rfl⟩
      case measure => simp [intOf]
    · go_wp2_with (first | (go_at_call 19; refine (log_any _ (by omega) (by omega) _).mono ?_; rintro e w' ⟨rfl, rfl⟩) | (go_at_call 20; refine (refLog_any _ _).mono ?_; rintro e w' ⟨rfl, rfl⟩))
      go_round
      case rel => exact ⟨3, by omega, rfl⟩
      case measure => simp [intOf]
    · go_wp2_with (first | (go_at_call 19; refine (log_any _ (by omega) (by omega) _).mono ?_; rintro e w' ⟨rfl, rfl⟩) | (go_at_call 20; refine (refLog_any _ _).mono ?_; rintro e w' ⟨rfl, rfl⟩))
      go_round
      case rel => exact ⟨4, by omega, rfl⟩
      case measure => simp [intOf]
    · go_wp2_with (go_at_call 9; refine (mod_any _ _ (by omega) (by omega) (by omega) (by omega) _).mono ?_; rintro e w' ⟨rfl, rfl⟩)
      generalize a0 % 5000 = p2 at *
      generalize a1 % 23 - 1 = q2 at *
      generalize 1099511627776 + a0 % 3 - 1 = p3 at *
      generalize a1 % 21 = q3 at *
      obtain ⟨W, hW⟩ : ∃ W, W = (((((w.alloc (Obj.cells #[Value.int IntKind.i64 a0, Value.int IntKind.i64 x1, Value.int IntKind.i64 x2, Value.int IntKind.i64 x3] 3)).alloc (Obj.cells #[Value.int IntKind.i64 a0, Value.int IntKind.i64 a1] 3)).alloc (Obj.cells #[Value.int IntKind.i64 p2, Value.int IntKind.i64 q2] 3)).alloc (Obj.cells #[Value.int IntKind.i64 p3, Value.int IntKind.i64 q3] 3)).alloc (Obj.cells #[Value.slice (some { block := w.heap.size + 1, off := 0 }) 2 2, Value.slice (some { block := w.heap.size + 1 + 1, off := 0 }) 2 2, Value.slice (some { block := w.heap.size + 1 + 1 + 1, off := 0 }) 2 2] 24)) := ⟨_, rfl⟩
      rw [← hW]
      have hg : Grown w W := by subst hW; repeat (first | exact Grown.refl _ | apply Grown.alloc)
      have c10 : W.cell? ⟨w.heap.size + 1, 0, none⟩ = some (.int .i64 a0) := by subst hW; go_simp
      have c11 : W.cell? ⟨w.heap.size + 1, 1, none⟩ = some (.int .i64 a1) := by subst hW; go_simp
      have c20 : W.cell? ⟨w.heap.size + 1 + 1, 0, none⟩ = some (.int .i64 p2) := by subst hW; go_simp
      have c21 : W.cell? ⟨w.heap.size + 1 + 1, 1, none⟩ = some (.int .i64 q2) := by subst hW; go_simp
      have c30 : W.cell? ⟨w.heap.size + 1 + 1 + 1, 0, none⟩ = some (.int .i64 p3) := by subst hW; go_simp
      have c31 : W.cell? ⟨w.heap.size + 1 + 1 + 1, 1, none⟩ = some (.int .i64 q3) := by subst hW; go_simp
      have c40 : W.cell? ⟨w.heap.size + 1 + 1 + 1 + 1, 0, none⟩ = some (.slice (some ⟨w.heap.size + 1, 0, none⟩) 2 2) := by subst hW; go_simp
      have c41 : W.cell? ⟨w.heap.size + 1 + 1 + 1 + 1, 1, none⟩ = some (.slice (some ⟨w.heap.size + 1 + 1, 0, none⟩) 2 2) := by subst hW; go_simp
      have c42 : W.cell? ⟨w.heap.size + 1 + 1 + 1 + 1, 2, none⟩ = some (.slice (some ⟨w.heap.size + 1 + 1 + 1, 0, none⟩) 2 2) := by subst hW; go_simp
      clear hW
      go_loopw [71] (fun i wr => ∃ j : Nat, j ≤ 3 ∧ i = .int .i64 j ∧ Drawn W wr) (fun i _ => 3 - (intOf i).toNat)
      case atStart => exact ⟨0, Nat.zero_le _, rfl, Drawn.refl _⟩
      case round =>
        obtain ⟨j, hj, rfl, hd⟩ := hrel
        have c10' : wr.cell? ⟨w.heap.size + 1, 0, none⟩ = some (.int .i64 a0) := hd.cell c10
        have c11' : wr.cell? ⟨w.heap.size + 1, 1, none⟩ = some (.int .i64 a1) := hd.cell c11
        have c20' : wr.cell? ⟨w.heap.size + 1 + 1, 0, none⟩ = some (.int .i64 p2) := hd.cell c20
        have c21' : wr.cell? ⟨w.heap.size + 1 + 1, 1, none⟩ = some (.int .i64 q2) := hd.cell c21
        have c30' : wr.cell? ⟨w.heap.size + 1 + 1 + 1, 0, none⟩ = some (.int .i64 p3) := hd.cell c30
        have c31' : wr.cell? ⟨w.heap.size + 1 + 1 + 1, 1, none⟩ = some (.int .i64 q3) := hd.cell c31
        have c40' : wr.cell? ⟨w.heap.size + 1 + 1 + 1 + 1, 0, none⟩ = some (.slice (some ⟨w.heap.size + 1, 0, none⟩) 2 2) := hd.cell c40
        have c41' : wr.cell? ⟨w.heap.size + 1 + 1 + 1 + 1, 1, none⟩ = some (.slice (some ⟨w.heap.size + 1 + 1, 0, none⟩) 2 2) := hd.cell c41
        have c42' : wr.cell? ⟨w.heap.size + 1 + 1 + 1 + 1, 2, none⟩ = some (.slice (some ⟨w.heap.size + 1 + 1 + 1, 0, none⟩) 2 2) := hd.cell c42
        clear c10 c11 c20 c21 c30 c31 c40 c41 c42
        have HD := Lib.hid hd
        clear hd
        have hj' : j = 0 ∨ j = 1 ∨ j = 2 ∨ j = 3 := by omega
        rcases hj' with rfl | rfl | rfl | rfl
        · go_wp2_with fail
          go_quiet ((first | (go_at_call 21; exact Calls.quiet_of_same ((ceil_any _ _ _).mono fun _ _ h => ⟨h.1, h.2.symm⟩)) | (go_at_call 22; exact Calls.quiet_of_same ((refCeil_any _ _ _).mono fun _ _ h => ⟨h.1, h.2.symm⟩))))
          go_wp2
          go_roundw
          case rel => exact ⟨1, by omega, rfl, HD.out.more _⟩
          case measure => simp [intOf]
        · go_wp2_with fail
          go_quiet ((first | (go_at_call 21; exact Calls.quiet_of_same ((ceil_any _ _ _).mono fun _ _ h => ⟨h.1, h.2.symm⟩)) | (go_at_call 22; exact Calls.quiet_of_same ((refCeil_any _ _ _).mono fun _ _ h => ⟨h.1, h.2.symm⟩))))
          go_wp2
          go_roundw
          case rel => exact ⟨2, by omega, rfl, HD.out.more _⟩
          case measure => simp [intOf]
        · go_wp2_with fail
          go_quiet ((first | (go_at_call 21; exact Calls.quiet_of_same ((ceil_any _ _ _).mono fun _ _ h => ⟨h.1, h.2.symm⟩)) | (go_at_call 22; exact Calls.quiet_of_same ((refCeil_any _ _ _).mono fun _ _ h => ⟨h.1, h.2.symm⟩))))
          go_wp2
          go_roundw
          case rel => exact ⟨3, by omega, rfl, HD.out.more _⟩
          case measure => simp [intOf]
        · go_wp2_with (go_at_call 14; refine (awake_any _).mono ?_; rintro e w' ⟨rfl, rfl⟩)
          go_ret
          exact ⟨rfl, HD.out.grown hg⟩
end Go.Proofs.Ythbkjihlbdchiaa
