/-
  The walk of SharePercents. No conditions.
-/
import Derived.Test.YtpkikegjoncmaaaSFrames
namespace Go.Proofs.Ytpkikegjoncmaaa
open Go.RowKit (wrap32 wrap64 intOf)
open Go.RowKit
set_option linter.unusedVariables false
set_option maxRecDepth 100000

theorem int_at {W : World} {B j : Nat} {n : Int} (h0 : -9223372036854775808 ≤ n) (h1 : n ≤ 9223372036854775807) (h : W.cell? ⟨B, j, none⟩ = some (.int .i64 n)) : ∃ n : Int, -9223372036854775808 ≤ n ∧ n ≤ 9223372036854775807 ∧ W.cell? ⟨B, j, none⟩ = some (.int .i64 n) := ⟨n, h0, h1, h⟩

set_option maxHeartbeats 3200000 in
theorem walkPercents (a0 a1 a2 : Int) (w0 : (Lit.int .i64 a0).wf = true) (w1 : (Lit.int .u64 a1).wf = true) (w2 : (Lit.int .i64 a2).wf = true) (w : World) :
    Calls Try.prog 4 #[.int .i64 a0, .int .u64 a1, .int .i64 a2] w fun e w' => e = .returned (.bool true) ∧ Grown w w' := by
  obtain ⟨l0, u0⟩ := bounds_i64 w0
  obtain ⟨l1, u1⟩ := bounds_u64 w1
  obtain ⟨l2, u2⟩ := bounds_i64 w2
  clear w0 w1 w2
  obtain ⟨v, rfl⟩ := Int.eq_ofNat_of_zero_le l1
  have hv : v < 18446744073709551616 := by omega
  have c1 := number_any v a2 hv l2 u2
  generalize numF v a2 = x at *
  have m0 := Int.emod_nonneg a0 (show (103 : Int) ≠ 0 by decide)
  have m1 := Int.emod_lt_of_pos a0 (show (0 : Int) < 103 by decide)
  have hm := mod_any a0 103 (by decide) (by decide) l0 u0
  generalize a0 % 103 = m at *
  clear l1 u1 l2 u2
  go_enter Try.func4, Try.ntmps4
  go_wp2_with fail
  refine (hm _).mono ?_
  rintro e w' ⟨rfl, rfl⟩
  clear hm
  go_wp2_with fail
  obtain ⟨W, hW⟩ : ∃ W, W = w.alloc (Obj.cells #[.int .i64 a0, .int .i64 (m - 1)] 3) := ⟨_, rfl⟩
  have HW := Lib.hid ((Since.refl w).alloc #[.int .i64 a0, .int .i64 (m - 1)] 3)
  rw [← hW] at HW ⊢
  have k0 : W.cell? ⟨w.heap.size, 0, none⟩ = some (.int .i64 a0) := by subst hW; go_simp
  have k1 : W.cell? ⟨w.heap.size, 1, none⟩ = some (.int .i64 (m - 1)) := by subst hW; go_simp
  have HF : Hid (∀ j : Nat, j < 2 → ∃ n : Int, -9223372036854775808 ≤ n ∧ n ≤ 9223372036854775807 ∧ W.cell? ⟨w.heap.size, j, none⟩ = some (.int .i64 n)) := by
    refine Lib.hid fun j hj => ?_
    have hj' : j = 0 ∨ j = 1 := by omega
    rcases hj' with rfl | rfl
    · exact int_at l0 u0 k0
    · exact int_at (by omega) (by omega) k1
  clear k0 k1 hW m0 m1 l0 u0
  generalize w.heap.size = B at *
  go_loop [27] (fun i => ∃ j : Nat, j ≤ 2 ∧ i = .int .i64 j) (fun i => 2 - (intOf i).toNat)
  case atStart => exact ⟨0, Nat.zero_le _, rfl⟩
  case round =>
    obtain ⟨j, hj, rfl⟩ := hrel
    by_cases hlt : j < 2
    · obtain ⟨n, n0, n1, cn⟩ := HF.out j hlt
      have p1 := percent_any n n0 n1
      have p2 := refPercent_any n n0 n1
      generalize pcF n = y at *
      generalize pcE n = f at *
      have hb := run_bits y
      have t1 := toPercent_any y
      have t2 := refToPercent_any y
      go_wp2_with fail
      refine (p1 _).mono ?_
      rintro e w' ⟨rfl, rfl⟩
      go_wp2_with fail
      refine (p2 _).mono ?_
      rintro e w' ⟨rfl, rfl⟩
      go_wp2_with fail
      refine (t1 _).mono ?_
      rintro e w' ⟨r, ok, rfl, rfl, i1⟩
      go_wp2_with fail
      refine (t2 _).mono ?_
      rintro e w' ⟨s, is, rfl, rfl, i2⟩
      obtain ⟨rfl, rfl⟩ := i1.same i2
      clear i1 i2 t1 t2 p1 p2 hb
      go_wp2_with fail
      go_round
      case rel => exact ⟨j + 1, by omega, by go_num⟩
      case measure => simp [intOf]; omega
    · have hj2 : ¬ (j : Int) < 2 := by omega
      have t1 := toPercent_any x
      have t2 := refToPercent_any x
      go_wp2_with fail
      refine (c1 _).mono ?_
      rintro e wa ⟨rfl, hs1⟩
      go_wp2_with fail
      refine (t1 _).mono ?_
      rintro e w' ⟨r, ok, rfl, rfl, i1⟩
      go_wp2_with fail
      refine (c1 _).mono ?_
      rintro e wb ⟨rfl, hs2⟩
      go_wp2_with fail
      refine (t2 _).mono ?_
      rintro e w' ⟨s, is, rfl, rfl, i2⟩
      obtain ⟨rfl, rfl⟩ := i1.same i2
      have HS := Lib.hid ((HW.out.trans hs1).trans hs2)
      clear i1 i2 t1 t2 c1 hs1 hs2
      go_wp2_with fail
      refine (awake_any _).mono ?_
      rintro e w' ⟨rfl, rfl⟩
      go_wp2_with fail
      go_ret
      exact ⟨rfl, HS.out.2⟩
end Go.Proofs.Ytpkikegjoncmaaa
