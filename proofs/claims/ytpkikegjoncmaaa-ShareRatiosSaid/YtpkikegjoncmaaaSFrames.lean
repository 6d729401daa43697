/-
  The walk of ShareFrames. No conditions.
-/
import Derived.Test.YtpkikegjoncmaaaSOrder
namespace Go.Proofs.Ytpkikegjoncmaaa
open Go.RowKit (wrap32 wrap64 intOf)
open Go.RowKit
set_option linter.unusedVariables false
set_option maxRecDepth 100000

theorem Since.grown {W w V : World} (h : Since W w) (g : Grown V W) : Grown V w :=
  ⟨World.keptBut_trans g.1 h.2.1, fun a => (h.2.2.1 a).trans (g.2.1 a), Nat.le_trans g.2.2 h.2.2.2⟩
theorem num16 (v : Nat) (k : Int) (hv : v < 18446744073709551616) (h0 : -9223372036854775808 ≤ k) (h1 : k ≤ 9223372036854775807) (w : World) : ∃ x : Nat, x < 18446744073709551616 ∧
    Calls Try.prog 9 #[.int .u64 v, .int .i64 k] w fun e w' => e = .returned (.float .f64 x) ∧ Since w w' := ⟨_, numF_lt k hv, number_any v k hv h0 h1 w⟩
theorem tdiv16 {k : Int} (h0 : -9223372036854775808 ≤ k) (h1 : k ≤ 9223372036854775807) : -9223372036854775808 ≤ k.tdiv 16 ∧ k.tdiv 16 ≤ 9223372036854775807 := by
  rcases Int.le_total 0 k with h | h
  · rw [Int.tdiv_eq_ediv_of_nonneg h]; omega
  · have e : k.tdiv 16 = -((-k) / 16) := by
      rw [← Int.tdiv_eq_ediv_of_nonneg (by omega : 0 ≤ -k), Int.neg_tdiv, Int.neg_neg]
    rw [e]; omega
theorem frames_pair (x : Nat) (n : Int) (hx : x < 18446744073709551616) : ∃ k f : Int, (∀ w, Calls Try.prog 14 #[.float .f64 x, .int .i64 n] w fun e w' => e = .returned (.tuple #[.int .i64 k, .int .i64 f]) ∧ w = w') ∧
    (∀ w, Calls Try.prog 15 #[.float .f64 x, .int .i64 n] w fun e w' => e = .returned (.tuple #[.int .i64 k, .int .i64 f]) ∧ w = w') :=
  ⟨_, _, frames_any x n hx, refFrames_any x n hx⟩
theorem valid_pair (x : Nat) (hx : x < 18446744073709551616) : ∃ b : Bool, (∀ w, Calls Try.prog 11 #[.float .f64 x] w fun e w' => e = .returned (.bool b) ∧ w = w') ∧
    (∀ w, Calls Try.prog 12 #[.float .f64 x] w fun e w' => e = .returned (.bool b) ∧ w = w') :=
  ⟨_, valid_any x hx, refValid_any x hx⟩
/-- A slice of ints holds an int at place j. -/
def IntAt (W : World) (B j : Nat) : Prop := ∃ n : Int, W.cell? ⟨B, j, none⟩ = some (.int .i64 n)

set_option maxHeartbeats 3200000 in
theorem walkFrames (a0 a1 a2 : Int) (w0 : (Lit.int .u64 a0).wf = true) (w1 : (Lit.int .i64 a1).wf = true) (w2 : (Lit.int .i64 a2).wf = true) (w : World) :
    Calls Try.prog 3 #[.int .u64 a0, .int .i64 a1, .int .i64 a2] w fun e w' => e = .returned (.bool true) ∧ Grown w w' := by
  obtain ⟨l0, u0⟩ := bounds_u64 w0
  obtain ⟨l1, u1⟩ := bounds_i64 w1
  obtain ⟨l2, u2⟩ := bounds_i64 w2
  clear w0 w1 w2
  obtain ⟨v, rfl⟩ := Int.eq_ofNat_of_zero_le l0
  obtain ⟨q0, q1⟩ := tdiv16 l1 u1
  have hv : v < 18446744073709551616 := by omega
  have c1 := number_any v a1 hv l1 u1
  have c2 := number_any v (a1.tdiv 16) hv q0 q1
  have hx := numF_lt (v := v) a1 hv
  have hy := numF_lt (v := v) (a1.tdiv 16) hv
  generalize numF v a1 = x at *
  generalize numF v (a1.tdiv 16) = y at *
  have hb := run_frombits (v : Int)
  rw [Int.toNat_natCast] at hb
  have hm := mod_any a2 66 (by decide) (by decide) l2 u2
  generalize a2 % 66 = m2 at *
  clear l0 u0 l1 u1 l2 u2
  go_enter Try.func3, Try.ntmps3
  go_wp2_with fail
  refine (c1 _).mono ?_
  rintro e wa ⟨rfl, hs1⟩
  go_wp2_with fail
  refine (c2 _).mono ?_
  rintro e wb ⟨rfl, hs2⟩
  have HS := Lib.hid (hs1.trans hs2)
  clear hs1 hs2 c1 c2 q0 q1
  go_wp2_with fail
  obtain ⟨W, hW⟩ : ∃ W, W = wb.alloc (Obj.cells #[.float .f64 x, .float .f64 v, .float .f64 y] 23) := ⟨_, rfl⟩
  have HW := Lib.hid ((HS.out.alloc #[.float .f64 x, .float .f64 v, .float .f64 y] 23))
  rw [← hW] at HW ⊢
  have hz : wb.heap.size < W.heap.size := by subst hW; simp
  have k0 : W.cell? ⟨wb.heap.size, 0, none⟩ = some (.float .f64 x) := by subst hW; go_simp
  have k1 : W.cell? ⟨wb.heap.size, 1, none⟩ = some (.float .f64 v) := by subst hW; go_simp
  have k2 : W.cell? ⟨wb.heap.size, 2, none⟩ = some (.float .f64 y) := by subst hW; go_simp
  have HF : Hid (∀ j : Nat, j < 3 → FloatAt W wb.heap.size j) := by
    refine Lib.hid fun j hj => ?_
    have hj' : j = 0 ∨ j = 1 ∨ j = 2 := by omega
    rcases hj' with rfl | rfl | rfl
    · exact ⟨_, hx, k0⟩
    · exact ⟨_, hv, k1⟩
    · exact ⟨_, hy, k2⟩
  clear k0 k1 k2 hW hx hy hv hb
  generalize wb.heap.size = B at *
  go_loopw [26] (fun i wr => ∃ j : Nat, j ≤ 3 ∧ i = .int .i64 j ∧ Since W wr) (fun i _ => 3 - (intOf i).toNat)
  case atStart => exact ⟨0, Nat.zero_le _, rfl, Since.refl _⟩
  case round =>
    obtain ⟨j, hj, rfl, hs⟩ := hrel
    by_cases hlt : j < 3
    · obtain ⟨p, hp, cp0⟩ := HF.out j hlt
      have cp := hs.cell hz cp0
      have HR := Lib.hid hs
      clear hs cp0
      obtain ⟨b, v1, v2⟩ := valid_pair p hp
      go_wp2_with fail
      refine (v1 _).mono ?_
      rintro e w' ⟨rfl, rfl⟩
      go_wp2_with fail
      refine (v2 _).mono ?_
      rintro e w' ⟨rfl, rfl⟩
      go_wp2_with fail
      refine (hm _).mono ?_
      rintro e w' ⟨rfl, rfl⟩
      go_wp2_with fail
      obtain ⟨V, hV⟩ : ∃ V, V = wr.alloc (Obj.cells #[.int .i64 a2, .int .i64 m2, .int .i64 64, .int .i64 63] 3) := ⟨_, rfl⟩
      have HV := Lib.hid ((HR.out.alloc #[.int .i64 a2, .int .i64 m2, .int .i64 64, .int .i64 63] 3))
      rw [← hV] at HV ⊢
      have k0 : V.cell? ⟨wr.heap.size, 0, none⟩ = some (.int .i64 a2) := by subst hV; go_simp
      have k1 : V.cell? ⟨wr.heap.size, 1, none⟩ = some (.int .i64 m2) := by subst hV; go_simp
      have k2 : V.cell? ⟨wr.heap.size, 2, none⟩ = some (.int .i64 64) := by subst hV; go_simp
      have k3 : V.cell? ⟨wr.heap.size, 3, none⟩ = some (.int .i64 63) := by subst hV; go_simp
      have HG : Hid (∀ j : Nat, j < 4 → IntAt V wr.heap.size j) := by
        refine Lib.hid fun j hj => ?_
        have hj' : j = 0 ∨ j = 1 ∨ j = 2 ∨ j = 3 := by omega
        rcases hj' with rfl | rfl | rfl | rfl
        · exact ⟨_, k0⟩
        · exact ⟨_, k1⟩
        · exact ⟨_, k2⟩
        · exact ⟨_, k3⟩
      clear k0 k1 k2 k3 hV cp v1 v2
      generalize wr.heap.size = D at *
      go_loop [40] (fun i => ∃ k : Nat, k ≤ 4 ∧ i = .int .i64 k) (fun i => 4 - (intOf i).toNat)
      case atStart => exact ⟨0, Nat.zero_le _, rfl⟩
      case round =>
        obtain ⟨k, hk, rfl⟩ := hrel
        by_cases hkt : k < 4
        · obtain ⟨n, cn⟩ := HG.out k hkt
          obtain ⟨r, f, f1, f2⟩ := frames_pair p n hp
          go_wp2_with fail
          refine (f1 _).mono ?_
          rintro e w' ⟨rfl, rfl⟩
          go_wp2_with fail
          refine (f2 _).mono ?_
          rintro e w' ⟨rfl, rfl⟩
          clear f1 f2
          go_wp2_with fail
          go_round
          case rel => exact ⟨k + 1, by omega, by go_num⟩
          case measure => simp [intOf]; omega
        · have hk4 : ¬ (k : Int) < 4 := by omega
          go_wp2_with fail
          go_roundw
          case rel => exact ⟨j + 1, by omega, by go_num, HV.out⟩
          case measure => simp [intOf]; omega
    · have hj3 : ¬ (j : Int) < 3 := by omega
      have HR := Lib.hid hs
      clear hs
      go_wp2_with fail
      refine (awake_any _).mono ?_
      rintro e w' ⟨rfl, rfl⟩
      go_wp2_with fail
      go_ret
      exact ⟨rfl, HR.out.grown HW.out.2⟩
end Go.Proofs.Ytpkikegjoncmaaa
