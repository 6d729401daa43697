/-
  The walk of HeaderMakes. No conditions.
-/
import Derived.Test.YtplifmmabfjfoaaHw
namespace Go.Proofs.Ytplifmmabfjfoaa
open Go.RowKit (wrap32 wrap64 intOf)
open Go.RowKit
set_option linter.unusedVariables false
set_option maxRecDepth 100000

/-- A slice of slices of three numbers holds at place j three numbers. -/
def TripleAt (W : World) (B j : Nat) : Prop := ∃ (b : Nat) (x y z : Int), b < W.heap.size ∧ W.cell? ⟨B, j, none⟩ = some (.slice (some ⟨b, 0, none⟩) 3 3) ∧
  W.cell? ⟨b, 0, none⟩ = some (.int .i64 x) ∧ W.cell? ⟨b, 1, none⟩ = some (.int .i64 y) ∧ W.cell? ⟨b, 2, none⟩ = some (.int .i64 z) ∧
  -9223372036854775808 ≤ x ∧ x ≤ 9223372036854775807 ∧ -9223372036854775808 ≤ y ∧ y ≤ 9223372036854775807 ∧ -9223372036854775808 ≤ z ∧ z ≤ 9223372036854775807

theorem walkMakes (a0 a1 a2 : Int) (w0 : (Lit.int .i64 a0).wf = true) (w1 : (Lit.int .i64 a1).wf = true) (w2 : (Lit.int .i64 a2).wf = true) (w : World) :
    Calls Try.prog 3 #[.int .i64 a0, .int .i64 a1, .int .i64 a2] w fun e w' => e = .returned (.bool true) ∧ Grown w w' := by
  obtain ⟨l0, u0⟩ := bounds_i64 w0
  obtain ⟨l1, u1⟩ := bounds_i64 w1
  obtain ⟨l2, u2⟩ := bounds_i64 w2
  clear w0 w1 w2
  have m0 := mod_any a0 18 (by decide) (by decide) l0 u0
  have m1 := mod_any a1 35 (by decide) (by decide) l1 u1
  have m2 := mod_any a2 16386 (by decide) (by decide) l2 u2
  obtain ⟨q0, hq0⟩ : ∃ x, x = a0 % 18 := ⟨_, rfl⟩
  obtain ⟨q1, hq1⟩ : ∃ x, x = a1 % 35 := ⟨_, rfl⟩
  obtain ⟨q2, hq2⟩ : ∃ x, x = a2 % 16386 := ⟨_, rfl⟩
  rw [← hq0] at m0
  rw [← hq1] at m1
  rw [← hq2] at m2
  have r0 : 0 ≤ q0 ∧ q0 < 18 := by omega
  have r1 : 0 ≤ q1 ∧ q1 < 35 := by omega
  have r2 : 0 ≤ q2 ∧ q2 < 16386 := by omega
  clear hq0 hq1 hq2
  go_enter Try.func3, Try.ntmps3
  go_wp2_with fail
  refine (m0 _).mono ?_
  rintro e w' ⟨rfl, rfl⟩
  go_wp2_with fail
  refine (m1 _).mono ?_
  rintro e w' ⟨rfl, rfl⟩
  go_wp2_with fail
  refine (m2 _).mono ?_
  rintro e w' ⟨rfl, rfl⟩
  go_wp2_with fail
  clear m0 m1 m2
  refine world_named fun W hW => ?_
  have hg : Grown w W := by subst hW; repeat (first | exact Grown.refl _ | apply Grown.alloc)
  have hz : w.heap.size + 2 < W.heap.size := by subst hW; simp
  have c00 : W.cell? ⟨w.heap.size, 0, none⟩ = some (.int .i64 a0) := by subst hW; go_simp
  have c01 : W.cell? ⟨w.heap.size, 1, none⟩ = some (.int .i64 a1) := by subst hW; go_simp
  have c02 : W.cell? ⟨w.heap.size, 2, none⟩ = some (.int .i64 a2) := by subst hW; go_simp
  have d0 : W.cell? ⟨w.heap.size + 1 + 1, 0, none⟩ = some (.slice (some ⟨w.heap.size, 0, none⟩) 3 3) := by subst hW; go_simp
  have c10 : W.cell? ⟨w.heap.size + 1, 0, none⟩ = some (.int .i64 (q0 - 1)) := by subst hW; go_simp
  have c11 : W.cell? ⟨w.heap.size + 1, 1, none⟩ = some (.int .i64 (q1 - 1)) := by subst hW; go_simp
  have c12 : W.cell? ⟨w.heap.size + 1, 2, none⟩ = some (.int .i64 (q2 - 1)) := by subst hW; go_simp
  have d1 : W.cell? ⟨w.heap.size + 1 + 1, 1, none⟩ = some (.slice (some ⟨w.heap.size + 1, 0, none⟩) 3 3) := by subst hW; go_simp
  clear hW
  have cells : ∀ j : Nat, j < 2 → TripleAt W (w.heap.size + 1 + 1) j := by
    intro j hj
    have hj' : j = 0 ∨ j = 1 := by omega
    rcases hj' with rfl | rfl
    · exact ⟨_, a0, a1, a2, by omega, d0, c00, c01, c02, l0, u0, l1, u1, l2, u2⟩
    · exact ⟨_, q0 - 1, q1 - 1, q2 - 1, by omega, d1, c10, c11, c12, by omega, by omega, by omega, by omega, by omega, by omega⟩
  clear d0 d1 c00 c01 c02 c10 c11 c12 r0 r1 r2 l0 u0 l1 u1 l2 u2
  have HC := Lib.hid cells
  clear cells
  go_loopw [33] (fun i wr => ∃ j : Nat, j ≤ 2 ∧ i = .int .i64 j ∧ Since W wr) (fun i _ => 2 - (intOf i).toNat)
  case atStart => exact ⟨0, Nat.zero_le _, rfl, Since.refl _⟩
  case round =>
    obtain ⟨j, hj, rfl, hs⟩ := hrel
    by_cases hlt : j < 2
    · obtain ⟨b, x, y, z, hb, e0, e1, e2, e3, x0, x1, y0, y1, z0, z1⟩ := HC.out j hlt
      have f0 := hs.cell (show w.heap.size + 1 + 1 < W.heap.size by omega) e0
      have f1 := hs.cell hb e1
      have f2 := hs.cell hb e2
      have f3 := hs.cell hb e3
      have hz1 := hs.size
      have HS := Lib.hid hs
      clear e0 e1 e2 e3 hs
      obtain ⟨v, hv⟩ : ∃ v, v = liveV x y := ⟨_, rfl⟩
      obtain ⟨ve, hve⟩ : ∃ v, v = liveE x y := ⟨_, rfl⟩
      have k1 := live_any x y x0 x1 y0 y1
      have k2 := refLive_any x y x0 x1 y0 y1
      rw [← hv, ← hve] at k1 k2
      have k3 := fwd_any z z0 z1
      have k4 := refFwd_any z z0 z1
      obtain ⟨u, hu⟩ : ∃ v, v = fwdV z := ⟨_, rfl⟩
      obtain ⟨ue, hue⟩ : ∃ v, v = fwdE z := ⟨_, rfl⟩
      rw [← hu, ← hue] at k3 k4
      clear hv hve hu hue
      go_wp2_with fail
      go_quiet ((go_at_call 8; first | exact quietL (k1 _) | exact quietL2 (k1 _)))
      go_wp2_with fail
      go_quiet ((go_at_call 9; first | exact quietL (k2 _) | exact quietL2 (k2 _)))
      refine world_named fun wq hq => ?_
      have f1 : wq.cell? ⟨b, 0, none⟩ = some (.int .i64 x) := by subst hq; exact f1
      have f2 : wq.cell? ⟨b, 1, none⟩ = some (.int .i64 y) := by subst hq; exact f2
      have f3 : wq.cell? ⟨b, 2, none⟩ = some (.int .i64 z) := by subst hq; exact f3
      have hs : Since W wq := by subst hq; exact (HS.out.drewN _).drewN _
      have HQ := Lib.hid hs
      clear hs hq HS f0
      go_wp2_with fail
      refine (k3 _).mono ?_
      rintro e w' ⟨rfl, rfl⟩
      go_wp2_with fail
      refine (k4 _).mono ?_
      rintro e w' ⟨rfl, rfl⟩
      go_wp2_with fail
      go_roundw
      case rel => exact ⟨j + 1, by omega, by go_num, HQ.out⟩
      case measure => simp [intOf]; omega
    · obtain rfl : j = 2 := by omega
      have HS := Lib.hid hs
      clear hs
      go_wp2_with (go_at_call 12; refine (awake7_any _).mono ?_; rintro e w' ⟨rfl, rfl⟩)
      go_ret
      exact ⟨rfl, HS.out.grown hg⟩
end Go.Proofs.Ytplifmmabfjfoaa
