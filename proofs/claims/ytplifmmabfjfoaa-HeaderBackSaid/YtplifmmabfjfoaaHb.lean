/-
  The walk of HeaderBack. No conditions.
-/
import Derived.Test.YtplifmmabfjfoaaHr
namespace Go.Proofs.Ytplifmmabfjfoaa
open Go.RowKit (wrap32 wrap64 intOf)
open Go.RowKit
set_option linter.unusedVariables false
set_option maxRecDepth 100000

set_option maxHeartbeats 3200000 in
theorem walkBack (a0 a1 a2 a3 : Int) (w0 : (Lit.int .u64 a0).wf = true) (w1 : (Lit.int .i64 a1).wf = true) (w2 : (Lit.int .i64 a2).wf = true) (w3 : (Lit.int .i64 a3).wf = true) (w : World) :
    Calls Try.prog 5 #[.int .u64 a0, .int .i64 a1, .int .i64 a2, .int .i64 a3] w fun e w' => e = .returned (.bool true) ∧ Grown w w' := by
  obtain ⟨l0, u0⟩ := bounds_u64 w0
  obtain ⟨l1, u1⟩ := bounds_i64 w1
  obtain ⟨l2, u2⟩ := bounds_i64 w2
  obtain ⟨l3, u3⟩ := bounds_i64 w3
  clear w0 w1 w2 w3
  have m1 := mod_any a1 16 (by decide) (by decide) l1 u1
  have m2 := mod_any a2 33 (by decide) (by decide) l2 u2
  have m3 := mod_any a3 16384 (by decide) (by decide) l3 u3
  obtain ⟨r, hr⟩ : ∃ x, x = a1 % 16 := ⟨_, rfl⟩
  obtain ⟨d, hd⟩ : ∃ x, x = a2 % 33 := ⟨_, rfl⟩
  obtain ⟨a, ha⟩ : ∃ x, x = a3 % 16384 := ⟨_, rfl⟩
  rw [← hr] at m1
  rw [← hd] at m2
  rw [← ha] at m3
  have r0 : 0 ≤ r ∧ r ≤ 15 ∧ 0 ≤ d ∧ d ≤ 32 := by omega
  have a0' : 0 ≤ a ∧ a < 16384 := by omega
  clear hr hd ha l1 u1 l2 u2 l3 u3
  have k1 := live_any r d (by omega) (by omega) (by omega) (by omega)
  have k2 := fwd_any a (by omega) (by omega)
  rw [(live_in r0).2] at k1
  rw [(fwd_in a0').2] at k2
  have V0 : 0 ≤ liveV r d ∧ liveV r d < 18446744073709551616 := by rw [(live_in r0).1]; omega
  have F0 : 0 ≤ fwdV a ∧ fwdV a < 18446744073709551616 := by rw [(fwd_in a0').1]; omega
  obtain ⟨v1, v2, v3, v4, v5⟩ := dec_live r0
  obtain ⟨f1, f2, f3⟩ := dec_fwd a0'
  have k3 := dec_any _ V0.1 V0.2
  have k4 := dec_any _ F0.1 F0.2
  rw [v1, v3, v4, v5] at k3
  rw [f1, f2, f3] at k4
  generalize liveV r d = V at *
  generalize fwdV a = F at *
  clear v1 v2 v3 v4 v5 f1 f2 f3 V0 F0
  go_enter Try.func5, Try.ntmps5
  go_wp2_with fail
  refine (m1 _).mono ?_
  rintro e w' ⟨rfl, rfl⟩
  go_wp2_with fail
  refine (m2 _).mono ?_
  rintro e w' ⟨rfl, rfl⟩
  go_wp2_with fail
  refine (m3 _).mono ?_
  rintro e w' ⟨rfl, rfl⟩
  go_wp2_with fail
  refine (k1 _).mono ?_
  rintro e w' ⟨rfl, rfl⟩
  go_wp2_with fail
  refine (k3 _).mono ?_
  rintro e w' ⟨rfl, rfl⟩
  go_wp2_with fail
  refine (k2 _).mono ?_
  rintro e w' ⟨rfl, rfl⟩
  go_wp2_with fail
  refine (k4 _).mono ?_
  rintro e w' ⟨rfl, rfl⟩
  go_wp2_with fail
  clear m1 m2 m3 k1 k2 k3 k4
  refine world_named fun W hW => ?_
  have hg : Grown w W := by subst hW; repeat (first | exact Grown.refl _ | apply Grown.alloc)
  have HC : Hid (∀ j : Nat, j < 3 → WordAt W w.heap.size j) := by
    refine Lib.hid fun j hj => ?_
    have hj' : j = 0 ∨ j = 1 ∨ j = 2 := by omega
    rcases hj' with rfl | rfl | rfl
    · exact ⟨a0, l0, by omega, by subst hW; go_simp⟩
    · exact ⟨_, (bits_u64 .and a0 65535).1, (bits_u64 .and a0 65535).2, by subst hW; go_simp⟩
    · exact ⟨_, (bits_u64 .and a0 4095).1, (bits_u64 .and a0 4095).2, by subst hW; go_simp⟩
  clear hW l0 u0 r0 a0'
  go_loop [111] (fun i => ∃ j : Nat, j ≤ 3 ∧ i = .int .i64 j) (fun i => 3 - (intOf i).toNat)
  case atStart => exact ⟨0, Nat.zero_le _, rfl⟩
  case round =>
    obtain ⟨j, hj, rfl⟩ := hrel
    by_cases hlt : j < 3
    · obtain ⟨z, z0, z1, cz⟩ := HC.out j hlt
      obtain ⟨b1, b2, b3, b4, b5, b6⟩ := dec_range z z0
      have k1 := dec_any z z0 z1
      have k2 := live_any (decR z) (decD z) (by omega) (by omega) (by omega) (by omega)
      have k3 := fwd_any (decA z) (by omega) (by omega)
      by_cases he : decE z = 0
      · rw [he] at k1
        cases hf : isF z
        · obtain ⟨g1, g2⟩ := back_live z0 hf he
          rw [hf] at k1
          rw [g1, g2] at k2
          clear g1 g2 hf he k3
          generalize decR z = rr at *
          generalize decD z = dd at *
          generalize decA z = aa at *
          go_wp2_with fail
          refine (k1 _).mono ?_
          rintro e w' ⟨rfl, rfl⟩
          go_wp2_with fail
          refine (k2 _).mono ?_
          rintro e w' ⟨rfl, rfl⟩
          clear k1 k2
          go_wp2_with fail
          go_round
          case rel => exact ⟨j + 1, by omega, by go_num⟩
          case measure => simp [intOf]; omega
        · obtain ⟨g1, g2⟩ := back_fwd z0 hf
          rw [hf] at k1
          rw [g1, g2] at k3
          clear g1 g2 hf he
          generalize decR z = rr at *
          generalize decD z = dd at *
          generalize decA z = aa at *
          generalize liveV rr dd = o at *
          generalize liveE rr dd = oe at *
          go_wp2_with fail
          refine (k1 _).mono ?_
          rintro e w' ⟨rfl, rfl⟩
          go_wp2_with fail
          refine (k2 _).mono ?_
          rintro e w' ⟨rfl, rfl⟩
          go_wp2_with fail
          refine (k3 _).mono ?_
          rintro e w' ⟨rfl, rfl⟩
          clear k1 k2 k3
          go_wp2_with fail
          go_round
          case rel => exact ⟨j + 1, by omega, by go_num⟩
          case measure => simp [intOf]; omega
      · clear k2 k3
        generalize decE z = ee at *
        go_wp2_with fail
        refine (k1 _).mono ?_
        rintro e w' ⟨rfl, rfl⟩
        clear k1
        go_wp2_with fail
        go_round
        case rel => exact ⟨j + 1, by omega, by go_num⟩
        case measure => simp [intOf]; omega
    · have hj3 : ¬ (j : Int) < 3 := by omega
      go_wp2_with fail
      go_ret
      exact ⟨rfl, hg⟩
end Go.Proofs.Ytplifmmabfjfoaa
