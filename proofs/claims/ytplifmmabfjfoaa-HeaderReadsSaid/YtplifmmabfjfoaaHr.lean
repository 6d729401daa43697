/-
  The walk of HeaderReads. No conditions.
-/
import Derived.Test.YtplifmmabfjfoaaHw
namespace Go.Proofs.Ytplifmmabfjfoaa
open Go.RowKit (wrap32 wrap64 intOf)
open Go.RowKit
set_option linter.unusedVariables false
set_option maxRecDepth 100000

/-- A slice of words holds a word at place j. -/
def WordAt (W : World) (B j : Nat) : Prop := ∃ z : Int, 0 ≤ z ∧ z < 18446744073709551616 ∧ W.cell? ⟨B, j, none⟩ = some (.int .u64 z)
theorem dec_pair (x : Int) (x0 : 0 ≤ x) (x1 : x < 18446744073709551616) : ∃ (r d a e : Int) (m : Bool),
    (∀ w, Calls Try.prog 13 #[.int .u64 x] w fun e' w' => e' = .returned (.tuple #[.int .i64 r, .int .i64 d, .int .i64 a, .bool m, .int .i64 e]) ∧ w = w') ∧
    (∀ w, Calls Try.prog 14 #[.int .u64 x] w fun e' w' => e' = .returned (.tuple #[.int .i64 r, .int .i64 d, .int .i64 a, .bool m, .int .i64 e]) ∧ w = w') :=
  ⟨_, _, _, _, _, dec_any x x0 x1, refDec_any x x0 x1⟩

theorem walkReads (a0 a1 a2 a3 : Int) (w0 : (Lit.int .u64 a0).wf = true) (w1 : (Lit.int .i64 a1).wf = true) (w2 : (Lit.int .i64 a2).wf = true) (w3 : (Lit.int .i64 a3).wf = true) (w : World) :
    Calls Try.prog 4 #[.int .u64 a0, .int .i64 a1, .int .i64 a2, .int .i64 a3] w fun e w' => e = .returned (.bool true) ∧ Grown w w' := by
  obtain ⟨l0, u0⟩ := bounds_u64 w0
  obtain ⟨l1, u1⟩ := bounds_i64 w1
  obtain ⟨l2, u2⟩ := bounds_i64 w2
  obtain ⟨l3, u3⟩ := bounds_i64 w3
  clear w0 w1 w2 w3
  have m1 := mod_any a1 16 (by decide) (by decide) l1 u1
  have m2 := mod_any a2 33 (by decide) (by decide) l2 u2
  have m3 := mod_any a1 16384 (by decide) (by decide) l1 u1
  have m4 := mod_any a3 64 (by decide) (by decide) l3 u3
  obtain ⟨r, hr⟩ : ∃ x, x = a1 % 16 := ⟨_, rfl⟩
  obtain ⟨d, hd⟩ : ∃ x, x = a2 % 33 := ⟨_, rfl⟩
  obtain ⟨a, ha⟩ : ∃ x, x = a1 % 16384 := ⟨_, rfl⟩
  obtain ⟨s, hs⟩ : ∃ x, x = a3 % 64 := ⟨_, rfl⟩
  rw [← hr] at m1
  rw [← hd] at m2
  rw [← ha] at m3
  rw [← hs] at m4
  have r0 : 0 ≤ r ∧ r ≤ 15 ∧ 0 ≤ d ∧ d ≤ 32 := by omega
  have a0' : 0 ≤ a ∧ a < 16384 := by omega
  have s0 : 0 ≤ s ∧ s < 64 := by omega
  clear hr hd ha hs l1 u1 l2 u2 l3 u3
  have k1 := refLive_any r d (by omega) (by omega) (by omega) (by omega)
  have k2 := refFwd_any a (by omega) (by omega)
  rw [(live_in r0).1, (live_in r0).2] at k1
  rw [(fwd_in a0').1, (fwd_in a0').2] at k2
  obtain ⟨V, hV⟩ : ∃ x, x = (1 + r + d) * 256 + r * 2 := ⟨_, rfl⟩
  obtain ⟨F, hF⟩ : ∃ x, x = 2 * a + 1 := ⟨_, rfl⟩
  rw [← hV] at k1
  rw [← hF] at k2
  have V0 : 0 ≤ V ∧ V < 18446744073709551616 := by omega
  have F0 : 0 ≤ F ∧ F < 18446744073709551616 := by omega
  clear hV hF
  go_enter Try.func4, Try.ntmps4
  go_wp2_with fail
  refine (m1 _).mono ?_
  rintro e w' ⟨rfl, rfl⟩
  go_wp2_with fail
  refine (m2 _).mono ?_
  rintro e w' ⟨rfl, rfl⟩
  go_wp2_with fail
  refine (k1 _).mono ?_
  rintro e w' ⟨rfl, rfl⟩
  go_wp2_with fail
  refine (m3 _).mono ?_
  rintro e w' ⟨rfl, rfl⟩
  go_wp2_with fail
  refine (k2 _).mono ?_
  rintro e w' ⟨rfl, rfl⟩
  go_wp2_with fail
  refine (m4 _).mono ?_
  rintro e w' ⟨rfl, rfl⟩
  go_wp2_with fail
  refine (m4 _).mono ?_
  rintro e w' ⟨rfl, rfl⟩
  go_wp2_with fail
  clear m1 m2 m3 m4 k1 k2
  refine world_named fun W hW => ?_
  have hg : Grown w W := by subst hW; repeat (first | exact Grown.refl _ | apply Grown.alloc)
  have hz : w.heap.size < W.heap.size := by subst hW; simp
  have HC : Hid (∀ j : Nat, j < 8 → WordAt W w.heap.size j) := by
    refine Lib.hid fun j hj => ?_
    have hj' : j = 0 ∨ j = 1 ∨ j = 2 ∨ j = 3 ∨ j = 4 ∨ j = 5 ∨ j = 6 ∨ j = 7 := by omega
    rcases hj' with rfl | rfl | rfl | rfl | rfl | rfl | rfl | rfl
    · exact ⟨a0, l0, by omega, by subst hW; go_simp⟩
    · exact ⟨_, (bits_u64 .and a0 65535).1, (bits_u64 .and a0 65535).2, by subst hW; go_simp⟩
    · exact ⟨V, V0.1, V0.2, by subst hW; go_simp⟩
    · exact ⟨_, (bits_u64 .xor V (IntKind.u64.wrap (2 ^ s.toNat))).1, (bits_u64 .xor V (IntKind.u64.wrap (2 ^ s.toNat))).2, by subst hW; go_simp⟩
    · exact ⟨F, F0.1, F0.2, by subst hW; go_simp⟩
    · exact ⟨_, (bits_u64 .xor F (IntKind.u64.wrap (2 ^ s.toNat))).1, (bits_u64 .xor F (IntKind.u64.wrap (2 ^ s.toNat))).2, by subst hW; go_simp⟩
    · exact ⟨_, (bits_u64 .and a0 262143).1, (bits_u64 .and a0 262143).2, by subst hW; go_simp⟩
    · exact ⟨0, by decide, by decide, by subst hW; go_simp⟩
  clear hW l0 u0 V0 F0 r0 a0' s0
  go_loop [60] (fun i => ∃ j : Nat, j ≤ 8 ∧ i = .int .i64 j) (fun i => 8 - (intOf i).toNat)
  case atStart => exact ⟨0, Nat.zero_le _, rfl⟩
  case round =>
    obtain ⟨j, hj, rfl⟩ := hrel
    by_cases hlt : j < 8
    · obtain ⟨z, z0, z1, cz⟩ := HC.out j hlt
      obtain ⟨rr, dd, aa, ee, mm, k1, k2⟩ := dec_pair z z0 z1
      go_wp2_with fail
      refine (k1 _).mono ?_
      rintro e w' ⟨rfl, rfl⟩
      go_wp2_with fail
      refine (k2 _).mono ?_
      rintro e w' ⟨rfl, rfl⟩
      clear k1 k2
      go_wp2_with fail
      go_round
      case rel => exact ⟨j + 1, by omega, by go_num⟩
      case measure => simp [intOf]; omega
    · have hj8 : ¬ (j : Int) < 8 := by omega
      go_wp2_with fail
      refine (awake7_any _).mono ?_
      rintro e w' ⟨rfl, rfl⟩
      go_wp2_with fail
      go_ret
      exact ⟨rfl, hg⟩
end Go.Proofs.Ytplifmmabfjfoaa
