/-
  Contracts of layer 6, continued: ToPercent; ratios; the numbers that the statements draw; their sanity check.
-/
import Derived.Test.YtpkikegjoncmaaaSp
import Derived.Test.YtpkikegjoncmaaaSy
import Derived.Test.YtpkikegjoncmaaaSx
namespace Go.Proofs.Ytpkikegjoncmaaa
open Go.RowKit (wrap32 wrap64 intOf)
set_option linter.unusedVariables false
set_option maxRecDepth 100000

/-- What ToPercent says of x: the least percentage whose number is x, if there is one. -/
def IsPct (x : Nat) (r : Int) (ok : Bool) : Prop := (ok = true ∧ ∃ k : Nat, r = k ∧ k ≤ 100 ∧ pctF k = x ∧ ∀ j : Nat, j < k → pctF j ≠ x) ∨ (ok = false ∧ r = 0 ∧ ∀ j : Nat, j ≤ 100 → pctF j ≠ x)
theorem IsPct.same {x : Nat} {r s : Int} {a b : Bool} (h : IsPct x r a) (g : IsPct x s b) : r = s ∧ a = b := by
  rcases h with ⟨rfl, k, rfl, k1, k2, k3⟩ | ⟨rfl, rfl, h⟩
  · rcases g with ⟨rfl, l, rfl, l1, l2, l3⟩ | ⟨rfl, rfl, g⟩
    · refine ⟨?_, rfl⟩
      rcases Nat.lt_trichotomy k l with e | e | e
      · exact absurd k2 (l3 k e)
      · rw [e]
      · exact absurd l2 (k3 l e)
    · exact absurd k2 (g k k1)
  · rcases g with ⟨rfl, l, rfl, l1, l2, l3⟩ | ⟨rfl, rfl, g⟩
    · exact absurd l2 (h l l1)
    · exact ⟨rfl, rfl⟩
/-- What a call of ToPercent leaves. -/
def PctOut (x : Nat) (e : Ending) (w w' : World) : Prop := ∃ r ok, e = .returned (.tuple #[.int .i64 r, .bool ok]) ∧ w = w' ∧ IsPct x r ok
theorem pc_in (k : Nat) (h : k ≤ 100) : pcF (k : Int) = pctF k ∧ pcE (k : Int) = 0 := by
  unfold pcF pcE
  rw [if_pos (by omega), if_pos (by omega), Int.toNat_natCast]
  exact ⟨rfl, rfl⟩
theorem percent_in (k : Nat) (h : k ≤ 100) (w : World) : Calls Try.prog 17 #[.int .i64 (k : Int)] w fun e w' => e = .returned (.tuple #[.float .f64 (pctF k), .int .i64 0]) ∧ w = w' := by
  have := percent_any (k : Int) (by omega) (by omega) w
  rw [(pc_in k h).1, (pc_in k h).2] at this; exact this
theorem refPercent_in (k : Nat) (h : k ≤ 100) (w : World) : Calls Try.prog 18 #[.int .i64 (k : Int)] w fun e w' => e = .returned (.tuple #[.float .f64 (pctF k), .int .i64 0]) ∧ w = w' := by
  have := refPercent_any (k : Int) (by omega) (by omega) w
  rw [(pc_in k h).1, (pc_in k h).2] at this; exact this

theorem toPercent_any (x : Nat) (w : World) : Calls Try.prog 20 #[.float .f64 x] w fun e w' => PctOut x e w w' := by
  have hb := run_bits x
  go_enter Try.func20, Try.ntmps20
  go_wp2
  go_loop [7] (fun i => ∃ k : Nat, k ≤ 101 ∧ i = .int .i64 k ∧ ∀ j : Nat, j < k → pctF j ≠ x) (fun i => 101 - (intOf i).toNat)
  case atStart => exact ⟨0, Nat.zero_le _, rfl, fun j hj => absurd hj (Nat.not_lt_zero _)⟩
  case round =>
    obtain ⟨k, hk, rfl, hf⟩ := hrel
    have HF := Lib.hid hf
    clear hf
    by_cases hlt : k ≤ 100
    · have hc := percent_in k hlt
      by_cases he : pctF k = x
      · have hb2 := run_bits (pctF k)
        generalize hz : pctF k = z at *
        go_wp2_with (go_at_call 17; refine (hc _).mono ?_; rintro e w' ⟨rfl, rfl⟩)
        all_goals (go_ret2; exact ⟨_, _, rfl, rfl, .inl ⟨rfl, k, rfl, hlt, by rw [hz, he], HF.out⟩⟩)
      · have hb2 := run_bits (pctF k)
        have HE := Lib.hid he
        generalize hz : pctF k = z at *
        have hne : ¬ ((z : Int) = (x : Int)) := by omega
        go_wp2_with (go_at_call 17; refine (hc _).mono ?_; rintro e w' ⟨rfl, rfl⟩)
        go_round
        case rel =>
          refine ⟨k + 1, by omega, by go_num, fun j hj => ?_⟩
          rcases Nat.lt_or_ge j k with q | q
          · exact HF.out j q
          · rw [show j = k by omega, hz]; exact HE.out
        case measure => simp [intOf]; omega
    · obtain rfl : k = 101 := by omega
      go_wp2
      all_goals (go_ret2; exact ⟨_, _, rfl, rfl, .inr ⟨rfl, rfl, fun j hj => HF.out j (by omega)⟩⟩)
theorem refToPercent_any (x : Nat) (w : World) : Calls Try.prog 21 #[.float .f64 x] w fun e w' => PctOut x e w w' := by
  have hb := run_bits x
  go_enter Try.func21, Try.ntmps21
  go_wp2
  go_loop [4] (fun i => ∃ k : Nat, k ≤ 101 ∧ i = .int .i64 k ∧ ∀ j : Nat, j < k → pctF j ≠ x) (fun i => 101 - (intOf i).toNat)
  case atStart => exact ⟨0, Nat.zero_le _, rfl, fun j hj => absurd hj (Nat.not_lt_zero _)⟩
  case round =>
    obtain ⟨k, hk, rfl, hf⟩ := hrel
    have HF := Lib.hid hf
    clear hf
    by_cases hlt : k ≤ 100
    · have hc := refPercent_in k hlt
      by_cases he : pctF k = x
      · have hb2 := run_bits (pctF k)
        generalize hz : pctF k = z at *
        go_wp2_with (go_at_call 18; refine (hc _).mono ?_; rintro e w' ⟨rfl, rfl⟩)
        all_goals (go_ret2; exact ⟨_, _, rfl, rfl, .inl ⟨rfl, k, rfl, hlt, by rw [hz, he], HF.out⟩⟩)
      · have hb2 := run_bits (pctF k)
        have HE := Lib.hid he
        generalize hz : pctF k = z at *
        have hne : ¬ ((x : Int) = (z : Int)) := by omega
        go_wp2_with (go_at_call 18; refine (hc _).mono ?_; rintro e w' ⟨rfl, rfl⟩)
        go_round
        case rel =>
          refine ⟨k + 1, by omega, by go_num, fun j hj => ?_⟩
          rcases Nat.lt_or_ge j k with q | q
          · exact HF.out j q
          · rw [show j = k by omega, hz]; exact HE.out
        case measure => simp [intOf]; omega
    · obtain rfl : k = 101 := by omega
      go_wp2
      all_goals (go_ret2; exact ⟨_, _, rfl, rfl, .inr ⟨rfl, rfl, fun j hj => HF.out j (by omega)⟩⟩)
/-- The constants of package math, and the sign that is copied. -/
theorem nan_any (w : World) : Calls Try.prog 25 #[] w fun e w' => e = .returned (.float .f64 9221120237041090561) ∧ w = w' := by
  have hb := run_frombits 9221120237041090561
  go_enter Try.func25, Try.ntmps25
  go_wp2
  all_goals (go_ret; exact ⟨rfl, rfl⟩)
theorem inf_up (w : World) : Calls Try.prog 28 #[.int .i64 1] w fun e w' => e = .returned (.float .f64 9218868437227405312) ∧ w = w' := by
  have hb := run_frombits 9218868437227405312
  go_enter Try.func28, Try.ntmps28
  go_wp2
  all_goals (go_ret; exact ⟨rfl, rfl⟩)
theorem inf_down (w : World) : Calls Try.prog 28 #[.int .i64 (-1)] w fun e w' => e = .returned (.float .f64 18442240474082181120) ∧ w = w' := by
  have hb := run_frombits 18442240474082181120
  go_enter Try.func28, Try.ntmps28
  go_wp2
  all_goals (go_ret; exact ⟨rfl, rfl⟩)
theorem copysign_zero (w : World) : Calls Try.prog 29 #[.float .f64 0, .float .f64 13830554455654793216] w fun e w' => e = .returned (.float .f64 9223372036854775808) ∧ w = w' := by
  have hb := run_bits 0
  have hb2 := run_bits 13830554455654793216
  have hb3 := run_frombits 9223372036854775808
  have e1 : bits .andNot .u64 0 9223372036854775808 = 0 := by decide
  have e2 : bits .and .u64 13830554455654793216 9223372036854775808 = 9223372036854775808 := by decide
  have e3 : bits .or .u64 0 9223372036854775808 = 9223372036854775808 := by decide
  go_enter Try.func29, Try.ntmps29
  go_wp2
  all_goals (go_ret; exact ⟨rfl, rfl⟩)
theorem frames_quarter (w : World) : Calls Try.prog 14 #[.float .f64 4598175219545276416, .int .i64 10] w fun e w' => e = .returned (.tuple #[.int .i64 2, .int .i64 0]) ∧ w = w' := by
  have := frames_any 4598175219545276416 10 (by decide) w
  rw [show frK 4598175219545276416 10 = 2 by decide, show frE 4598175219545276416 10 = 0 by decide] at this; exact this
theorem frames_cent (w : World) : Calls Try.prog 14 #[.float .f64 4576918229304087675, .int .i64 10] w fun e w' => e = .returned (.tuple #[.int .i64 1, .int .i64 0]) ∧ w = w' := by
  have := frames_any 4576918229304087675 10 (by decide) w
  rw [show frK 4576918229304087675 10 = 1 by decide, show frE 4576918229304087675 10 = 0 by decide] at this; exact this
theorem order_zeros (w : World) : Calls Try.prog 26 #[.float .f64 9223372036854775808, .float .f64 0] w fun e w' => e = .returned (.int .i64 (-1)) ∧ w = w' := by
  have := order_any 9223372036854775808 0 (by decide) (by decide) w
  rw [show ordF 9223372036854775808 0 = -1 by decide] at this; exact this
theorem awake_any (w : World) : Calls Try.prog 16 #[] w fun e w' => e = .returned (.bool true) ∧ w = w' := by
  go_enter Try.func16, Try.ntmps16
  go_wp2_with fail
  refine (frames_quarter _).mono ?_
  rintro e w' ⟨rfl, rfl⟩
  go_wp2_with fail
  refine (frames_cent _).mono ?_
  rintro e w' ⟨rfl, rfl⟩
  go_wp2_with fail
  refine (copysign_zero _).mono ?_
  rintro e w' ⟨rfl, rfl⟩
  go_wp2_with fail
  refine (order_zeros _).mono ?_
  rintro e w' ⟨rfl, rfl⟩
  go_wp2
  all_goals (go_ret; exact ⟨rfl, rfl⟩)
end Go.Proofs.Ytpkikegjoncmaaa
