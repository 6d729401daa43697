/-
  Contracts of layer 1: what each function of package bits and of its reference returns; no call changes the world.
-/
import Derived.Test.YthbkjihlbdchiaaRows
import Derived.Test.YthbkjihlbdchiaaMath
import Derived.WalkKit
import Derived.WalkLawsBesides
import Derived.Laws.Shifts
import Derived.LoopTactic
import Derived.Lib.Hide
namespace Go.Proofs.Ythbkjihlbdchiaa
open Go.RowKit (wrap32 wrap64 intOf)

theorem mask_any (n : Int) (h0 : -9223372036854775808 ≤ n) (h1 : n ≤ 9223372036854775807) (w : World) :
    Calls Try.prog 10 #[.int .i64 n] w fun e w' => e = .returned (.int .u64 (maskZ n)) ∧ w = w' := by
  by_cases h : n < 0
  · go_enter Try.func10, Try.ntmps10
    go_wp2
    go_ret
    exact ⟨ret_u64 (maskZ_neg (by omega)).symm, rfl⟩
  · have h' : 0 ≤ n := by omega
    go_enter Try.func10, Try.ntmps10
    go_wp2
    go_ret
    exact ⟨ret_u64 (mask_walk n), rfl⟩

theorem refMask_any (n : Int) (h0 : -9223372036854775808 ≤ n) (h1 : n ≤ 9223372036854775807) (w : World) :
    Calls Try.prog 11 #[.int .i64 n] w fun e w' => e = .returned (.int .u64 (maskZ n)) ∧ w = w' := by
  by_cases h : n ≤ 0
  · go_enter Try.func11, Try.ntmps11
    go_wp2
    go_ret
    exact ⟨ret_u64 (maskZ_neg (by omega)).symm, rfl⟩
  · by_cases h2 : 64 ≤ n
    · go_enter Try.func11, Try.ntmps11
      go_wp2
      go_ret
      exact ⟨ret_u64 (maskZ_big h2).symm, rfl⟩
    · have h' : 0 ≤ n := by omega
      go_enter Try.func11, Try.ntmps11
      go_wp2
      go_ret
      exact ⟨ret_u64 (mask_walk' n (by omega)), rfl⟩

theorem fits_any (v n : Int) (h0 : -9223372036854775808 ≤ n) (h1 : n ≤ 9223372036854775807) (w : World) :
    Calls Try.prog 12 #[.int .u64 v, .int .i64 n] w fun e w' => e = .returned (.bool (fitsB v n)) ∧ w = w' := by
  go_enter Try.func12, Try.ntmps12
  go_wp2_with (go_at_call 10; refine (mask_any _ (by omega) (by omega) _).mono ?_; rintro e w' ⟨rfl, rfl⟩)
  go_ret
  exact ⟨ret_bool rfl, rfl⟩

theorem refFits_any (v n : Int) (h0 : -9223372036854775808 ≤ n) (h1 : n ≤ 9223372036854775807) (w : World) :
    Calls Try.prog 13 #[.int .u64 v, .int .i64 n] w fun e w' => e = .returned (.bool (fitsB v n)) ∧ w = w' := by
  go_enter Try.func13, Try.ntmps13
  go_wp2_with (go_at_call 11; refine (refMask_any _ (by omega) (by omega) _).mono ?_; rintro e w' ⟨rfl, rfl⟩)
  go_ret
  exact ⟨ret_bool rfl, rfl⟩

theorem mod_any (v n : Int) (hn : 1 ≤ n) (hn' : n ≤ 9223372036854775807) (h0 : -9223372036854775808 ≤ v) (h1 : v ≤ 9223372036854775807) (w : World) :
    Calls Try.prog 9 #[.int .i64 v, .int .i64 n] w fun e w' => e = .returned (.int .i64 (v % n)) ∧ w = w' := by
  by_cases h : 0 ≤ v
  · have := Int.emod_nonneg v (show n ≠ 0 by omega)
    go_enter Try.func9, Try.ntmps9
    go_wp2
    go_ret
    exact ⟨ret_i64 rfl, rfl⟩
  · have h' : v < 0 := by omega
    have t0 := mod_neg_lo h' hn
    have t1 := mod_neg_hi h' hn
    by_cases ht : 0 ≤ v.tmod n
    · go_enter Try.func9, Try.ntmps9
      go_wp2
      go_ret
      exact ⟨ret_i64 (mod_end0 h' hn ht), rfl⟩
    · have ht' : v.tmod n < 0 := by omega
      go_enter Try.func9, Try.ntmps9
      go_wp2
      go_ret
      exact ⟨ret_i64 (mod_end1 h' hn ht'), rfl⟩

theorem field_yes (a n : Int) (h0 : 0 ≤ a) (h1 : 0 ≤ n) (h2 : a + n ≤ 64) (w : World) :
    Calls Try.prog 23 #[.int .i64 a, .int .i64 n] w fun e w' => e = .returned (.bool true) ∧ w = w' := by
  go_enter Try.func23, Try.ntmps23
  go_wp2
  go_ret
  exact ⟨ret_bool (decide_eq_true (by omega)), rfl⟩

theorem field_no (a n : Int) (w0 : -9223372036854775808 ≤ a) (w1 : a ≤ 9223372036854775807) (h : ¬ (0 ≤ a ∧ 0 ≤ n ∧ a + n ≤ 64)) (w : World) :
    Calls Try.prog 23 #[.int .i64 a, .int .i64 n] w fun e w' => e = .returned (.bool false) ∧ w = w' := by
  go_enter Try.func23, Try.ntmps23
  go_wp2
  all_goals (go_ret; exact ⟨ret_bool (by first | rfl | (simp; omega)), rfl⟩)

theorem bad_no (a n : Int) (h0 : 0 ≤ a) (h1 : 0 ≤ n) (h2 : a + n ≤ 64) (w : World) :
    Calls Try.prog 24 #[.int .i64 a, .int .i64 n] w fun e w' => e = .returned (.bool false) ∧ w = w' := by
  go_enter Try.func24, Try.ntmps24
  go_wp2
  go_ret
  exact ⟨ret_bool (by first | rfl | (simp; omega)), rfl⟩

theorem bad_yes (a n : Int) (w0 : -9223372036854775808 ≤ a) (w1 : a ≤ 9223372036854775807) (h : ¬ (0 ≤ a ∧ 0 ≤ n ∧ a + n ≤ 64)) (w : World) :
    Calls Try.prog 24 #[.int .i64 a, .int .i64 n] w fun e w' => e = .returned (.bool true) ∧ w = w' := by
  go_enter Try.func24, Try.ntmps24
  go_wp2
  all_goals (go_ret; exact ⟨ret_bool (by first | rfl | (simp; omega)), rfl⟩)

theorem get_no (v a n : Int) (w0 : -9223372036854775808 ≤ a) (w1 : a ≤ 9223372036854775807) (h : ¬ (0 ≤ a ∧ 0 ≤ n ∧ a + n ≤ 64)) (w : World) :
    Calls Try.prog 15 #[.int .u64 v, .int .i64 a, .int .i64 n] w fun e w' => e = .returned (.tuple #[.int .u64 0, .int .i64 1]) ∧ w = w' := by
  go_enter Try.func15, Try.ntmps15
  go_wp2_with (go_at_call 23; refine (field_no _ _ w0 w1 h _).mono ?_; rintro e w' ⟨rfl, rfl⟩)
  go_ret2
  exact ⟨ret_pair _ rfl, rfl⟩

theorem get_yes (v a n : Int) (h0 : 0 ≤ a) (h1 : 0 ≤ n) (h2 : a + n ≤ 64) (w : World) :
    Calls Try.prog 15 #[.int .u64 v, .int .i64 a, .int .i64 n] w fun e w' => e = .returned (.tuple #[.int .u64 (getZ v a n), .int .i64 0]) ∧ w = w' := by
  go_enter Try.func15, Try.ntmps15
  go_wp2_with (first | (go_at_call 23; refine (field_yes _ _ h0 h1 h2 _).mono ?_; rintro e w' ⟨rfl, rfl⟩) | (go_at_call 10; refine (mask_any _ (by omega) (by omega) _).mono ?_; rintro e w' ⟨rfl, rfl⟩))
  go_ret2
  exact ⟨ret_pair _ rfl, rfl⟩

theorem put_no (v a n x : Int) (w0 : -9223372036854775808 ≤ a) (w1 : a ≤ 9223372036854775807) (h : ¬ (0 ≤ a ∧ 0 ≤ n ∧ a + n ≤ 64)) (w : World) :
    Calls Try.prog 17 #[.int .u64 v, .int .i64 a, .int .i64 n, .int .u64 x] w fun e w' => e = .returned (.tuple #[.int .u64 0, .int .i64 1]) ∧ w = w' := by
  go_enter Try.func17, Try.ntmps17
  go_wp2_with (go_at_call 23; refine (field_no _ _ w0 w1 h _).mono ?_; rintro e w' ⟨rfl, rfl⟩)
  go_ret2
  exact ⟨ret_pair _ rfl, rfl⟩

theorem put_unfit (v a n x : Int) (h0 : 0 ≤ a) (h1 : 0 ≤ n) (h2 : a + n ≤ 64) (hf : fitsB x n = false) (w : World) :
    Calls Try.prog 17 #[.int .u64 v, .int .i64 a, .int .i64 n, .int .u64 x] w fun e w' => e = .returned (.tuple #[.int .u64 0, .int .i64 3]) ∧ w = w' := by
  go_enter Try.func17, Try.ntmps17
  go_wp2_with (first | (go_at_call 23; refine (field_yes _ _ h0 h1 h2 _).mono ?_; rintro e w' ⟨rfl, rfl⟩) | (go_at_call 12; refine (fits_any _ _ (by omega) (by omega) _).mono ?_; rintro e w' ⟨rfl, rfl⟩))
  go_ret2
  exact ⟨ret_pair _ rfl, rfl⟩

theorem put_yes (v a n x : Int) (h0 : 0 ≤ a) (h1 : 0 ≤ n) (h2 : a + n ≤ 64) (hf : fitsB x n = true) (w : World) :
    Calls Try.prog 17 #[.int .u64 v, .int .i64 a, .int .i64 n, .int .u64 x] w fun e w' => e = .returned (.tuple #[.int .u64 (putZ v a n x), .int .i64 0]) ∧ w = w' := by
  go_enter Try.func17, Try.ntmps17
  go_wp2_with (first | (go_at_call 23; refine (field_yes _ _ h0 h1 h2 _).mono ?_; rintro e w' ⟨rfl, rfl⟩) | (go_at_call 12; refine (fits_any _ _ (by omega) (by omega) _).mono ?_; rintro e w' ⟨rfl, rfl⟩) | (go_at_call 10; refine (mask_any _ (by omega) (by omega) _).mono ?_; rintro e w' ⟨rfl, rfl⟩))
  go_ret2
  exact ⟨ret_pair _ rfl, rfl⟩

theorem ceil_no (n s : Int) (h : ¬ (0 ≤ n ∧ n ≤ 1099511627776 ∧ 0 ≤ s ∧ s ≤ 20)) (w : World) :
    Calls Try.prog 21 #[.int .i64 n, .int .i64 s] w fun e w' => e = .returned (.int .i64 (ceilZ n s)) ∧ w = w' := by
  have hz : ceilZ n s = 0 := by unfold ceilZ; rw [if_neg h]
  rw [hz]; clear hz
  go_enter Try.func21, Try.ntmps21
  go_wp2
  all_goals (go_ret; exact ⟨ret_i64 rfl, rfl⟩)

theorem ceil_yes (n s : Int) (h0 : 0 ≤ n) (h1 : n ≤ 1099511627776) (h2 : 0 ≤ s) (h3 : s ≤ 20) (w : World) :
    Calls Try.prog 21 #[.int .i64 n, .int .i64 s] w fun e w' => e = .returned (.int .i64 (ceilZ n s)) ∧ w = w' := by
  go_enter Try.func21, Try.ntmps21
  go_wp2
  go_ret
  exact ⟨ret_i64 (ceil_walk h0 h1 h2 h3), rfl⟩

theorem refGet_no (v a n : Int) (w0 : -9223372036854775808 ≤ a) (w1 : a ≤ 9223372036854775807) (h : ¬ (0 ≤ a ∧ 0 ≤ n ∧ a + n ≤ 64)) (w : World) :
    Calls Try.prog 16 #[.int .u64 v, .int .i64 a, .int .i64 n] w fun e w' => e = .returned (.tuple #[.int .u64 0, .int .i64 1]) ∧ w = w' := by
  go_enter Try.func16, Try.ntmps16
  go_wp2_with (go_at_call 24; refine (bad_yes _ _ w0 w1 h _).mono ?_; rintro e w' ⟨rfl, rfl⟩)
  go_ret2
  exact ⟨ret_pair _ rfl, rfl⟩

theorem refGet_yes (v a n : Int) (h0 : 0 ≤ a) (h1 : 0 ≤ n) (h2 : a + n ≤ 64) (w : World) :
    Calls Try.prog 16 #[.int .u64 v, .int .i64 a, .int .i64 n] w fun e w' => e = .returned (.tuple #[.int .u64 (getZ v a n), .int .i64 0]) ∧ w = w' := by
  go_enter Try.func16, Try.ntmps16
  go_wp2_with (first | (go_at_call 24; refine (bad_no _ _ h0 h1 h2 _).mono ?_; rintro e w' ⟨rfl, rfl⟩) | (go_at_call 11; refine (refMask_any _ (by omega) (by omega) _).mono ?_; rintro e w' ⟨rfl, rfl⟩))
  go_ret2
  exact ⟨ret_pair _ rfl, rfl⟩

theorem refPut_no (v a n x : Int) (w0 : -9223372036854775808 ≤ a) (w1 : a ≤ 9223372036854775807) (h : ¬ (0 ≤ a ∧ 0 ≤ n ∧ a + n ≤ 64)) (w : World) :
    Calls Try.prog 18 #[.int .u64 v, .int .i64 a, .int .i64 n, .int .u64 x] w fun e w' => e = .returned (.tuple #[.int .u64 0, .int .i64 1]) ∧ w = w' := by
  go_enter Try.func18, Try.ntmps18
  go_wp2_with (go_at_call 24; refine (bad_yes _ _ w0 w1 h _).mono ?_; rintro e w' ⟨rfl, rfl⟩)
  go_ret2
  exact ⟨ret_pair _ rfl, rfl⟩

theorem refPut_unfit (v a n x : Int) (h0 : 0 ≤ a) (h1 : 0 ≤ n) (h2 : a + n ≤ 64) (hf : fitsB x n = false) (w : World) :
    Calls Try.prog 18 #[.int .u64 v, .int .i64 a, .int .i64 n, .int .u64 x] w fun e w' => e = .returned (.tuple #[.int .u64 0, .int .i64 3]) ∧ w = w' := by
  go_enter Try.func18, Try.ntmps18
  go_wp2_with (first | (go_at_call 24; refine (bad_no _ _ h0 h1 h2 _).mono ?_; rintro e w' ⟨rfl, rfl⟩) | (go_at_call 13; refine (refFits_any _ _ (by omega) (by omega) _).mono ?_; rintro e w' ⟨rfl, rfl⟩))
  go_ret2
  exact ⟨ret_pair _ rfl, rfl⟩

theorem refPut_yes (v a n x : Int) (h0 : 0 ≤ a) (h1 : 0 ≤ n) (h2 : a + n ≤ 64) (hf : fitsB x n = true) (w : World) :
    Calls Try.prog 18 #[.int .u64 v, .int .i64 a, .int .i64 n, .int .u64 x] w fun e w' => e = .returned (.tuple #[.int .u64 (putZ v a n x), .int .i64 0]) ∧ w = w' := by
  go_enter Try.func18, Try.ntmps18
  go_wp2_with (first | (go_at_call 24; refine (bad_no _ _ h0 h1 h2 _).mono ?_; rintro e w' ⟨rfl, rfl⟩) | (go_at_call 13; refine (refFits_any _ _ (by omega) (by omega) _).mono ?_; rintro e w' ⟨rfl, rfl⟩) | (go_at_call 11; refine (refMask_any _ (by omega) (by omega) _).mono ?_; rintro e w' ⟨rfl, rfl⟩))
  go_ret2
  exact ⟨ret_pair _ rfl, rfl⟩

theorem refCeil_no (n s : Int) (h : ¬ (0 ≤ n ∧ n ≤ 1099511627776 ∧ 0 ≤ s ∧ s ≤ 20)) (w : World) :
    Calls Try.prog 22 #[.int .i64 n, .int .i64 s] w fun e w' => e = .returned (.int .i64 (ceilZ n s)) ∧ w = w' := by
  have hz : ceilZ n s = 0 := by unfold ceilZ; rw [if_neg h]
  rw [hz]; clear hz
  go_enter Try.func22, Try.ntmps22
  go_wp2
  all_goals (go_ret; exact ⟨ret_i64 rfl, rfl⟩)

theorem refCeil_yes (n s : Int) (h0 : 0 ≤ n) (h1 : n ≤ 1099511627776) (h2 : 0 ≤ s) (h3 : s ≤ 20) (w : World) :
    Calls Try.prog 22 #[.int .i64 n, .int .i64 s] w fun e w' => e = .returned (.int .i64 (ceilZ n s)) ∧ w = w' := by
  go_enter Try.func22, Try.ntmps22
  go_wp2
  go_ret
  exact ⟨ret_i64 (ceil_walk h0 h1 h2 h3), rfl⟩

theorem log_no (n : Int) (h0 : -9223372036854775808 ≤ n) (h1 : n ≤ 9223372036854775807) (h : ∀ k : Nat, k ≤ 62 → n ≠ 2 ^ k) (w : World) :
    Calls Try.prog 19 #[.int .i64 n] w fun e w' => e = .returned (.tuple #[.int .i64 0, .bool false]) ∧ w = w' := by
  by_cases hn : n ≤ 0
  · clear h
    go_enter Try.func19, Try.ntmps19
    go_wp2
    go_ret2
    exact ⟨rfl, rfl⟩
  · have hb : (bits .and .i64 n (n - 1) != 0) = true := and_pred_ne (by omega) h1 h
    clear h
    go_enter Try.func19, Try.ntmps19
    go_wp2
    go_ret2
    exact ⟨rfl, rfl⟩

theorem log_yes (k : Nat) (hk : k ≤ 62) (w : World) :
    Calls Try.prog 19 #[.int .i64 (2 ^ k)] w fun e w' => e = .returned (.tuple #[.int .i64 k, .bool true]) ∧ w = w' := by
  have hb : (bits .and .i64 ((2 : Int) ^ k) ((2 : Int) ^ k - 1) != 0) = false := and_pred_eq hk
  obtain ⟨p0, p1⟩ := pow62 hk
  go_enter Try.func19, Try.ntmps19
  go_wp2
  go_loop [0, 4] (fun n i => ∃ j : Nat, j ≤ k ∧ i = .int .i64 j ∧ n = .int .i64 (2 ^ (k - j))) (fun _ i => k - (intOf i).toNat)
  case atStart => exact ⟨0, Nat.zero_le _, rfl, rfl⟩
  case round =>
    obtain ⟨j, hj, rfl, rfl⟩ := hrel
    by_cases hlt : j < k
    · have hbig := pow_big hlt
      have hh := Lib.hid (half_pow hlt)
      go_wp2
      go_round
      case rel => exact ⟨j + 1, by omega, by go_num, val_i64 hh.out⟩
      case measure => simp [intOf]; omega
    · obtain rfl : j = k := by omega
      have e1 : ((2 : Int) ^ (j - j)) = 1 := by simp
      rw [e1]
      go_wp2
      go_ret2
      exact ⟨rfl, rfl⟩

theorem refLog_yes (k : Nat) (hk : k ≤ 62) (w : World) :
    Calls Try.prog 20 #[.int .i64 (2 ^ k)] w fun e w' => e = .returned (.tuple #[.int .i64 k, .bool true]) ∧ w = w' := by
  go_enter Try.func20, Try.ntmps20
  go_wp2
  go_loop [4] (fun i => ∃ j : Nat, j ≤ k ∧ i = .int .i64 j) (fun i => k - (intOf i).toNat)
  case atStart => exact ⟨0, Nat.zero_le _, rfl⟩
  case round =>
    obtain ⟨j, hj, rfl⟩ := hrel
    have hw := Lib.hid (wrap_pow (show j ≤ 62 by omega))
    by_cases hlt : j < k
    · have ht : ((2 : Int) ^ k == wrap64 (2 ^ j)) = false := pow_ne hk hlt
      go_wp2
      go_round
      case rel => exact ⟨j + 1, by omega, by go_num⟩
      case measure => simp [intOf]; omega
    · obtain rfl : j = k := by omega
      have ht : ((2 : Int) ^ j == wrap64 (2 ^ j)) = true := by rw [hw.out]; simp
      go_wp2
      go_ret2
      exact ⟨rfl, rfl⟩

theorem refLog_no (n : Int) (h : ∀ k : Nat, k ≤ 62 → n ≠ 2 ^ k) (w : World) :
    Calls Try.prog 20 #[.int .i64 n] w fun e w' => e = .returned (.tuple #[.int .i64 0, .bool false]) ∧ w = w' := by
  have H := Lib.hid h
  clear h
  go_enter Try.func20, Try.ntmps20
  go_wp2
  go_loop [4] (fun i => ∃ j : Nat, j ≤ 63 ∧ i = .int .i64 j) (fun i => 63 - (intOf i).toNat)
  case atStart => exact ⟨0, Nat.zero_le _, rfl⟩
  case round =>
    obtain ⟨j, hj, rfl⟩ := hrel
    by_cases hlt : j < 63
    · have ht : (n == wrap64 (2 ^ j)) = false := by
        rw [wrap_pow (show j ≤ 62 by omega)]; simpa using H.out j (by omega)
      go_wp2
      go_round
      case rel => exact ⟨j + 1, by omega, by go_num⟩
      case measure => simp [intOf]; omega
    · go_wp2
      go_ret2
      exact ⟨rfl, rfl⟩

/-- both logarithms, in one form -/
theorem log_any (n : Int) (h0 : -9223372036854775808 ≤ n) (h1 : n ≤ 9223372036854775807) (w : World) :
    Calls Try.prog 19 #[.int .i64 n] w fun e w' => e = .returned (.tuple #[.int .i64 (logV n), .bool (logB n)]) ∧ w = w' := by
  rcases log_cases n with ⟨k, hk, rfl⟩ | h
  · have e : logO (2 ^ k) = some k := logO_pow hk
    rw [show logV (2 ^ k) = k from by unfold logV; rw [e], show logB (2 ^ k) = true from by unfold logB; rw [e]; rfl]
    exact log_yes k hk w
  · have e : logO n = none := logO_none h
    rw [show logV n = 0 from by unfold logV; rw [e], show logB n = false from by unfold logB; rw [e]; rfl]
    exact log_no n h0 h1 h w

theorem refLog_any (n : Int) (w : World) :
    Calls Try.prog 20 #[.int .i64 n] w fun e w' => e = .returned (.tuple #[.int .i64 (logV n), .bool (logB n)]) ∧ w = w' := by
  rcases log_cases n with ⟨k, hk, rfl⟩ | h
  · have e : logO (2 ^ k) = some k := logO_pow hk
    rw [show logV (2 ^ k) = k from by unfold logV; rw [e], show logB (2 ^ k) = true from by unfold logB; rw [e]; rfl]
    exact refLog_yes k hk w
  · have e : logO n = none := logO_none h
    rw [show logV n = 0 from by unfold logV; rw [e], show logB n = false from by unfold logB; rw [e]; rfl]
    exact refLog_no n h w

theorem ceil_any (n s : Int) (w : World) :
    Calls Try.prog 21 #[.int .i64 n, .int .i64 s] w fun e w' => e = .returned (.int .i64 (ceilZ n s)) ∧ w = w' := by
  by_cases h : 0 ≤ n ∧ n ≤ 1099511627776 ∧ 0 ≤ s ∧ s ≤ 20
  · exact ceil_yes n s h.1 h.2.1 h.2.2.1 h.2.2.2 w
  · exact ceil_no n s h w

theorem refCeil_any (n s : Int) (w : World) :
    Calls Try.prog 22 #[.int .i64 n, .int .i64 s] w fun e w' => e = .returned (.int .i64 (ceilZ n s)) ∧ w = w' := by
  by_cases h : 0 ≤ n ∧ n ≤ 1099511627776 ∧ 0 ≤ s ∧ s ≤ 20
  · exact refCeil_yes n s h.1 h.2.1 h.2.2.1 h.2.2.2 w
  · exact refCeil_no n s h w

end Go.Proofs.Ythbkjihlbdchiaa
