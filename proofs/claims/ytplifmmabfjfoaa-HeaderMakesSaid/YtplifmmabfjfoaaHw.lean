/-
  Contracts of layer 7: what each function of package header and of its reference returns; no call changes the world.
-/
import Derived.Test.YtplifmmabfjfoaaFields
import Derived.Test.YtplifmmabfjfoaaHd
import Derived.OwnWalk
namespace Go.Proofs.Ytplifmmabfjfoaa
open Go.RowKit (wrap32 wrap64 intOf)
open Go.RowKit
set_option linter.unusedVariables false
set_option maxRecDepth 100000

theorem ret_ve {a b c d : Int} (h : a = b) (g : c = d) : Ending.returned (.tuple #[.int .u64 a, .int .i64 c]) = Ending.returned (.tuple #[.int .u64 b, .int .i64 d]) := by rw [h, g]
theorem ret_ie {a b c d : Int} (h : a = b) (g : c = d) : Ending.returned (.tuple #[.int .i64 a, .int .i64 c]) = Ending.returned (.tuple #[.int .i64 b, .int .i64 d]) := by rw [h, g]
theorem ret_iie {a b c d x y : Int} (h : a = b) (g : c = d) (k : x = y) : Ending.returned (.tuple #[.int .i64 a, .int .i64 c, .int .i64 x]) = Ending.returned (.tuple #[.int .i64 b, .int .i64 d, .int .i64 y]) := by rw [h, g, k]
theorem ret_dec {r r' d d' a a' e e' : Int} {m m' : Bool} (h1 : r = r') (h2 : d = d') (h3 : a = a') (h4 : m = m') (h5 : e = e') :
    Ending.returned (.tuple #[.int .i64 r, .int .i64 d, .int .i64 a, .bool m, .int .i64 e]) = Ending.returned (.tuple #[.int .i64 r', .int .i64 d', .int .i64 a', .bool m', .int .i64 e']) := by rw [h1, h2, h3, h4, h5]

theorem hput_any (v a n x y : Int) (h0 : 0 ≤ a) (h1 : 0 ≤ n) (h2 : a + n ≤ 64) (x0 : 0 ≤ x) (x1 : x ≤ 9223372036854775807) (hp : putZ v a n x = y ∧ fitsB x n = true) (w : World) :
    Calls Try.prog 15 #[.int .u64 v, .int .i64 a, .int .i64 n, .int .i64 x] w fun e w' => e = .returned (.int .u64 y) ∧ w = w' := by
  obtain ⟨rfl, hf⟩ := hp
  go_enter Try.func15, Try.ntmps15
  go_wp2_with (go_at_call 19; refine (put_yes _ _ _ _ h0 h1 h2 hf _).mono ?_; rintro e w' ⟨rfl, rfl⟩)
  go_ret
  exact ⟨rfl, rfl⟩

theorem hget_any (v a n y : Int) (h0 : 0 ≤ a) (h1 : 0 ≤ n) (h2 : a + n ≤ 64) (hg : getZ v a n = y) (y0 : 0 ≤ y) (y1 : y ≤ 9223372036854775807) (w : World) :
    Calls Try.prog 16 #[.int .u64 v, .int .i64 a, .int .i64 n] w fun e w' => e = .returned (.int .i64 y) ∧ w = w' := by
  have c := get_yes v a n h0 h1 h2
  rw [hg] at c
  clear hg
  go_enter Try.func16, Try.ntmps16
  go_wp2_with (go_at_call 20; refine (c _).mono ?_; rintro e w' ⟨rfl, rfl⟩)
  go_ret
  exact ⟨rfl, rfl⟩

theorem live_any (r d : Int) (r0 : -9223372036854775808 ≤ r) (r1 : r ≤ 9223372036854775807) (d0 : -9223372036854775808 ≤ d) (d1 : d ≤ 9223372036854775807) (w : World) :
    Calls Try.prog 8 #[.int .i64 r, .int .i64 d] w fun e w' => e = .returned (.tuple #[.int .u64 (liveV r d), .int .i64 (liveE r d)]) ∧ w = w' := by
  by_cases h : 0 ≤ r ∧ r ≤ 15 ∧ 0 ≤ d ∧ d ≤ 32
  · rw [(live_in h).1, (live_in h).2]
    obtain ⟨h1, h2, h3, h4⟩ := h
    have c1 := fun w => hput_any 0 1 7 r _ (by decide) (by decide) (by decide) h1 (by omega) (put_refs h1 h2) w
    have c2 := fun w => hput_any (r * 2) 8 8 (1 + r + d) _ (by decide) (by decide) (by decide) (by omega) (by omega) (put_size h1 h2 (by omega) (by omega)) w
    go_enter Try.func8, Try.ntmps8
    go_wp2_with fail
    refine (c1 _).mono ?_
    rintro e w' ⟨rfl, rfl⟩
    go_wp2_with fail
    refine (c2 _).mono ?_
    rintro e w' ⟨rfl, rfl⟩
    go_wp2_with fail
    go_ret2
    exact ⟨rfl, rfl⟩
  · rw [(live_out h).1, (live_out h).2]
    go_enter Try.func8, Try.ntmps8
    go_wp2_with fail
    all_goals (go_ret2; exact ⟨rfl, rfl⟩)

theorem refLive_any (r d : Int) (r0 : -9223372036854775808 ≤ r) (r1 : r ≤ 9223372036854775807) (d0 : -9223372036854775808 ≤ d) (d1 : d ≤ 9223372036854775807) (w : World) :
    Calls Try.prog 9 #[.int .i64 r, .int .i64 d] w fun e w' => e = .returned (.tuple #[.int .u64 (liveV r d), .int .i64 (liveE r d)]) ∧ w = w' := by
  by_cases h : 0 ≤ r ∧ r ≤ 15 ∧ 0 ≤ d ∧ d ≤ 32
  · rw [(live_in h).1, (live_in h).2]
    obtain ⟨h1, h2, h3, h4⟩ := h
    go_enter Try.func9, Try.ntmps9
    go_wp2_with fail
    go_ret2
    exact ⟨rfl, rfl⟩
  · rw [(live_out h).1, (live_out h).2]
    go_enter Try.func9, Try.ntmps9
    go_wp2_with fail
    all_goals (go_ret2; exact ⟨rfl, rfl⟩)

theorem fwd_any (a : Int) (a0 : -9223372036854775808 ≤ a) (a1 : a ≤ 9223372036854775807) (w : World) :
    Calls Try.prog 10 #[.int .i64 a] w fun e w' => e = .returned (.tuple #[.int .u64 (fwdV a), .int .i64 (fwdE a)]) ∧ w = w' := by
  by_cases h : 0 ≤ a ∧ a < 16384
  · rw [(fwd_in h).1, (fwd_in h).2]
    obtain ⟨h1, h2⟩ := h
    have c1 := fun w => hput_any 0 0 1 1 _ (by decide) (by decide) (by decide) (by decide) (by decide) put_mark w
    have c2 := fun w => hput_any 1 1 32 a _ (by decide) (by decide) (by decide) h1 (by omega) (put_addr h1 h2) w
    go_enter Try.func10, Try.ntmps10
    go_wp2_with fail
    refine (c1 _).mono ?_
    rintro e w' ⟨rfl, rfl⟩
    go_wp2_with fail
    refine (c2 _).mono ?_
    rintro e w' ⟨rfl, rfl⟩
    go_wp2_with fail
    go_ret2
    exact ⟨rfl, rfl⟩
  · rw [(fwd_out h).1, (fwd_out h).2]
    go_enter Try.func10, Try.ntmps10
    go_wp2_with fail
    all_goals (go_ret2; exact ⟨rfl, rfl⟩)

theorem refFwd_any (a : Int) (a0 : -9223372036854775808 ≤ a) (a1 : a ≤ 9223372036854775807) (w : World) :
    Calls Try.prog 11 #[.int .i64 a] w fun e w' => e = .returned (.tuple #[.int .u64 (fwdV a), .int .i64 (fwdE a)]) ∧ w = w' := by
  by_cases h : 0 ≤ a ∧ a < 16384
  · rw [(fwd_in h).1, (fwd_in h).2]
    obtain ⟨h1, h2⟩ := h
    go_enter Try.func11, Try.ntmps11
    go_wp2_with fail
    go_ret2
    exact ⟨rfl, rfl⟩
  · rw [(fwd_out h).1, (fwd_out h).2]
    go_enter Try.func11, Try.ntmps11
    go_wp2_with fail
    all_goals (go_ret2; exact ⟨rfl, rfl⟩)

theorem decLive_any (x : Int) (x0 : 0 ≤ x) (x1 : x < 18446744073709551616) (he : x % 2 = 0) (w : World) :
    Calls Try.prog 18 #[.int .u64 x] w fun e w' => e = .returned (.tuple #[.int .i64 (decR x), .int .i64 (decD x), .int .i64 (decE x)]) ∧ w = w' := by
  have c1 := fun w => hget_any x 1 7 _ (by decide) (by decide) (by decide) (get_refs x0 x1) (by omega) (by omega) w
  have c2 := fun w => hget_any x 8 8 _ (by decide) (by decide) (by decide) (get_size x0 x1) (by omega) (by omega) w
  obtain ⟨r, hr⟩ : ∃ r, r = x % 256 / 2 := ⟨_, rfl⟩
  obtain ⟨s, hs⟩ : ∃ s, s = x / 256 % 256 := ⟨_, rfl⟩
  rw [← hr] at c1
  rw [← hs] at c2
  have r0 : 0 ≤ r ∧ r ≤ 127 := by omega
  have s0 : 0 ≤ s ∧ s ≤ 255 := by omega
  have c3 := live_any r (s - 1 - r) (by omega) (by omega) (by omega) (by omega)
  by_cases h : 0 ≤ r ∧ r ≤ 15 ∧ 0 ≤ s - 1 - r ∧ s - 1 - r ≤ 32
  · rw [(live_in h).1, (live_in h).2] at c3
    by_cases h2 : (1 + r + (s - 1 - r)) * 256 + r * 2 = x
    · have hl : isL x = true := isL_iff.2 (by omega)
      have e1 : decR x = r := by unfold decR; rw [hl, if_pos rfl]; omega
      have e2 : decD x = s - 1 - r := by unfold decD; rw [hl, if_pos rfl]; omega
      have e3 : decE x = 0 := by unfold decE; rw [hl, Bool.or_true, if_pos rfl]
      rw [e1, e2, e3]
      rw [h2] at c3
      clear hl e1 e2 e3 h2 hr hs h x0 x1 he
      go_enter Try.func18, Try.ntmps18
      go_wp2_with fail
      refine (c1 _).mono ?_
      rintro e w' ⟨rfl, rfl⟩
      go_wp2_with fail
      refine (c2 _).mono ?_
      rintro e w' ⟨rfl, rfl⟩
      go_wp2_with fail
      refine (c3 _).mono ?_
      rintro e w' ⟨rfl, rfl⟩
      go_wp2_with fail
      go_ret3
      exact ⟨rfl, rfl⟩
    · have hl : isL x = false := isL_no (by omega)
      have e1 : decR x = 0 := by unfold decR; rw [hl]; rfl
      have e2 : decD x = 0 := by unfold decD; rw [hl]; rfl
      have e3 : decE x = 12 := by unfold decE; rw [hl, isF_even he]; rfl
      rw [e1, e2, e3]
      obtain ⟨y, hy⟩ : ∃ y, y = (1 + r + (s - 1 - r)) * 256 + r * 2 := ⟨_, rfl⟩
      rw [← hy] at c3 h2
      clear hl e1 e2 e3 hr hs h x0 x1 he hy
      go_enter Try.func18, Try.ntmps18
      go_wp2_with fail
      refine (c1 _).mono ?_
      rintro e w' ⟨rfl, rfl⟩
      go_wp2_with fail
      refine (c2 _).mono ?_
      rintro e w' ⟨rfl, rfl⟩
      go_wp2_with fail
      refine (c3 _).mono ?_
      rintro e w' ⟨rfl, rfl⟩
      go_wp2_with fail
      go_ret3
      exact ⟨rfl, rfl⟩
  · rw [(live_out h).1, (live_out h).2] at c3
    have hl : isL x = false := isL_no (by omega)
    have e1 : decR x = 0 := by unfold decR; rw [hl]; rfl
    have e2 : decD x = 0 := by unfold decD; rw [hl]; rfl
    have e3 : decE x = 12 := by unfold decE; rw [hl, isF_even he]; rfl
    rw [e1, e2, e3]
    clear hl e1 e2 e3 hr hs h x0 x1 he
    go_enter Try.func18, Try.ntmps18
    go_wp2_with fail
    refine (c1 _).mono ?_
    rintro e w' ⟨rfl, rfl⟩
    go_wp2_with fail
    refine (c2 _).mono ?_
    rintro e w' ⟨rfl, rfl⟩
    go_wp2_with fail
    refine (c3 _).mono ?_
    rintro e w' ⟨rfl, rfl⟩
    go_wp2_with fail
    go_ret3
    exact ⟨rfl, rfl⟩

theorem decFwd_any (x : Int) (x0 : 0 ≤ x) (x1 : x < 18446744073709551616) (he : x % 2 = 1) (w : World) :
    Calls Try.prog 17 #[.int .u64 x] w fun e w' => e = .returned (.tuple #[.int .i64 (decA x), .int .i64 (decE x)]) ∧ w = w' := by
  have c1 := fun w => hget_any x 1 32 _ (by decide) (by decide) (by decide) (get_addr x0 x1) (by omega) (by omega) w
  obtain ⟨a, ha⟩ : ∃ a, a = x / 2 % 4294967296 := ⟨_, rfl⟩
  rw [← ha] at c1
  have a0 : 0 ≤ a ∧ a < 4294967296 := by omega
  have c3 := fwd_any a (by omega) (by omega)
  by_cases h : 0 ≤ a ∧ a < 16384
  · rw [(fwd_in h).1, (fwd_in h).2] at c3
    by_cases h2 : 2 * a + 1 = x
    · have hl : isF x = true := isF_iff.2 (by omega)
      have e1 : decA x = a := by unfold decA; rw [hl, if_pos rfl]; omega
      have e3 : decE x = 0 := by unfold decE; rw [hl, Bool.true_or, if_pos rfl]
      rw [e1, e3]
      rw [h2] at c3
      clear hl e1 e3 h2 ha h x0 x1 he
      go_enter Try.func17, Try.ntmps17
      go_wp2_with fail
      refine (c1 _).mono ?_
      rintro e w' ⟨rfl, rfl⟩
      go_wp2_with fail
      refine (c3 _).mono ?_
      rintro e w' ⟨rfl, rfl⟩
      go_wp2_with fail
      go_ret2
      exact ⟨rfl, rfl⟩
    · have hl : isF x = false := isF_far (by omega)
      have e1 : decA x = 0 := by unfold decA; rw [hl]; rfl
      have e3 : decE x = 12 := by unfold decE; rw [hl, isL_odd he]; rfl
      rw [e1, e3]
      obtain ⟨y, hy⟩ : ∃ y, y = 2 * a + 1 := ⟨_, rfl⟩
      rw [← hy] at c3 h2
      clear hl e1 e3 ha h x0 x1 he hy
      go_enter Try.func17, Try.ntmps17
      go_wp2_with fail
      refine (c1 _).mono ?_
      rintro e w' ⟨rfl, rfl⟩
      go_wp2_with fail
      refine (c3 _).mono ?_
      rintro e w' ⟨rfl, rfl⟩
      go_wp2_with fail
      go_ret2
      exact ⟨rfl, rfl⟩
  · rw [(fwd_out h).1, (fwd_out h).2] at c3
    have hl : isF x = false := isF_far (by omega)
    have e1 : decA x = 0 := by unfold decA; rw [hl]; rfl
    have e3 : decE x = 12 := by unfold decE; rw [hl, isL_odd he]; rfl
    rw [e1, e3]
    clear hl e1 e3 ha h x0 x1 he
    go_enter Try.func17, Try.ntmps17
    go_wp2_with fail
    refine (c1 _).mono ?_
    rintro e w' ⟨rfl, rfl⟩
    go_wp2_with fail
    refine (c3 _).mono ?_
    rintro e w' ⟨rfl, rfl⟩
    go_wp2_with fail
    go_ret2
    exact ⟨rfl, rfl⟩

theorem dec_any (x : Int) (x0 : 0 ≤ x) (x1 : x < 18446744073709551616) (w : World) :
    Calls Try.prog 13 #[.int .u64 x] w fun e w' => e = .returned (.tuple #[.int .i64 (decR x), .int .i64 (decD x), .int .i64 (decA x), .bool (isF x), .int .i64 (decE x)]) ∧ w = w' := by
  have c1 := fun w => hget_any x 0 1 _ (by decide) (by decide) (by decide) (get_mark x0 x1) (by omega) (by omega) w
  rcases (show x % 2 = 1 ∨ x % 2 = 0 by omega) with h | h
  · have c2 := decFwd_any x x0 x1 h
    have e1 : decR x = 0 := by unfold decR; rw [isL_odd h]; rfl
    have e2 : decD x = 0 := by unfold decD; rw [isL_odd h]; rfl
    have e3 : (decE x == 0) = isF x := by unfold decE; rw [isL_odd h, Bool.or_false]; cases isF x <;> rfl
    rw [e1, e2]
    rw [h] at c1
    clear e1 e2 x0 x1 h
    go_enter Try.func13, Try.ntmps13
    go_wp2_with fail
    refine (c1 _).mono ?_
    rintro e w' ⟨rfl, rfl⟩
    go_wp2_with fail
    refine (c2 _).mono ?_
    rintro e w' ⟨rfl, rfl⟩
    go_wp2_with fail
    exact bodyPost_ret (v := .tuple #[.int .i64 (0), .int .i64 (0), .int .i64 (decA x), .bool (isF x), .int .i64 (decE x)]) (by simp [results, Try.results13, go_sem]) rfl ⟨rfl, rfl⟩
  · have c2 := decLive_any x x0 x1 h
    have e1 : decA x = 0 := by unfold decA; rw [isF_even h]; rfl
    rw [e1, isF_even h]
    rw [h] at c1
    clear e1 x0 x1 h
    go_enter Try.func13, Try.ntmps13
    go_wp2_with fail
    refine (c1 _).mono ?_
    rintro e w' ⟨rfl, rfl⟩
    go_wp2_with fail
    refine (c2 _).mono ?_
    rintro e w' ⟨rfl, rfl⟩
    go_wp2_with fail
    exact bodyPost_ret (v := .tuple #[.int .i64 (decR x), .int .i64 (decD x), .int .i64 (0), .bool (false), .int .i64 (decE x)]) (by simp [results, Try.results13, go_sem]) rfl ⟨rfl, rfl⟩

theorem refDec_any (x : Int) (x0 : 0 ≤ x) (x1 : x < 18446744073709551616) (w : World) :
    Calls Try.prog 14 #[.int .u64 x] w fun e w' => e = .returned (.tuple #[.int .i64 (decR x), .int .i64 (decD x), .int .i64 (decA x), .bool (isF x), .int .i64 (decE x)]) ∧ w = w' := by
  rcases (show x % 2 = 1 ∨ x % 2 = 0 by omega) with h | h
  · have e1 : decR x = 0 := by unfold decR; rw [isL_odd h]; rfl
    have e2 : decD x = 0 := by unfold decD; rw [isL_odd h]; rfl
    rw [e1, e2]
    by_cases h2 : x / 2 < 16384
    · have hf : isF x = true := isF_yes h h2
      have e3 : decA x = x / 2 := by unfold decA; rw [hf]; rfl
      have e4 : decE x = 0 := by unfold decE; rw [hf]; rfl
      rw [e3, e4, hf]
      clear e1 e2 e3 e4 hf
      go_enter Try.func14, Try.ntmps14
      go_wp2_with fail
      exact bodyPost_ret (v := .tuple #[.int .i64 (0), .int .i64 (0), .int .i64 (x / 2), .bool (true), .int .i64 (0)]) (by simp [results, Try.results14, go_sem]) rfl ⟨rfl, rfl⟩
    · have hf : isF x = false := isF_far h2
      have e3 : decA x = 0 := by unfold decA; rw [hf]; rfl
      have e4 : decE x = 12 := by unfold decE; rw [hf, isL_odd h]; rfl
      rw [e3, e4, hf]
      clear e1 e2 e3 e4 hf
      go_enter Try.func14, Try.ntmps14
      go_wp2_with fail
      exact bodyPost_ret (v := .tuple #[.int .i64 (0), .int .i64 (0), .int .i64 (0), .bool (false), .int .i64 (12)]) (by simp [results, Try.results14, go_sem]) rfl ⟨rfl, rfl⟩
  · have e1 : decA x = 0 := by unfold decA; rw [isF_even h]; rfl
    rw [e1, isF_even h]
    by_cases hl : isL x = true
    · have e2 : decR x = x % 256 / 2 := by unfold decR; rw [hl]; rfl
      have e3 : decD x = x / 256 - 1 - x % 256 / 2 := by unfold decD; rw [hl]; rfl
      have e4 : decE x = 0 := by unfold decE; rw [hl, Bool.or_true]; rfl
      rw [e2, e3, e4]
      obtain ⟨g1, g2, g3, g4, g5⟩ := isL_iff.1 hl
      have e5 : x % 256 % 2 = 0 := by omega
      clear e1 e2 e3 e4 hl
      go_enter Try.func14, Try.ntmps14
      go_wp2_with fail
      exact bodyPost_ret (v := .tuple #[.int .i64 (x % 256 / 2), .int .i64 (x / 256 - 1 - x % 256 / 2), .int .i64 (0), .bool (false), .int .i64 (0)]) (by simp [results, Try.results14, go_sem]) rfl ⟨rfl, rfl⟩
    · have hl' : isL x = false := by simpa using hl
      have e2 : decR x = 0 := by unfold decR; rw [hl']; rfl
      have e3 : decD x = 0 := by unfold decD; rw [hl']; rfl
      have e4 : decE x = 12 := by unfold decE; rw [hl', isF_even h]; rfl
      rw [e2, e3, e4]
      have g : ¬ (x % 2 = 0 ∧ x / 256 ≤ 48 ∧ x % 256 / 2 ≤ 15 ∧ 1 + x % 256 / 2 ≤ x / 256 ∧ x / 256 - 1 - x % 256 / 2 ≤ 32) := fun k => hl (isL_iff.2 k)
      clear e1 e2 e3 e4 hl hl'
      go_enter Try.func14, Try.ntmps14
      go_wp2_with fail
      all_goals exact bodyPost_ret (v := .tuple #[.int .i64 (0), .int .i64 (0), .int .i64 (0), .bool (false), .int .i64 (12)]) (by simp [results, Try.results14, go_sem]) rfl ⟨rfl, rfl⟩

theorem dec_range (x : Int) (x0 : 0 ≤ x) : 0 ≤ decR x ∧ decR x ≤ 15 ∧ 0 ≤ decD x ∧ decD x ≤ 32 ∧ 0 ≤ decA x ∧ decA x ≤ 16383 := by
  have h1 : 0 ≤ decR x ∧ decR x ≤ 15 ∧ 0 ≤ decD x ∧ decD x ≤ 32 := by
    unfold decR decD
    cases hl : isL x
    · simp
    · have := isL_iff.1 hl
      rw [if_pos rfl, if_pos rfl]; omega
  have h2 : 0 ≤ decA x ∧ decA x ≤ 16383 := by
    unfold decA
    cases hf : isF x
    · simp
    · have := isF_iff.1 hf
      rw [if_pos rfl]; omega
  omega

theorem awake7_any (w : World) :
    Calls Try.prog 12 #[] w fun e w' => e = .returned (.bool true) ∧ w = w' := by
  have c1 := live_any 2 3 (by decide) (by decide) (by decide) (by decide)
  have c2 := fwd_any 5 (by decide) (by decide)
  rw [show liveV 2 3 = 1540 by decide, show liveE 2 3 = 0 by decide] at c1
  rw [show fwdV 5 = 11 by decide, show fwdE 5 = 0 by decide] at c2
  go_enter Try.func12, Try.ntmps12
  go_wp2_with fail
  refine (c1 _).mono ?_
  rintro e w' ⟨rfl, rfl⟩
  go_wp2_with fail
  refine (c2 _).mono ?_
  rintro e w' ⟨rfl, rfl⟩
  go_wp2_with fail
  go_ret
  exact ⟨ret_bool rfl, rfl⟩
end Go.Proofs.Ytplifmmabfjfoaa
