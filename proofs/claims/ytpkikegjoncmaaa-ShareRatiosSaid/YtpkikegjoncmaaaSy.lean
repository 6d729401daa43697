/-
  Contracts of layer 6, continued: Frames on both sides.
-/
import Derived.Test.YtpkikegjoncmaaaSw
namespace Go.Proofs.Ytpkikegjoncmaaa
open Go.RowKit (wrap32 wrap64 intOf)
set_option linter.unusedVariables false
set_option maxRecDepth 100000

theorem ret_uu {a b c d : Int} (h : a = b) (k : c = d) : Ending.returned (.tuple #[.int .u64 a, .int .u64 c]) = Ending.returned (.tuple #[.int .u64 b, .int .u64 d]) := by rw [h, k]

theorem parts_any (x : Nat) (h : x ≤ 4607182418800017408) (w : World) : Calls Try.prog 35 #[.float .f64 x] w fun e w' => e = .returned (.tuple #[.int .u64 (mantF x), .int .u64 (shF x)]) ∧ w = w' := by
  have hb := run_bits x
  have ha := and_frac (show x < 18446744073709551616 by omega)
  unfold mantF shF
  by_cases h1 : x < 4503599627370496
  · rw [if_pos h1, if_pos h1]
    rw [Nat.mod_eq_of_lt h1] at ha
    have hd : (x : Int) / 4503599627370496 = 0 := by omega
    go_enter Try.func35, Try.ntmps35
    go_wp2
    all_goals (go_ret2; exact ⟨rfl, rfl⟩)
  · rw [if_neg h1, if_neg h1]
    have ho := or_lead (Nat.mod_lt x (show 0 < 4503599627370496 by decide))
    obtain ⟨r, hr⟩ : ∃ r, r = x % 4503599627370496 := ⟨_, rfl⟩
    obtain ⟨d, hd⟩ : ∃ d, d = x / 4503599627370496 := ⟨_, rfl⟩
    rw [← hr] at ha ho
    rw [← hr, ← hd]
    have hd' : (x : Int) / 4503599627370496 = d := by omega
    have d0 : ¬ (d : Int) = 0 := by omega
    have d1 : d ≤ 1023 := by omega
    clear hr hd
    go_enter Try.func35, Try.ntmps35
    go_wp2
    all_goals (go_ret2; refine ⟨ret_uu ?_ ?_, rfl⟩)
    all_goals omega
theorem prod_any (x : Nat) (n : Int) (h : x ≤ 4607182418800017408) (n0 : 1 ≤ n) (n1 : n ≤ 64) (w : World) : Calls Try.prog 30 #[.float .f64 x, .int .i64 n] w fun e w' => e = .returned (.int .i64 (prodF x n.toNat)) ∧ w = w' := by
  have hp := parts_any x h w
  have hm := mant_lt x
  obtain ⟨s0, s1⟩ := sh_lo h
  have hq := prod_le n.toNat h
  unfold prodF at *
  generalize mantF x = m at *
  generalize shF x = s at *
  obtain ⟨k, rfl⟩ := Int.eq_ofNat_of_zero_le (show 0 ≤ n by omega)
  have e2 : m * k < 1152921504606846976 := by
    have := Nat.mul_le_mul (show m ≤ 9007199254740991 by omega) (show k ≤ 64 by omega)
    omega
  obtain ⟨P, hP⟩ : ∃ P, P = m * k := ⟨_, rfl⟩
  have e1 : (m : Int) * (k : Int) = (P : Int) := by rw [hP]; simp
  rw [← hP] at e2
  have ek : ((k : Int)).toNat = k := Int.toNat_natCast k
  rw [ek, ← hP] at hq
  rw [ek, ← hP]
  clear hP
  by_cases hs : s < 64
  · go_enter Try.func30, Try.ntmps30
    go_wp2_with fail
    refine hp.mono ?_
    rintro e w' ⟨rfl, rfl⟩
    clear hp
    go_wp2
    all_goals (go_ret; refine ⟨ret_i64 ?_, rfl⟩)
    all_goals (
      have e3 : (P : Int) / 2 ^ s = ((P / 2 ^ s : Nat) : Int) := by simp
      rw [e3]
      generalize P / 2 ^ s = z at *
      unfold wrap64; omega)
  · have hz : P / 2 ^ s = 0 := div_big e2 (by omega)
    rw [hz]
    go_enter Try.func30, Try.ntmps30
    go_wp2_with fail
    refine hp.mono ?_
    rintro e w' ⟨rfl, rfl⟩
    clear hp
    go_wp2
    all_goals (go_ret; refine ⟨ret_i64 ?_, rfl⟩)
    all_goals (
      rw [show min s 64 = 64 by omega]
      unfold wrap64; omega)
theorem frames_any (x : Nat) (n : Int) (hx : x < 18446744073709551616) (w : World) : Calls Try.prog 14 #[.float .f64 x, .int .i64 n] w fun e w' => e = .returned (.tuple #[.int .i64 (frK x n), .int .i64 (frE x n)]) ∧ w = w' := by
  have hv := valid_any x hx
  by_cases h : x ≤ 4607182418800017408
  · rw [okF_yes h] at hv
    unfold frK frE
    rw [okF_yes h, if_pos rfl, if_pos rfl]
    by_cases hn : 1 ≤ n ∧ n ≤ 64
    · rw [if_pos hn, if_pos hn]
      by_cases h0 : x = 0
      · subst h0
        go_enter Try.func14, Try.ntmps14
        go_wp2_with (go_at_call 11; refine (hv _).mono ?_; rintro e w' ⟨rfl, rfl⟩)
        all_goals (go_ret2; exact ⟨rfl, rfl⟩)
      · rw [if_neg h0]
        have e0 := fo_zero (x := x) (by omega) h
        have hp := prod_any x n h hn.1 hn.2
        generalize prodF x n.toNat = p at *
        have hk : ∃ c, c = (if (p : Int) > 1 then (p : Int) else 1) := ⟨_, rfl⟩
        obtain ⟨c, hc⟩ := hk
        rw [← hc]
        by_cases hp1 : (p : Int) > 1
        · rw [if_pos hp1] at hc
          subst hc
          go_enter Try.func14, Try.ntmps14
          go_wp2_with (first | (go_at_call 11; refine (hv _).mono ?_; rintro e w' ⟨rfl, rfl⟩) | (go_at_call 30; refine (hp _).mono ?_; rintro e w' ⟨rfl, rfl⟩))
          all_goals (go_ret2; exact ⟨rfl, rfl⟩)
        · rw [if_neg hp1] at hc
          subst hc
          go_enter Try.func14, Try.ntmps14
          go_wp2_with (first | (go_at_call 11; refine (hv _).mono ?_; rintro e w' ⟨rfl, rfl⟩) | (go_at_call 30; refine (hp _).mono ?_; rintro e w' ⟨rfl, rfl⟩))
          all_goals (go_ret2; exact ⟨rfl, rfl⟩)
    · rw [if_neg hn, if_neg hn]
      go_enter Try.func14, Try.ntmps14
      go_wp2_with (go_at_call 11; refine (hv _).mono ?_; rintro e w' ⟨rfl, rfl⟩)
      all_goals (go_ret2; exact ⟨rfl, rfl⟩)
  · rw [okF_no (by omega)] at hv
    unfold frK frE
    rw [okF_no (by omega)]
    go_enter Try.func14, Try.ntmps14
    go_wp2_with (go_at_call 11; refine (hv _).mono ?_; rintro e w' ⟨rfl, rfl⟩)
    all_goals (go_ret2; exact ⟨rfl, rfl⟩)
theorem refFrames_any (x : Nat) (n : Int) (hx : x < 18446744073709551616) (w : World) : Calls Try.prog 15 #[.float .f64 x, .int .i64 n] w fun e w' => e = .returned (.tuple #[.int .i64 (frK x n), .int .i64 (frE x n)]) ∧ w = w' := by
  have hv := refValid_any x hx
  by_cases h : x ≤ 4607182418800017408
  · rw [okF_yes h] at hv
    unfold frK frE
    rw [okF_yes h, if_pos rfl, if_pos rfl]
    by_cases hn : 1 ≤ n ∧ n ≤ 64
    · rw [if_pos hn, if_pos hn]
      by_cases h0 : x = 0
      · subst h0
        go_enter Try.func15, Try.ntmps15
        go_wp2_with (go_at_call 12; refine (hv _).mono ?_; rintro e w' ⟨rfl, rfl⟩)
        all_goals (go_ret2; exact ⟨rfl, rfl⟩)
      · rw [if_neg h0]
        have hb := run_bits x
        have e0 := fo_zero (x := x) (by omega) h
        have ha := and_frac (show x < 18446744073709551616 by omega)
        obtain ⟨n0, n1⟩ := hn
        have hq := prod_le n.toNat h
        have hm := mant_lt x
        by_cases h1 : x < 4503599627370496
        · rw [Nat.mod_eq_of_lt h1] at ha
          have hd : (x : Int) / 4503599627370496 = 0 := by omega
          have hf : bits .and .u64 0 2047 = 0 := by decide
          have hz : prodF x n.toNat = 0 := by
            have hs : 64 ≤ shF x := by unfold shF; rw [if_pos h1]; omega
            unfold prodF
            have := Nat.mul_le_mul (show mantF x ≤ 9007199254740991 by omega) (show n.toNat ≤ 64 by omega)
            exact div_big (by omega) hs
          rw [hz]
          clear hz hq hm
          go_enter Try.func15, Try.ntmps15
          go_wp2_with (go_at_call 12; refine (hv _).mono ?_; rintro e w' ⟨rfl, rfl⟩)
          all_goals (go_ret2; exact ⟨rfl, rfl⟩)
        · have ho := or_lead (Nat.mod_lt x (show 0 < 4503599627370496 by decide))
          have hf := and_exp (show x / 4503599627370496 < 18446744073709551616 by omega)
          unfold prodF mantF shF at *
          rw [if_neg h1] at hm
          rw [if_neg h1, if_neg h1] at hq ⊢
          obtain ⟨k, rfl⟩ := Int.eq_ofNat_of_zero_le (show 0 ≤ n by omega)
          have ek : ((k : Int)).toNat = k := Int.toNat_natCast k
          rw [ek] at hq ⊢
          have hdd : ((x : Nat) : Int) / 4503599627370496 = ((x / 4503599627370496 : Nat) : Int) := by omega
          have hde : x / 4503599627370496 % 2048 = x / 4503599627370496 := by omega
          have hd0 : 1 ≤ x / 4503599627370496 := by omega
          have hd1 : x / 4503599627370496 ≤ 1023 := by omega
          rw [hde] at hf
          generalize x / 4503599627370496 = d at *
          generalize x % 4503599627370496 = r at *
          have e2 : (r + 4503599627370496) * k < 1152921504606846976 := by
            have := Nat.mul_le_mul (show r + 4503599627370496 ≤ 9007199254740991 by omega) (show k ≤ 64 by omega)
            omega
          obtain ⟨m, hm2⟩ : ∃ m, m = r + 4503599627370496 := ⟨_, rfl⟩
          rw [← hm2] at ho e2 hq hm ⊢
          clear hm2
          obtain ⟨P, hP⟩ : ∃ P, P = m * k := ⟨_, rfl⟩
          have e1 : (m : Int) * (k : Int) = (P : Int) := by rw [hP]; simp
          rw [← hP] at e2 hq ⊢
          clear hP hde
          obtain ⟨s, hs⟩ : ∃ s, s = 1075 - d := ⟨_, rfl⟩
          rw [← hs] at hq ⊢
          have hs1 : 1075 - (d : Int) = (s : Int) := by omega
          clear hs
          by_cases hs : s < 64
          · have e3 : (P : Int) / 2 ^ s = ((P / 2 ^ s : Nat) : Int) := by simp
            generalize P / 2 ^ s = z at *
            by_cases hz : (z : Int) > 1
            · rw [if_pos hz]
              go_enter Try.func15, Try.ntmps15
              go_wp2_with (go_at_call 12; refine (hv _).mono ?_; rintro e w' ⟨rfl, rfl⟩)
              all_goals (go_ret2; exact ⟨rfl, rfl⟩)
            · rw [if_neg hz]
              go_enter Try.func15, Try.ntmps15
              go_wp2_with (go_at_call 12; refine (hv _).mono ?_; rintro e w' ⟨rfl, rfl⟩)
              all_goals (go_ret2; exact ⟨rfl, rfl⟩)
          · have hz : P / 2 ^ s = 0 := div_big e2 (by omega)
            rw [hz, if_neg (by decide)]
            go_enter Try.func15, Try.ntmps15
            go_wp2_with (go_at_call 12; refine (hv _).mono ?_; rintro e w' ⟨rfl, rfl⟩)
            all_goals (go_ret2; exact ⟨rfl, rfl⟩)
    · rw [if_neg hn, if_neg hn]
      go_enter Try.func15, Try.ntmps15
      go_wp2_with (go_at_call 12; refine (hv _).mono ?_; rintro e w' ⟨rfl, rfl⟩)
      all_goals (go_ret2; exact ⟨rfl, rfl⟩)
  · rw [okF_no (by omega)] at hv
    unfold frK frE
    rw [okF_no (by omega)]
    go_enter Try.func15, Try.ntmps15
    go_wp2_with (go_at_call 12; refine (hv _).mono ?_; rintro e w' ⟨rfl, rfl⟩)
    all_goals (go_ret2; exact ⟨rfl, rfl⟩)
end Go.Proofs.Ytpkikegjoncmaaa
