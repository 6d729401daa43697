/-
  Contracts of the reference of layer 3: sizes, addresses, pairs.
-/
import Derived.Test.YtemfiedhpohfkaaUn
namespace Go.Proofs.Ytemfiedhpohfkaa
open Go.RowKit
set_option linter.unusedVariables false

theorem and_low' (a : Int) (k : Nat) (h0 : 0 ≤ a) (h1 : a ≤ 9223372036854775807) (hk : k ≤ 8) : bits .and .i64 a (2 ^ k - 1) = a % 2 ^ k := by
  have h := and_low a k h0 h1 hk
  have p0 := pw_pos k
  have p1 := pw_bd hk
  rw [IntWalk.i64_in _ (by omega)] at h
  exact h

theorem refShift_any (s : Int) (w : World) :
    Calls Try.prog 36 #[.int .i64 s] w fun e w' => e = .returned (.bool (shB s)) ∧ w = w' := by
  by_cases h1 : 3 ≤ s
  · by_cases h2 : s ≤ 8
    · go_enter Try.func36, Try.ntmps36
      go_wp2
      go_ret
      exact ⟨ret_bool (by simp [shB]; omega), rfl⟩
    · go_enter Try.func36, Try.ntmps36
      go_wp2
      go_ret
      exact ⟨ret_bool (by simp [shB]; omega), rfl⟩
  · go_enter Try.func36, Try.ntmps36
    go_wp2
    go_ret
    exact ⟨ret_bool (by simp [shB]; omega), rfl⟩

def sizeV (s : Int) : Int := if shB s then 2 ^ s.toNat else 0

theorem size_any (s : Int) (V1 V2 : Value) (w : World) :
    Calls Try.prog 14 #[.agg #[.int .i64 s, V1, V2]] w fun e w' => e = .returned (.int .i64 (sizeV s)) ∧ Below w.heap.size w w' := by
  rcases hs : shB s with _ | _
  · have e1 : sizeV s = 0 := by simp [sizeV, hs]
    rw [e1]
    exact size_no s V1 V2 w hs
  · obtain ⟨h1, h2⟩ := shB_yes hs
    have e1 : sizeV s = 2 ^ s.toNat := by simp [sizeV, hs]
    rw [e1]
    have h := size_yes s.toNat V1 V2 w (by omega) (by omega)
    rw [Int.toNat_of_nonneg (by omega)] at h
    exact h

theorem refSize_any (s : Int) (V1 V2 : Value) (w : World) :
    Calls Try.prog 15 #[.agg #[.int .i64 s, V1, V2]] w fun e w' => e = .returned (.int .i64 (sizeV s)) ∧ Below w.heap.size w w' := by
  rcases hs : shB s with _ | _
  · have e1 : sizeV s = 0 := by simp [sizeV, hs]
    rw [e1]
    have H := Lib.hid hs
    clear hs e1
    go_enter Try.func15, Try.ntmps15
    go_wp2_with (go_at_call 36; refine (refShift_any _ _).mono ?_; rintro e w' ⟨rfl, rfl⟩; rw [H.out])
    go_ret
    exact ⟨rfl, (Below.refl _ _).alloc (Nat.le_refl _) _⟩
  · obtain ⟨h1, h2⟩ := shB_yes hs
    obtain ⟨k, rfl⟩ : ∃ k : Nat, s = k := ⟨s.toNat, by omega⟩
    have e1 : sizeV k = 2 ^ k := by simp [sizeV, hs]
    rw [e1]
    have p0 := pw_pos k
    have p1 := pw_bd (show k ≤ 8 by omega)
    have H := Lib.hid hs
    clear hs e1
    go_enter Try.func15, Try.ntmps15
    go_wp2_with (go_at_call 36; refine (refShift_any _ _).mono ?_; rintro e w' ⟨rfl, rfl⟩; rw [H.out])
    go_ret
    exact ⟨rfl, (Below.refl _ _).alloc (Nat.le_refl _) _⟩

theorem odd_any (s : Int) (V1 : Value) (A : Option Addr) (n c : Nat) (w : World) :
    Calls Try.prog 41 #[.agg #[.int .i64 s, V1, .slice A n c]] w fun e w' => e = .returned (.bool (!numB s n)) ∧ Below w.heap.size w w' := by
  rcases hs : shB s with _ | _
  · have H := Lib.hid hs
    clear hs
    go_enter Try.func41, Try.ntmps41
    go_wp2_with (go_at_call 36; refine (refShift_any _ _).mono ?_; rintro e w' ⟨rfl, rfl⟩; rw [H.out])
    go_ret
    exact ⟨ret_bool (by simp [numB, H.out]), (Below.refl _ _).alloc (Nat.le_refl _) _⟩
  · have H := Lib.hid hs
    clear hs
    by_cases hn : (n : Int) ≤ 64
    · go_enter Try.func41, Try.ntmps41
      go_wp2_with (go_at_call 36; refine (refShift_any _ _).mono ?_; rintro e w' ⟨rfl, rfl⟩; rw [H.out])
      go_ret
      exact ⟨ret_bool (by rw [numB, H.out, decide_eq_false (show ¬ (64 : Int) < n by omega), decide_eq_true (show n ≤ 64 by omega)]; rfl), (Below.refl _ _).alloc (Nat.le_refl _) _⟩
    · have hn' : 64 < (n : Int) := by omega
      clear hn
      go_enter Try.func41, Try.ntmps41
      go_wp2_with (go_at_call 36; refine (refShift_any _ _).mono ?_; rintro e w' ⟨rfl, rfl⟩; rw [H.out])
      go_ret
      exact ⟨ret_bool (by simp [numB, H.out]; omega), (Below.refl _ _).alloc (Nat.le_refl _) _⟩

theorem refOf_any (s : Int) (V1 : Value) (A : Option Addr) (n c : Nat) (a : Int) (w : World) (a0 : -9223372036854775808 ≤ a) (a1 : a ≤ 9223372036854775807) :
    Calls Try.prog 21 #[.agg #[.int .i64 s, V1, .slice A n c], .int .i64 a] w (Gives3 (ofF s n a) (ofO s n a) (ofE s n a) w) := by
  rcases hn : numB s n with _ | _
  · have e1 : ofE s n a = 1 := by simp [ofE, hn]
    have e2 : ofF s n a = 0 := by simp [ofF, e1]
    have e3 : ofO s n a = 0 := by simp [ofO, e1]
    have ho : (!numB s n) = true := by rw [hn]; rfl
    rw [e1, e2, e3]
    have HO := Lib.hid ho
    clear ho hn e1 e2 e3
    go_enter Try.func21, Try.ntmps21
    go_wp2_with (go_at_call 41; refine (odd_any _ _ _ _ _ _).mono ?_; rintro e w1 ⟨rfl, hb⟩; rw [HO.out]; obtain ⟨bc, bf⟩ := bcell hb; have HB := Lib.hid hb; clear hb)
    go_ret3
    exact ⟨rfl, below_box HB.out⟩
  · obtain ⟨k, rfl, k1, k2, n1⟩ := numB_yes hn
    have p0 := pw_pos k
    have p1 := pw_bd k2
    obtain ⟨q0, q1⟩ := prod_bd n1 k2
    have ho : (!numB k n) = false := by rw [hn]; rfl
    by_cases h0 : a < 0
    · have e1 : ofE k n a = 2 := by simp [ofE, hn]; omega
      have e2 : ofF k n a = 0 := by simp [ofF, e1]
      have e3 : ofO k n a = 0 := by simp [ofO, e1]
      rw [e1, e2, e3]
      have HO := Lib.hid ho
      clear ho hn e1 e2 e3
      go_enter Try.func21, Try.ntmps21
      go_wp2_with (go_at_call 41; refine (odd_any _ _ _ _ _ _).mono ?_; rintro e w1 ⟨rfl, hb⟩; rw [HO.out]; obtain ⟨bc, bf⟩ := bcell hb; have HB := Lib.hid hb; clear hb)
      go_ret3
      exact ⟨rfl, below_box HB.out⟩
    · by_cases h2 : (n : Int) * 2 ^ k ≤ a
      · have e1 : ofE k n a = 2 := by simp [ofE, hn]; omega
        have e2 : ofF k n a = 0 := by simp [ofF, e1]
        have e3 : ofO k n a = 0 := by simp [ofO, e1]
        rw [e1, e2, e3]
        have HO := Lib.hid ho
        clear ho hn e1 e2 e3
        go_enter Try.func21, Try.ntmps21
        go_wp2_with (go_at_call 41; refine (odd_any _ _ _ _ _ _).mono ?_; rintro e w1 ⟨rfl, hb⟩; rw [HO.out]; obtain ⟨bc, bf⟩ := bcell hb; have HB := Lib.hid hb; clear hb)
        go_ret3
        exact ⟨rfl, below_box HB.out⟩
      · have e1 : ofE k n a = 0 := by simp [ofE, hn]; omega
        have e2 : ofF k n a = a / 2 ^ k := by simp [ofF, e1]
        have e3 : ofO k n a = a % 2 ^ k := by simp [ofO, e1]
        have hal := and_low' a k (by omega) a1 k2
        rw [e1, e2, e3]
        have HA := Lib.hid hal
        clear hal
        have HO := Lib.hid ho
        clear ho hn e1 e2 e3
        go_enter Try.func21, Try.ntmps21
        go_wp2_with (go_at_call 41; refine (odd_any _ _ _ _ _ _).mono ?_; rintro e w1 ⟨rfl, hb⟩; rw [HO.out]; obtain ⟨bc, bf⟩ := bcell hb; have HB := Lib.hid hb; clear hb)
        have z1 : w.heap.size < w1.heap.size := by have := HB.out.size; simp at this; omega
        have c0 : w1.cell? ⟨w.heap.size, 0, none⟩ = some (.int .i64 k) := by rw [bc _ _ (by simp)]; go_simp
        clear bc bf
        go_quiet (fail)
        go_wp2
        go_ret3
        exact ⟨ret3 rfl HA.out rfl, (below_box HB.out).trans ⟨rfl, rfl, rfl, Nat.le_refl _, fun _ _ => rfl⟩⟩

theorem refBase_any (s : Int) (V1 : Value) (A : Option Addr) (n c : Nat) (f : Int) (w : World) (a0 : -9223372036854775808 ≤ f) (a1 : f ≤ 9223372036854775807) :
    Calls Try.prog 23 #[.agg #[.int .i64 s, V1, .slice A n c], .int .i64 f] w (Gives2 (baseV s n f) (baseE s n f) w) := by
  rcases hn : numB s n with _ | _
  · have e1 : baseE s n f = 1 := by simp [baseE, hn]
    have e2 : baseV s n f = 0 := by simp [baseV, e1]
    have ho : (!numB s n) = true := by rw [hn]; rfl
    rw [e1, e2]
    have HO := Lib.hid ho
    clear ho hn e1 e2
    go_enter Try.func23, Try.ntmps23
    go_wp2_with (go_at_call 41; refine (odd_any _ _ _ _ _ _).mono ?_; rintro e w1 ⟨rfl, hb⟩; rw [HO.out]; obtain ⟨bc, bf⟩ := bcell hb; have HB := Lib.hid hb; clear hb)
    go_ret2
    exact ⟨rfl, below_box HB.out⟩
  · obtain ⟨k, rfl, k1, k2, n1⟩ := numB_yes hn
    have ho : (!numB k n) = false := by rw [hn]; rfl
    by_cases h0 : f < 0
    · have hi : inB n f = false := by simp [inB]; omega
      have e1 : baseE k n f = 2 := by simp [baseE, hn, hi]
      have e2 : baseV k n f = 0 := by simp [baseV, e1]
      rw [e1, e2]
      have HO := Lib.hid ho
      clear ho hn e1 e2 hi
      go_enter Try.func23, Try.ntmps23
      go_wp2_with (go_at_call 41; refine (odd_any _ _ _ _ _ _).mono ?_; rintro e w1 ⟨rfl, hb⟩; rw [HO.out]; obtain ⟨bc, bf⟩ := bcell hb; have HB := Lib.hid hb; clear hb)
      go_ret2
      exact ⟨rfl, below_box HB.out⟩
    · by_cases h2 : (n : Int) ≤ f
      · have hi : inB n f = false := by simp [inB]; omega
        have e1 : baseE k n f = 2 := by simp [baseE, hn, hi]
        have e2 : baseV k n f = 0 := by simp [baseV, e1]
        rw [e1, e2]
        have HO := Lib.hid ho
        clear ho hn e1 e2 hi
        go_enter Try.func23, Try.ntmps23
        go_wp2_with (go_at_call 41; refine (odd_any _ _ _ _ _ _).mono ?_; rintro e w1 ⟨rfl, hb⟩; rw [HO.out]; obtain ⟨bc, bf⟩ := bcell hb; have HB := Lib.hid hb; clear hb)
        go_ret2
        exact ⟨rfl, below_box HB.out⟩
      · have hi : inB n f = true := by simp [inB]; omega
        have e1 : baseE k n f = 0 := by simp [baseE, hn, hi]
        have e2 : baseV k n f = f * 2 ^ k := by simp [baseV, e1]
        rw [e1, e2]
        obtain ⟨q0, q1⟩ := inB_prod hi n1 k2
        have HO := Lib.hid ho
        clear ho hn e1 e2 hi
        go_enter Try.func23, Try.ntmps23
        go_wp2_with (go_at_call 41; refine (odd_any _ _ _ _ _ _).mono ?_; rintro e w1 ⟨rfl, hb⟩; rw [HO.out]; obtain ⟨bc, bf⟩ := bcell hb; have HB := Lib.hid hb; clear hb)
        go_ret2
        exact ⟨rfl, below_box HB.out⟩

theorem refPair_any (s : Int) (V1 : Value) (A : Option Addr) (n c : Nat) (f g : Int) (w : World) (a0 : -9223372036854775808 ≤ f) (a1 : f ≤ 9223372036854775807) (b0 : -9223372036854775808 ≤ g) (b1 : g ≤ 9223372036854775807) :
    Calls Try.prog 25 #[.agg #[.int .i64 s, V1, .slice A n c], .int .i64 f, .int .i64 g] w (Gives2 (pairV s n f g) (pairE s n f g) w) := by
  rcases hn : numB s n with _ | _
  · have e1 : pairE s n f g = 1 := by simp [pairE, hn]
    have e2 : pairV s n f g = 0 := by simp [pairV, e1]
    have ho : (!numB s n) = true := by rw [hn]; rfl
    rw [e1, e2]
    have HO := Lib.hid ho
    clear ho hn e1 e2
    go_enter Try.func25, Try.ntmps25
    go_wp2_with (go_at_call 41; refine (odd_any _ _ _ _ _ _).mono ?_; rintro e w1 ⟨rfl, hb⟩; rw [HO.out]; obtain ⟨bc, bf⟩ := bcell hb; have HB := Lib.hid hb; clear hb)
    go_ret2
    exact ⟨rfl, below_box HB.out⟩
  · obtain ⟨k, rfl, k1, k2, n1⟩ := numB_yes hn
    have ho : (!numB k n) = false := by rw [hn]; rfl
    by_cases h0 : f < 0
    · have hi : inB n f = false := by simp [inB]; omega
      have e1 : pairE k n f g = 2 := by simp [pairE, hn, hi]
      have e2 : pairV k n f g = 0 := by simp [pairV, e1]
      rw [e1, e2]
      have HO := Lib.hid ho
      clear ho hn e1 e2 hi
      go_enter Try.func25, Try.ntmps25
      go_wp2_with (go_at_call 41; refine (odd_any _ _ _ _ _ _).mono ?_; rintro e w1 ⟨rfl, hb⟩; rw [HO.out]; obtain ⟨bc, bf⟩ := bcell hb; have HB := Lib.hid hb; clear hb)
      go_ret2
      exact ⟨rfl, below_box HB.out⟩
    · by_cases h2 : (n : Int) ≤ f
      · have hi : inB n f = false := by simp [inB]; omega
        have e1 : pairE k n f g = 2 := by simp [pairE, hn, hi]
        have e2 : pairV k n f g = 0 := by simp [pairV, e1]
        rw [e1, e2]
        have HO := Lib.hid ho
        clear ho hn e1 e2 hi
        go_enter Try.func25, Try.ntmps25
        go_wp2_with (go_at_call 41; refine (odd_any _ _ _ _ _ _).mono ?_; rintro e w1 ⟨rfl, hb⟩; rw [HO.out]; obtain ⟨bc, bf⟩ := bcell hb; have HB := Lib.hid hb; clear hb)
        go_ret2
        exact ⟨rfl, below_box HB.out⟩
      · have hi : inB n f = true := by simp [inB]; omega
        by_cases h3 : g < 0
        · have hj : inB n g = false := by simp [inB]; omega
          have e1 : pairE k n f g = 2 := by simp [pairE, hn, hi, hj]
          have e2 : pairV k n f g = 0 := by simp [pairV, e1]
          rw [e1, e2]
          have HO := Lib.hid ho
          clear ho hn e1 e2 hi hj
          go_enter Try.func25, Try.ntmps25
          go_wp2_with (go_at_call 41; refine (odd_any _ _ _ _ _ _).mono ?_; rintro e w1 ⟨rfl, hb⟩; rw [HO.out]; obtain ⟨bc, bf⟩ := bcell hb; have HB := Lib.hid hb; clear hb)
          go_ret2
          exact ⟨rfl, below_box HB.out⟩
        · by_cases h4 : (n : Int) ≤ g
          · have hj : inB n g = false := by simp [inB]; omega
            have e1 : pairE k n f g = 2 := by simp [pairE, hn, hi, hj]
            have e2 : pairV k n f g = 0 := by simp [pairV, e1]
            rw [e1, e2]
            have HO := Lib.hid ho
            clear ho hn e1 e2 hi hj
            go_enter Try.func25, Try.ntmps25
            go_wp2_with (go_at_call 41; refine (odd_any _ _ _ _ _ _).mono ?_; rintro e w1 ⟨rfl, hb⟩; rw [HO.out]; obtain ⟨bc, bf⟩ := bcell hb; have HB := Lib.hid hb; clear hb)
            go_ret2
            exact ⟨rfl, below_box HB.out⟩
          · have hj : inB n g = true := by simp [inB]; omega
            have e1 : pairE k n f g = 0 := by simp [pairE, hn, hi, hj]
            have e2 : pairV k n f g = f * n + g := by simp [pairV, e1]
            rw [e1, e2]
            obtain ⟨q0, q1, q2, q3⟩ := pair_bd hi hj n1
            have HO := Lib.hid ho
            clear ho hn e1 e2 hi hj
            go_enter Try.func25, Try.ntmps25
            go_wp2_with (go_at_call 41; refine (odd_any _ _ _ _ _ _).mono ?_; rintro e w1 ⟨rfl, hb⟩; rw [HO.out]; obtain ⟨bc, bf⟩ := bcell hb; have HB := Lib.hid hb; clear hb)
            go_ret2
            exact ⟨rfl, below_box HB.out⟩

theorem refUnpair_any (s : Int) (V1 : Value) (A : Option Addr) (n c : Nat) (p : Int) (w : World) (a0 : -9223372036854775808 ≤ p) (a1 : p ≤ 9223372036854775807) (hc : n ≤ 9223372036854775807) :
    Calls Try.prog 27 #[.agg #[.int .i64 s, V1, .slice A n c], .int .i64 p] w (Gives3 (unF s n p) (unG s n p) (unE s n p) w) := by
  rcases hn : numB s n with _ | _
  · have e1 : unE s n p = 1 := by simp [unE, hn]
    have e2 : unF s n p = 0 := by simp [unF, e1]
    have e3 : unG s n p = 0 := by simp [unG, e1]
    have ho : (!numB s n) = true := by rw [hn]; rfl
    rw [e1, e2, e3]
    have HO := Lib.hid ho
    clear ho hn e1 e2 e3
    go_enter Try.func27, Try.ntmps27
    go_wp2_with (go_at_call 41; refine (odd_any _ _ _ _ _ _).mono ?_; rintro e w1 ⟨rfl, hb⟩; rw [HO.out]; obtain ⟨bc, bf⟩ := bcell hb; have HB := Lib.hid hb; clear hb)
    go_ret3
    exact ⟨rfl, below_box HB.out⟩
  · obtain ⟨k, rfl, k1, k2, n1⟩ := numB_yes hn
    obtain ⟨q0, q1⟩ := sq_bd n1
    have ho : (!numB k n) = false := by rw [hn]; rfl
    by_cases h0 : p < 0
    · have e1 : unE k n p = 2 := by simp [unE, hn]; omega
      have e2 : unF k n p = 0 := by simp [unF, e1]
      have e3 : unG k n p = 0 := by simp [unG, e1]
      rw [e1, e2, e3]
      have HO := Lib.hid ho
      clear ho hn e1 e2 e3
      go_enter Try.func27, Try.ntmps27
      go_wp2_with (go_at_call 41; refine (odd_any _ _ _ _ _ _).mono ?_; rintro e w1 ⟨rfl, hb⟩; rw [HO.out]; obtain ⟨bc, bf⟩ := bcell hb; have HB := Lib.hid hb; clear hb)
      go_ret3
      exact ⟨rfl, below_box HB.out⟩
    · by_cases h2 : (n : Int) * n ≤ p
      · have e1 : unE k n p = 2 := by simp [unE, hn]; omega
        have e2 : unF k n p = 0 := by simp [unF, e1]
        have e3 : unG k n p = 0 := by simp [unG, e1]
        rw [e1, e2, e3]
        have HO := Lib.hid ho
        clear ho hn e1 e2 e3
        go_enter Try.func27, Try.ntmps27
        go_wp2_with (go_at_call 41; refine (odd_any _ _ _ _ _ _).mono ?_; rintro e w1 ⟨rfl, hb⟩; rw [HO.out]; obtain ⟨bc, bf⟩ := bcell hb; have HB := Lib.hid hb; clear hb)
        go_ret3
        exact ⟨rfl, below_box HB.out⟩
      · have e1 : unE k n p = 0 := by simp [unE, hn]; omega
        have e2 : unF k n p = p / n := by simp [unF, e1]
        have e3 : unG k n p = p % n := by simp [unG, e1]
        rw [e1, e2, e3]
        have n0 : 0 < n := by
          rcases Nat.eq_zero_or_pos n with rfl | h
          · simp at h2; omega
          · exact h
        have n2 : ((n : Int) == 0) = false := by simp; omega
        have HO := Lib.hid ho
        clear ho hn e1 e2 e3
        go_enter Try.func27, Try.ntmps27
        go_wp2_with (go_at_call 41; refine (odd_any _ _ _ _ _ _).mono ?_; rintro e w1 ⟨rfl, hb⟩; rw [HO.out]; obtain ⟨bc, bf⟩ := bcell hb; have HB := Lib.hid hb; clear hb)
        clear bc bf
        go_quiet (fail)
        go_wp2
        go_ret3
        exact ⟨ret3 rfl rfl rfl, (below_box HB.out).trans ⟨rfl, rfl, rfl, Nat.le_refl _, fun _ _ => rfl⟩⟩
end Go.Proofs.Ytemfiedhpohfkaa
