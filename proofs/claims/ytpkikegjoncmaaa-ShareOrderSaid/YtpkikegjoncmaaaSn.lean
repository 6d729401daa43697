/-
  Contracts of layer 6, continued: the numbers that the statements draw; ratios.
-/
import Derived.Test.YtpkikegjoncmaaaSq
import Derived.WalkSmall
namespace Go.Proofs.Ytpkikegjoncmaaa
open Go.RowKit (wrap32 wrap64 intOf)
open Go.RowKit
set_option linter.unusedVariables false
set_option maxRecDepth 100000

/-- The world has grown since W, and what was there in W is as it was. -/
def Since (W w : World) : Prop := Below W.heap.size W w ∧ Grown W w
theorem Since.refl (W : World) : Since W W := ⟨Below.refl _ _, Grown.refl _⟩
theorem Since.cell {W w : World} (h : Since W w) {a : Addr} {v : Value} (ha : a.block < W.heap.size) (c : W.cell? a = some v) : w.cell? a = some v := by
  rw [h.1.cell ha]; exact c
theorem Since.size {W w : World} (h : Since W w) : W.heap.size ≤ w.heap.size := h.1.size
theorem Since.drewN {W w : World} (h : Since W w) (n : Nat) : Since W (w.drewN n) := ⟨below_drewN h.1 n, h.2⟩
theorem Since.alloc {W w : World} (h : Since W w) (c : Array Value) (t : TypeId) : Since W (w.alloc (.cells c t)) := ⟨h.1.alloc h.1.size _, h.2.alloc _ _⟩
theorem Since.trans {U V W : World} (h : Since U V) (g : Since V W) : Since U W :=
  ⟨h.1.trans (g.1.mono h.1.size), World.keptBut_trans h.2.1 g.2.1, fun a => (g.2.2.1 a).trans (h.2.2.1 a), Nat.le_trans h.2.2.2 g.2.2.2⟩

theorem mod_pos {v n : Int} (h : 0 ≤ v) : v.tmod n = v % n := Int.tmod_eq_emod_of_nonneg h
theorem mod_neg {v n : Int} (h : v < 0) (hn : 1 ≤ n) : v.tmod n = if v % n = 0 then 0 else v % n - n := by
  have e : v.tmod n = -((-v) % n) := by
    rw [← Int.tmod_eq_emod_of_nonneg (by omega : 0 ≤ -v), Int.neg_tmod, Int.neg_neg]
  rw [e, Int.neg_emod]
  split <;> split <;> first | omega | (rename_i a b; exfalso; first | exact b (Int.emod_eq_zero_of_dvd a) | exact a (Int.dvd_of_emod_eq_zero b)) | skip
  all_goals (have := Int.natAbs_of_nonneg (by omega : 0 ≤ n); omega)

theorem mod_neg_lo {v n : Int} (h : v < 0) (hn : 1 ≤ n) : -n < v.tmod n := by
  have := Int.emod_nonneg v (show n ≠ 0 by omega)
  rw [mod_neg h hn]; split <;> omega
theorem mod_neg_hi {v n : Int} (h : v < 0) (hn : 1 ≤ n) : v.tmod n ≤ 0 := by
  have := Int.emod_lt_of_pos v (show 0 < n by omega)
  rw [mod_neg h hn]; split <;> omega
theorem mod_end0 {v n : Int} (h : v < 0) (hn : 1 ≤ n) (ht : 0 ≤ v.tmod n) : v.tmod n = v % n := by
  have := Int.emod_lt_of_pos v (show 0 < n by omega)
  rw [mod_neg h hn] at ht ⊢; split at ht <;> split <;> omega
theorem mod_end1 {v n : Int} (h : v < 0) (hn : 1 ≤ n) (ht : v.tmod n < 0) : v.tmod n + n = v % n := by
  rw [mod_neg h hn] at ht ⊢; split at ht <;> split <;> omega

theorem mod_any (v n : Int) (hn : 1 ≤ n) (hn' : n ≤ 9223372036854775807) (h0 : -9223372036854775808 ≤ v) (h1 : v ≤ 9223372036854775807) (w : World) :
    Calls Try.prog 13 #[.int .i64 v, .int .i64 n] w fun e w' => e = .returned (.int .i64 (v % n)) ∧ w = w' := by
  by_cases h : 0 ≤ v
  · have := Int.emod_nonneg v (show n ≠ 0 by omega)
    go_enter Try.func13, Try.ntmps13
    go_wp2
    go_ret
    exact ⟨ret_i64 rfl, rfl⟩
  · have h' : v < 0 := by omega
    have t0 := mod_neg_lo h' hn
    have t1 := mod_neg_hi h' hn
    by_cases ht : 0 ≤ v.tmod n
    · go_enter Try.func13, Try.ntmps13
      go_wp2
      go_ret
      exact ⟨ret_i64 (mod_end0 h' hn ht), rfl⟩
    · have ht' : v.tmod n < 0 := by omega
      go_enter Try.func13, Try.ntmps13
      go_wp2
      go_ret
      exact ⟨ret_i64 (mod_end1 h' hn ht'), rfl⟩



theorem bounds_i64 {a : Int} (h : (Lit.int .i64 a).wf = true) : -9223372036854775808 ≤ a ∧ a ≤ 9223372036854775807 := by
  have hmin : IntKind.i64.min = -9223372036854775808 := rfl
  have hmax : IntKind.i64.max = 9223372036854775807 := rfl
  simp only [Lit.wf, Bool.and_eq_true, decide_eq_true_eq, hmin, hmax] at h
  exact h


/-- The numbers that the statements draw. -/
def numL (v : Nat) : List Nat := [9221120237041090561, 9218868437227405312, 18442240474082181120, 9223372036854775808, 0, 4607182418800017408, 4602678819172646912, 4607182418800017407, 4607182418800017409, 1, 4336966441157787648, 4599676419421066581, v, v / 4096 + 4602678819172646912, v / 4096 + 4580160821035794432, pctF (v / 2 % 101)]
def numF (v : Nat) (k : Int) : Nat := (numL v).getD (k % 16).toNat 0
theorem numF_lt {v : Nat} (k : Int) (hv : v < 18446744073709551616) : numF v k < 18446744073709551616 := by
  unfold numF numL
  have h0 := Int.emod_nonneg k (show (16 : Int) ≠ 0 by decide)
  have h1 := Int.emod_lt_of_pos k (show (0 : Int) < 16 by decide)
  generalize k % 16 = j at *
  obtain ⟨i, rfl⟩ := Int.eq_ofNat_of_zero_le h0
  rw [Int.toNat_natCast]
  have hi : i = 0 ∨ i = 1 ∨ i = 2 ∨ i = 3 ∨ i = 4 ∨ i = 5 ∨ i = 6 ∨ i = 7 ∨ i = 8 ∨ i = 9 ∨ i = 10 ∨ i = 11 ∨ i = 12 ∨ i = 13 ∨ i = 14 ∨ i = 15 := by omega
  rcases hi with rfl | rfl | rfl | rfl | rfl | rfl | rfl | rfl | rfl | rfl | rfl | rfl | rfl | rfl | rfl | rfl
  all_goals simp only [List.getD_cons_succ, List.getD_cons_zero]
  all_goals first | omega | exact pct_lt (by omega)
theorem or_exp {v c : Nat} (hv : v < 18446744073709551616) (hc : c < 4096) : bits .or .u64 ((v / 4096 : Nat) : Int) ((4503599627370496 * c : Nat) : Int) = ((v / 4096 + 4503599627370496 * c : Nat) : Int) := by
  have e := or_sum (a := v / 4096) (b := c) 52 (by omega) (by omega)
  rw [Nat.add_comm] at e
  exact e
theorem number_any (v : Nat) (k : Int) (hv : v < 18446744073709551616) (h0 : -9223372036854775808 ≤ k) (h1 : k ≤ 9223372036854775807) (w : World) :
    Calls Try.prog 9 #[.int .u64 v, .int .i64 k] w fun e w' => e = .returned (.float .f64 (numF v k)) ∧ Since w w' := by
  have b1 := run_frombits (v : Int)
  have e1 : bits .or .u64 ((v : Int) / 4096) 4602678819172646912 = ((v / 4096 + 4602678819172646912 : Nat) : Int) := or_exp (c := 1022) hv (by decide)
  have e2 : bits .or .u64 ((v : Int) / 4096) 4580160821035794432 = ((v / 4096 + 4580160821035794432 : Nat) : Int) := or_exp (c := 1017) hv (by decide)
  have b2 := run_frombits ((v : Int) / 4096 + 4602678819172646912)
  have b3 := run_frombits ((v : Int) / 4096 + 4580160821035794432)
  have hop : ∀ t w, (binOp .quo t (.float .f64 (floatOfInt .f64 (((v / 2 % 101 : Nat)) : Int))) (.float .f64 4636737291354636288)).run Try.prog w = .ok (.float .f64 (pctF (v / 2 % 101))) w := fun t w => run_float_arith w .quo t .f64 _ _ _ (pct_is (by omega))
  have hm : ∀ w, Calls Try.prog 13 #[.int .i64 ((v : Int) / 2), .int .i64 101] w fun e w' => e = .returned (.int .i64 ((v / 2 % 101 : Nat) : Int)) ∧ w = w' := by
    intro w
    have := mod_any ((v : Int) / 2) 101 (by decide) (by decide) (by omega) (by omega) w
    rw [show (v : Int) / 2 % 101 = ((v / 2 % 101 : Nat) : Int) by omega] at this
    exact this
  obtain ⟨p, hp⟩ : ∃ p, p = v / 2 % 101 := ⟨_, rfl⟩
  rw [← hp] at hop hm
  have HP := Lib.hid hp
  clear hp
  rw [Int.toNat_natCast] at b1
  rw [show ((v : Int) / 4096 + 4602678819172646912).toNat = v / 4096 + 4602678819172646912 by omega] at b2
  rw [show ((v : Int) / 4096 + 4580160821035794432).toNat = v / 4096 + 4580160821035794432 by omega] at b3
  obtain ⟨z, hz⟩ : ∃ z, z = numF v k := ⟨_, rfl⟩
  rw [← hz]
  have HZ := Lib.hid hz
  clear hz
  go_enter Try.func9, Try.ntmps9
  go_wp2_with fail
  refine (nan_any _).mono ?_
  rintro e w' ⟨rfl, rfl⟩
  go_wp2_with fail
  refine (inf_up _).mono ?_
  rintro e w' ⟨rfl, rfl⟩
  go_wp2_with fail
  refine (inf_down _).mono ?_
  rintro e w' ⟨rfl, rfl⟩
  go_wp2_with fail
  refine (copysign_zero _).mono ?_
  rintro e w' ⟨rfl, rfl⟩
  go_wp2_with fail
  refine (hm _).mono ?_
  rintro e w' ⟨rfl, rfl⟩
  go_wp2_with fail
  refine (mod_any _ _ (by decide) (by decide) (by omega) (by omega) _).mono ?_
  rintro e w' ⟨rfl, rfl⟩
  have g0 := Int.emod_nonneg k (show (16 : Int) ≠ 0 by decide)
  have g1 := Int.emod_lt_of_pos k (show (0 : Int) < 16 by decide)
  have hz := HZ.out
  unfold numF numL at hz
  rw [← HP.out] at hz
  clear HZ HP hm hop b1 b2 b3 e1 e2
  generalize k % 16 = j at *
  obtain ⟨i, rfl⟩ := Int.eq_ofNat_of_zero_le g0
  rw [Int.toNat_natCast] at hz
  have hi : i = 0 ∨ i = 1 ∨ i = 2 ∨ i = 3 ∨ i = 4 ∨ i = 5 ∨ i = 6 ∨ i = 7 ∨ i = 8 ∨ i = 9 ∨ i = 10 ∨ i = 11 ∨ i = 12 ∨ i = 13 ∨ i = 14 ∨ i = 15 := by omega
  rcases hi with rfl | rfl | rfl | rfl | rfl | rfl | rfl | rfl | rfl | rfl | rfl | rfl | rfl | rfl | rfl | rfl
  all_goals (
    simp only [List.getD_cons_succ, List.getD_cons_zero] at hz
    subst hz
    go_wp2
    go_ret
    exact ⟨ret_f64 rfl, (Since.refl _).alloc _ _⟩)
end Go.Proofs.Ytpkikegjoncmaaa
