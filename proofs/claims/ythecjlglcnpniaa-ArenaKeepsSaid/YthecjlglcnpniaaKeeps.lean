/-
  The walk of ArenaKeeps.
-/
import Derived.Test.YthecjlglcnpniaaLaws
namespace Go.Proofs.Ythecjlglcnpniaa
open Go.RowKit
set_option linter.unusedVariables false

set_option maxRecDepth 100000 in
theorem walkKeeps (a0 : Option Addr) (len0 cap0 : Nat) (z0 : List Int) (a1 a2 a3 a4 a5 : Int) (w : World)
    (w0 : (a0 = none ∧ len0 = 0 ∧ cap0 = 0 ∧ z0 = []) ∨ ∃ x, a0 = some x ∧ len0 ≤ cap0 ∧ cap0 ≤ maxLen ∧ z0.length = cap0 ∧ (∀ i, i < z0.length → w.cell? (x.add i) = some (.int .u64 (z0.getD i 0))) ∧ ∀ n ∈ z0, (Lit.int .u64 n).wf = true)
    (w1 : (Lit.int .i64 a1).wf = true) (w2 : (Lit.int .i64 a2).wf = true) (w3 : (Lit.int .i64 a3).wf = true) (w4 : (Lit.int .i64 a4).wf = true) (w5 : (Lit.int .u64 a5).wf = true) :
    Calls Try.prog 5 #[.slice a0 len0 cap0, .int .i64 a1, .int .i64 a2, .int .i64 a3, .int .i64 a4, .int .u64 a5] w fun e w' => e = .returned (.bool true) ∧ Below w.heap.size w w' := by
  have hA := arr_in w0
  obtain ⟨f, hf⟩ : ∃ f : Nat → Int, f = fun j => z0.getD j 0 := ⟨_, rfl⟩
  rw [← hf] at hA
  obtain ⟨l1, u1⟩ := bounds_i64 w1
  obtain ⟨l2, u2⟩ := bounds_i64 w2
  obtain ⟨l3, u3⟩ := bounds_i64 w3
  obtain ⟨l4, u4⟩ := bounds_i64 w4
  clear w0 w1 w2 w3 w4 w5 hf
  have hle := hA.1
  have hmx := hA.2.1
  have HA := Lib.hid hA
  clear hA
  by_cases h0 : len0 = 0
  · subst h0
    go_enter Try.func5, Try.ntmps5
    go_wp2_with fail
    refine (awake_any _).mono ?_
    rintro e w6 ⟨rfl, b6⟩
    have B6 := Lib.hid b6
    clear b6
    go_wp2
    go_ret
    exact ⟨rfl, B6.out⟩
  · by_cases h1 : 600 < len0
    · have h2 : (600 : Int) < (len0 : Int) := by omega
      have h3 : ((len0 : Int) == 0) = false := by simp; omega
      go_enter Try.func5, Try.ntmps5
      go_wp2_with fail
      refine (awake_any _).mono ?_
      rintro e w6 ⟨rfl, b6⟩
      have B6 := Lib.hid b6
      clear b6
      go_wp2
      go_ret
      exact ⟨rfl, B6.out⟩
    · have n0 : 1 ≤ len0 := by omega
      have n1 : len0 ≤ 600 := by omega
      have h2 : ¬ (600 : Int) < (len0 : Int) := by omega
      have h3 : ((len0 : Int) == 0) = false := by simp; omega
      clear h0 h1
      go_enter Try.func5, Try.ntmps5
      go_wp2_with fail
      refine (refClone_any a0 len0 cap0 f _ HA.out (by omega)).mono ?_
      rintro e x1 ⟨A1, c1, rfl, ho, b1⟩
      have hA1 := ho.arr
      have HO := Lib.hid hA1
      have HB1 := Lib.hid b1
      have HA1 := Lib.hid (HA.out.next b1)
      clear ho b1 hA1
      go_wp2_with fail
      refine (mod_any _ _ (by omega) (by omega) l3 u3 _).mono ?_
      rintro e w' ⟨rfl, rfl⟩
      have i0 := Int.emod_nonneg a3 (show (len0 : Int) ≠ 0 by omega)
      have i1 := Int.emod_lt_of_pos a3 (show 0 < (len0 : Int) by omega)
      obtain ⟨k, hk⟩ : ∃ k : Nat, a3 % (len0 : Int) + 1 = k := ⟨(a3 % (len0 : Int) + 1).toNat, by omega⟩
      obtain ⟨m, hm⟩ : ∃ m, m = a3 % (len0 : Int) := ⟨_, rfl⟩
      rw [← hm] at hk i0 i1 ⊢
      have k0 : 1 ≤ k := by omega
      have k1 : k ≤ len0 := by omega
      have HK := Lib.hid hk
      clear hk hm
      go_wp2_with fail
      rw [HK.out]
      refine (mod_any _ _ (by omega) (by omega) l1 u1 _).mono ?_
      rintro e w' ⟨rfl, rfl⟩
      have j0 := Int.emod_nonneg a1 (show ((len0 : Int) - k + 1) ≠ 0 by omega)
      have j1 := Int.emod_lt_of_pos a1 (show 0 < ((len0 : Int) - k + 1) by omega)
      obtain ⟨p, hp⟩ : ∃ p : Nat, a1 % ((len0 : Int) - k + 1) = p := ⟨(a1 % ((len0 : Int) - k + 1)).toNat, by omega⟩
      rw [hp] at j0 j1 ⊢
      have HP := Lib.hid hp
      clear hp
      go_wp2_with fail
      refine (mod_any _ _ (by omega) (by omega) l2 u2 _).mono ?_
      rintro e w' ⟨rfl, rfl⟩
      have t0 := Int.emod_nonneg a2 (show ((len0 : Int) - k + 1) ≠ 0 by omega)
      have t1 := Int.emod_lt_of_pos a2 (show 0 < ((len0 : Int) - k + 1) by omega)
      obtain ⟨q, hq⟩ : ∃ q : Nat, a2 % ((len0 : Int) - k + 1) = q := ⟨(a2 % ((len0 : Int) - k + 1)).toNat, by omega⟩
      rw [hq] at t0 t1 ⊢
      have HQ := Lib.hid hq
      clear hq
      go_wp2_with fail
      refine (copy_any a0 len0 cap0 f p q k _ HA1.out (by omega) (by omega) (by omega) (by omega) (by omega)).mono ?_
      rintro e x2 ⟨A2, c2, rfl, h2', b2⟩
      have e0 : copyE len0 p q k = 0 := by unfold copyE; rw [if_neg (by omega), if_neg (by omega)]
      rw [copyN_ok e0, Int.toNat_natCast, Int.toNat_natCast, Int.toNat_natCast] at h2'
      rw [copyN_ok e0, e0]
      have HX2 := Lib.hid h2'
      have HB2 := Lib.hid (below_next HB1.out (Nat.le_refl _) b2)
      have HA2 := Lib.hid (HA1.out.next b2)
      have HO2 := Lib.hid (HO.out.next b2)
      clear e0 h2' b2 HA1 HO
      go_wp2_with fail
      refine (fill_any a0 len0 cap0 f q k a5 _ HA2.out (by omega) (by omega) (by omega)).mono ?_
      rintro e x3 ⟨A3, c3, rfl, h3', b3⟩
      have e0 : outE len0 q k = 0 := outE_ok (by omega) (by omega) (by omega)
      rw [fillN_ok e0, Int.toNat_natCast, Int.toNat_natCast] at h3'
      rw [fillN_ok e0, e0]
      have HY3 := Lib.hid h3'
      have HX3 := Lib.hid (HX2.out.next b3)
      have HB3 := Lib.hid (below_next HB2.out (Nat.le_refl _) b3)
      have HA3 := Lib.hid (HA2.out.next b3)
      have HO3 := Lib.hid (HO2.out.next b3)
      clear e0 h3' b3 HX2 HA2 HO2
      go_wp2_with fail
      refine (same_yes a0 A1 len0 cap0 c1 f f _ HA3.out HO3.out (by omega) (fun _ _ => rfl)).mono ?_
      rintro e x4 ⟨rfl, b4⟩
      have HY4 := Lib.hid (HY3.out.next b4)
      have HX4 := Lib.hid (HX3.out.next b4)
      have HB4 := Lib.hid (below_next HB3.out (Nat.le_refl _) b4)
      have HO4 := Lib.hid (HO3.out.next b4)
      clear b4 HY3 HX3 HA3 HO3
      go_wp2_with fail
      refine (mod_any _ _ (by omega) (by omega) l4 u4 _).mono ?_
      rintro e w' ⟨rfl, rfl⟩
      have v0 := Int.emod_nonneg a4 (show (len0 : Int) ≠ 0 by omega)
      have v1 := Int.emod_lt_of_pos a4 (show 0 < (len0 : Int) by omega)
      obtain ⟨i, hi⟩ : ∃ i : Nat, a4 % (len0 : Int) = i := ⟨(a4 % (len0 : Int)).toNat, by omega⟩
      rw [hi] at v0 v1 ⊢
      have HI := Lib.hid hi
      clear hi
      go_wp2_with fail
      refine (read_any A2 len0 c2 _ i _ HX4.out (by omega) (by omega)).mono ?_
      rintro e x5 ⟨rfl, b5⟩
      have e1 : readV len0 (copyF f p q k) i = copyF f p q k i := by unfold readV; rw [if_neg (by omega), Int.toNat_natCast]
      have e2 : readE len0 i = 0 := by unfold readE; rw [if_neg (by omega)]
      rw [e1, e2]
      have HY5 := Lib.hid (HY4.out.next b5)
      have HB5 := Lib.hid (below_next HB4.out (Nat.le_refl _) b5)
      have HO5 := Lib.hid (HO4.out.next b5)
      clear e1 e2 b5 HY4 HX4 HO4
      go_wp2_with fail
      refine (read_any A3 len0 c3 _ i _ HY5.out (by omega) (by omega)).mono ?_
      rintro e x6 ⟨rfl, b6⟩
      have e1 : readV len0 (putF f q k a5) i = putF f q k a5 i := by unfold readV; rw [if_neg (by omega), Int.toNat_natCast]
      have e2 : readE len0 i = 0 := by unfold readE; rw [if_neg (by omega)]
      rw [e1, e2]
      have HB6 := Lib.hid (below_next HB5.out (Nat.le_refl _) b6)
      have HO6 := Lib.hid (HO5.out.next b6)
      clear e1 e2 b6 HY5 HO5
      by_cases hin : q ≤ i ∧ i < q + k
      · have r1 : copyF f p q k i = f (p + (i - q)) := by unfold copyF; rw [if_pos hin]
        have r2 : putF f q k a5 i = a5 := by unfold putF; rw [if_pos hin]
        rw [r1, r2]
        obtain ⟨b, o, rfl, hbb, hcell⟩ := HO6.out.at_ (p + (i - q)) (by omega)
        have g1 : (q : Int) ≤ i := by omega
        have g2 : (i : Int) < (q : Int) + k := by omega
        have g3 : 0 ≤ (p : Int) + i - q ∧ (p : Int) + i - q < len0 := by omega
        have g4 : ((p : Int) + i - q).toNat = p + (i - q) := by omega
        clear r1 r2 hin
        go_wp2
        go_ret
        exact ⟨rfl, HB6.out⟩
      · have r1 : copyF f p q k i = f i := by unfold copyF; rw [if_neg hin]
        have r2 : putF f q k a5 i = f i := by unfold putF; rw [if_neg hin]
        rw [r1, r2]
        obtain ⟨b, o, rfl, hbb, hcell⟩ := HO6.out.at_ i (by omega)
        have g5 : 0 ≤ (i : Int) ∧ (i : Int) < len0 := by omega
        clear r1 r2
        by_cases g1 : (q : Int) ≤ i
        · have g2 : ¬ (i : Int) < (q : Int) + k := by omega
          clear hin
          go_wp2
          go_ret
          exact ⟨rfl, HB6.out⟩
        · have g2 : (i : Int) < q := by omega
          clear hin
          go_wp2
          go_ret
          exact ⟨rfl, HB6.out⟩
end Go.Proofs.Ythecjlglcnpniaa
