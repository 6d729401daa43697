/-
  The example of chapter 2; the walk of ArenaFresh.
-/
import Derived.Test.YthecjlglcnpniaaSame
namespace Go.Proofs.Ythecjlglcnpniaa
open Go.RowKit
set_option linter.unusedVariables false

theorem Arr.next {w w' : World} {A : Option Addr} {n c : Nat} {f : Nat → Int} (h : Arr w w.heap.size A n c f) (hb : Below w.heap.size w w') : Arr w' w'.heap.size A n c f := (h.below hb).more hb.size
theorem below_next {B : Nat} {w w1 w2 : World} (h : Below B w w1) (hB : B ≤ w.heap.size) (h2 : Below w1.heap.size w1 w2) : Below B w w2 := h.trans (h2.mono (Nat.le_trans hB h.size))

/-- A slice of words that came in. -/
theorem arr_in {w : World} {a : Option Addr} {len cap : Nat} {zs : List Int}
    (h : (a = none ∧ len = 0 ∧ cap = 0 ∧ zs = []) ∨ ∃ x, a = some x ∧ len ≤ cap ∧ cap ≤ maxLen ∧ zs.length = cap ∧ (∀ i, i < zs.length → w.cell? (x.add i) = some (.int .u64 (zs.getD i 0))) ∧ ∀ n ∈ zs, (Lit.int .u64 n).wf = true) :
    Arr w w.heap.size a len cap (fun j => zs.getD j 0) := by
  rcases h with ⟨rfl, rfl, rfl, rfl⟩ | ⟨x, rfl, hl, hm, hz, hc, _⟩
  · exact Arr.nil _ _ _
  · refine ⟨hl, hm, (fun e => by cases e), fun hn => ?_⟩
    obtain ⟨b, o, s⟩ := x
    have h0 := hc 0 (by omega)
    have hs : s = none := by simpa [Addr.add] using World.cell?_spot h0
    subst hs
    rw [add_at] at h0
    refine ⟨b, o, rfl, cell_lt h0, fun j hj => ?_⟩
    have h1 := hc j (by omega)
    rw [add_at] at h1
    exact h1

theorem awake_any (w : World) : Calls Try.prog 7 #[] w fun e w' => e = .returned (.bool true) ∧ Below w.heap.size w w' := by
  obtain ⟨W, hW⟩ : ∃ W, W = w.alloc (.cells #[.int .u64 1, .int .u64 2, .int .u64 3, .int .u64 4] 23) := ⟨_, rfl⟩
  have hb : Below w.heap.size w W := by rw [hW]; exact (Below.refl _ w).alloc (Nat.le_refl _) _
  have hA : Arr W W.heap.size (some ⟨w.heap.size, 0, none⟩) 4 4 (fun j => (j : Int) + 1) := by
    refine ⟨by decide, by simp only [maxLen]; omega, (fun e => by cases e), fun _ => ⟨_, _, rfl, by rw [hW]; simp, fun j hj => ?_⟩⟩
    rw [hW]
    rcases j with _ | _ | _ | _ | j
    · go_simp
    · go_simp
    · go_simp
    · go_simp
    · omega
  have HA := Lib.hid hA
  have HB := Lib.hid hb
  have HW := Lib.hid hW
  clear hA hb hW
  go_enter Try.func7, Try.ntmps7
  go_wp2_with fail
  rw [← HW.out]
  refine (copy_any _ 4 4 _ 0 1 3 _ HA.out (by decide) (by decide) (by decide) (by decide) (by decide)).mono ?_
  rintro e w1 ⟨A1, c1, rfl, hA1, hb1⟩
  rw [show copyN 4 0 1 3 = 4 from by decide] at hA1
  rw [show copyN 4 0 1 3 = 4 from by decide, show copyE 4 0 1 3 = 0 from by decide]
  obtain ⟨b, o, rfl, hbb, c0⟩ := hA1.at_ 0 (by decide)
  obtain ⟨_, _, e1, _, k1⟩ := hA1.at_ 1 (by decide)
  obtain ⟨_, _, e2, _, k2⟩ := hA1.at_ 2 (by decide)
  obtain ⟨_, _, e3, _, k3⟩ := hA1.at_ 3 (by decide)
  injection e1 with e1
  injection e1 with p1 q1
  injection e2 with e2
  injection e2 with p2 q2
  injection e3 with e3
  injection e3 with p3 q3
  rw [← p1, ← q1] at k1
  rw [← p2, ← q2] at k2
  rw [← p3, ← q3] at k3
  have v0 : w1.cell? ⟨b, o, none⟩ = some (.int .u64 1) := c0
  have v1 : w1.cell? ⟨b, o + 1, none⟩ = some (.int .u64 1) := k1
  have v2 : w1.cell? ⟨b, o + 2, none⟩ = some (.int .u64 2) := k2
  have v3 : w1.cell? ⟨b, o + 3, none⟩ = some (.int .u64 3) := k3
  have HB2 := Lib.hid (below_next HB.out (Nat.le_refl _) hb1)
  clear hA1 c0 k1 k2 k3 p1 q1 p2 q2 p3 q3 hb1
  go_wp2
  go_ret
  exact ⟨rfl, HB2.out⟩

theorem bounds_i64 {a : Int} (h : (Lit.int .i64 a).wf = true) : -9223372036854775808 ≤ a ∧ a ≤ 9223372036854775807 := by
  have hmin : IntKind.i64.min = -9223372036854775808 := rfl
  have hmax : IntKind.i64.max = 9223372036854775807 := rfl
  simp only [Lit.wf, Bool.and_eq_true, decide_eq_true_eq, hmin, hmax] at h
  exact h

theorem fresh_end {k : Nat} (v : Int) (i : Nat) (hi : i < 2 * k) : copyF (putF (fun _ => 0) 0 k v) 0 k k i = v := by
  unfold copyF putF
  by_cases h : k ≤ i ∧ i < k + k
  · rw [if_pos h, if_pos (by omega)]
  · rw [if_neg h, if_pos (by omega)]

theorem walkFresh (a0 a1 a2 : Int) (w : World) (w0 : (Lit.int .i64 a0).wf = true) (w1 : (Lit.int .u64 a1).wf = true) (w2 : (Lit.int .i64 a2).wf = true) :
    Calls Try.prog 6 #[.int .i64 a0, .int .u64 a1, .int .i64 a2] w fun e w' => e = .returned (.bool true) ∧ Below w.heap.size w w' := by
  obtain ⟨l0, u0⟩ := bounds_i64 w0
  obtain ⟨l2, u2⟩ := bounds_i64 w2
  clear w0 w1 w2
  go_enter Try.func6, Try.ntmps6
  go_wp2_with fail
  refine (mod_any _ _ (by omega) (by omega) l0 u0 _).mono ?_
  rintro e w' ⟨rfl, rfl⟩
  obtain ⟨k, hk⟩ : ∃ k : Nat, 1 + a0 % 300 = k := ⟨(1 + a0 % 300).toNat, by omega⟩
  have k0 : 1 ≤ k := by omega
  have k1 : k ≤ 300 := by omega
  obtain ⟨m, hm⟩ : ∃ m, m = a0 % 300 := ⟨_, rfl⟩
  rw [← hm] at hk ⊢
  have m0 : 0 ≤ m := by omega
  have m1 : m < 300 := by omega
  have HK := Lib.hid hk
  clear hk hm
  go_wp2_with fail
  rw [HK.out]
  refine (make_any (2 * k) _).mono ?_
  rintro e w1 ⟨A1, c1, rfl, h1, b1⟩
  have e1 : makeN (2 * (k : Int)) = 2 * k := by unfold makeN; rw [if_neg (by omega)]; omega
  have e2 : makeE (2 * (k : Int)) = 0 := by unfold makeE; rw [if_neg (by omega)]
  rw [e1] at h1
  rw [e1, e2]
  have H1 := Lib.hid h1
  have B1 := Lib.hid b1
  clear h1 b1 e1 e2
  go_wp2_with fail
  refine (mod_any _ _ (by omega) (by omega) l2 u2 _).mono ?_
  rintro e w' ⟨rfl, rfl⟩
  have i0 := Int.emod_nonneg a2 (show (2 * (k : Int)) ≠ 0 by omega)
  have i1 := Int.emod_lt_of_pos a2 (show 0 < 2 * (k : Int) by omega)
  obtain ⟨i, hi⟩ : ∃ i, i = a2 % (2 * (k : Int)) := ⟨_, rfl⟩
  rw [← hi] at i0 i1 ⊢
  have HI := Lib.hid hi
  clear hi
  go_wp2_with fail
  refine (read_any A1 (2 * k) c1 _ i _ H1.out (by omega) (by omega)).mono ?_
  rintro e w2 ⟨rfl, b2⟩
  have e1 : readV (2 * k) (fun _ => 0) i = 0 := by unfold readV; split <;> rfl
  have e2 : readE (2 * k) i = 0 := by unfold readE; rw [if_neg (by omega)]
  rw [e1, e2]
  have H2 := Lib.hid (H1.out.next b2)
  have B2 := Lib.hid (below_next B1.out (Nat.le_refl _) b2)
  clear e1 e2 b2
  go_wp2_with fail
  refine (fill_any A1 (2 * k) c1 _ 0 k a1 _ H2.out (by omega) (by omega) (by omega)).mono ?_
  rintro e w3 ⟨A3, c3, rfl, h3, b3⟩
  have e0 : outE (2 * k) 0 k = 0 := outE_ok (by omega) (by omega) (by omega)
  rw [fillN_ok e0, show (0 : Int).toNat = 0 from rfl, Int.toNat_natCast] at h3
  rw [fillN_ok e0, e0]
  have H3 := Lib.hid h3
  have B3 := Lib.hid (below_next B2.out (Nat.le_refl _) b3)
  clear e0 h3 b3
  go_wp2_with fail
  refine (copy_any A3 (2 * k) c3 _ 0 k k _ H3.out (by omega) (by omega) (by omega) (by omega) (by omega)).mono ?_
  rintro e w4 ⟨A4, c4, rfl, h4, b4⟩
  have e0 : copyE (2 * k) 0 k k = 0 := by unfold copyE; rw [if_neg (by omega), if_neg (by omega)]
  rw [copyN_ok e0, show (0 : Int).toNat = 0 from rfl, Int.toNat_natCast] at h4
  rw [copyN_ok e0, e0]
  have H4 := Lib.hid h4
  have B4 := Lib.hid (below_next B3.out (Nat.le_refl _) b4)
  clear e0 h4 b4
  go_wp2_with fail
  refine (mod_any _ _ (by omega) (by omega) l2 u2 _).mono ?_
  rintro e w' ⟨rfl, rfl⟩
  rw [← HI.out]
  go_wp2_with fail
  refine (read_any A4 (2 * k) c4 _ i _ H4.out (by omega) (by omega)).mono ?_
  rintro e w5 ⟨rfl, b5⟩
  have e1 : readV (2 * k) (copyF (putF (fun _ => 0) 0 k a1) 0 k k) i = a1 := by unfold readV; rw [if_neg (by omega)]; exact fresh_end a1 _ (by omega)
  have e2 : readE (2 * k) i = 0 := by unfold readE; rw [if_neg (by omega)]
  rw [e1, e2]
  have B5 := Lib.hid (below_next B4.out (Nat.le_refl _) b5)
  clear e1 e2 b5
  go_wp2_with fail
  refine (awake_any _).mono ?_
  rintro e w6 ⟨rfl, b6⟩
  have B6 := Lib.hid (below_next B5.out (Nat.le_refl _) b6)
  clear b6
  go_wp2
  go_ret
  exact ⟨rfl, B6.out⟩
end Go.Proofs.Ythecjlglcnpniaa
