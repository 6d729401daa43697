/-
  The walk of ArenaWords.
-/
import Derived.Test.YthecjlglcnpniaaLaws
namespace Go.Proofs.Ythecjlglcnpniaa
open Go.RowKit
set_option linter.unusedVariables false

def firstK (n : Int) (m3 m50 : Int) : Nat → Int := fun j => if j = 0 then n else if j = 1 then m50 else 16385 + m3
def secondK (a m : Int) : Nat → Int := fun j => if j = 0 then a else m - 1

set_option maxRecDepth 100000 in
theorem walkWords (a0 : Option Addr) (len0 cap0 : Nat) (z0 : List Int) (a1 a2 a3 : Int) (w : World)
    (w0 : (a0 = none ∧ len0 = 0 ∧ cap0 = 0 ∧ z0 = []) ∨ ∃ x, a0 = some x ∧ len0 ≤ cap0 ∧ cap0 ≤ maxLen ∧ z0.length = cap0 ∧ (∀ i, i < z0.length → w.cell? (x.add i) = some (.int .u64 (z0.getD i 0))) ∧ ∀ n ∈ z0, (Lit.int .u64 n).wf = true)
    (w1 : (Lit.int .i64 a1).wf = true) (w2 : (Lit.int .i64 a2).wf = true) (w3 : (Lit.int .u64 a3).wf = true) :
    Calls Try.prog 3 #[.slice a0 len0 cap0, .int .i64 a1, .int .i64 a2, .int .u64 a3] w fun e w' => e = .returned (.bool true) ∧ Below w.heap.size w w' := by
  have hA := arr_in w0
  obtain ⟨f, hf⟩ : ∃ f : Nat → Int, f = fun j => z0.getD j 0 := ⟨_, rfl⟩
  rw [← hf] at hA
  obtain ⟨l1, u1⟩ := bounds_i64 w1
  obtain ⟨l2, u2⟩ := bounds_i64 w2
  clear w0 w1 w2 w3 hf
  have hle := hA.1
  have hmx := hA.2.1
  have HA := Lib.hid hA
  clear hA
  by_cases h1 : 600 < len0
  · have h2 : (600 : Int) < (len0 : Int) := by omega
    go_enter Try.func3, Try.ntmps3
    go_wp2_with fail
    refine (awake_any _).mono ?_
    rintro e w6 ⟨rfl, b6⟩
    have B6 := Lib.hid b6
    clear b6
    go_wp2
    go_ret
    exact ⟨rfl, B6.out⟩
  · have n1 : len0 ≤ 600 := by omega
    have h2 : ¬ (600 : Int) < (len0 : Int) := by omega
    clear h1
    go_enter Try.func3, Try.ntmps3
    go_wp2_with fail
    refine (mod_any _ _ (by omega) (by omega) l1 u1 _).mono ?_
    rintro e w' ⟨rfl, rfl⟩
    obtain ⟨m50, h50⟩ : ∃ m, m = a1 % 50 := ⟨_, rfl⟩
    have q0 : 0 ≤ m50 ∧ m50 < 50 := by omega
    rw [← h50]
    clear h50
    go_wp2_with fail
    refine (mod_any _ _ (by omega) (by omega) l1 u1 _).mono ?_
    rintro e w' ⟨rfl, rfl⟩
    obtain ⟨m3, h3⟩ : ∃ m, m = a1 % 3 := ⟨_, rfl⟩
    have q1 : 0 ≤ m3 ∧ m3 < 3 := by omega
    rw [← h3]
    clear h3
    obtain ⟨q00, q01⟩ := q0
    obtain ⟨q10, q11⟩ := q1
    go_wp2_with fail
    obtain ⟨W, hW⟩ : ∃ W, W = w.alloc (.cells #[.int .i64 a1, .int .i64 m50, .int .i64 (16385 + m3)] 3) := ⟨_, rfl⟩
    rw [← hW]
    have hb : Below w.heap.size w W := by rw [hW]; exact (Below.refl _ w).alloc (Nat.le_refl _) _
    have hcell : ∀ j, j < 3 → W.cell? ⟨w.heap.size, j, none⟩ = some (.int .i64 (firstK a1 m3 m50 j)) := by
      intro j hj
      rw [hW]
      rcases j with _ | _ | _ | j
      · go_simp; rfl
      · go_simp; rfl
      · go_simp; rfl
      · omega
    have hkb : ∀ j, -9223372036854775808 ≤ firstK a1 m3 m50 j ∧ firstK a1 m3 m50 j ≤ 9223372036854775807 := by
      intro j
      unfold firstK
      split
      · omega
      · split <;> omega
    have hz : w.heap.size < W.heap.size := by rw [hW]; simp
    have HB := Lib.hid hb
    have HC := Lib.hid hcell
    have HKB := Lib.hid hkb
    clear hW hb hcell hkb
    go_loopw [37] (fun i wr => ∃ t : Nat, t ≤ 3 ∧ i = .int .i64 t ∧ Below W.heap.size W wr) (fun i _ => 3 - (intOf i).toNat)
    case atStart => exact ⟨0, Nat.zero_le _, rfl, Below.refl _ _⟩
    case round =>
      obtain ⟨t, ht, rfl, hbel⟩ := hrel
      by_cases hlt : t < 3
      · have hc : wr.cell? ⟨w.heap.size, t, none⟩ = some (.int .i64 (firstK a1 m3 m50 t)) := (hbel.cell (p := ⟨w.heap.size, t, none⟩) hz).trans (HC.out t hlt)
        have hkb := HKB.out t
        generalize firstK a1 m3 m50 t = k at hc hkb
        have hlt2 : (t : Int) < 3 := by omega
        have hx : 0 ≤ (t : Int) ∧ (t : Int) < 3 := by omega
        have HBEL := Lib.hid hbel
        clear hbel
        go_wp2_with fail
        refine (make_any k _).mono ?_
        rintro e y1 ⟨A1, c1, rfl, h1, b1⟩
        have H1 := Lib.hid h1
        have B1 := Lib.hid (below_next HBEL.out (Nat.le_refl _) b1)
        clear h1 b1
        go_wp2_with fail
        refine (refMake_any k _).mono ?_
        rintro e y2 ⟨A2, c2, rfl, h2', b2⟩
        have H2 := Lib.hid h2'
        have H12 := Lib.hid (H1.out.next b2)
        have B2 := Lib.hid (below_next B1.out (Nat.le_refl _) b2)
        have hmk : makeN k ≤ 1048576 := by unfold makeN; split <;> omega
        clear h2' b2 H1
        go_wp2_with fail
        refine (same_yes A1 A2 _ c1 c2 _ _ _ H12.out H2.out hmk (fun _ _ => rfl)).mono ?_
        rintro e y3 ⟨rfl, b3⟩
        have B3 := Lib.hid (below_next B2.out (Nat.le_refl _) b3)
        clear b3 hmk
        go_wp2
        go_roundw
        case rel => exact ⟨t + 1, by omega, by go_num, B3.out⟩
        case measure => simp [intOf]; omega
      · have hlt2 : ¬ (t : Int) < 3 := by omega
        obtain ⟨U, hU⟩ : ∃ U, U = wr := ⟨_, rfl⟩
        subst hU
        have HBEL := Lib.hid (below_next HB.out (Nat.le_refl _) (hbel.mono (Nat.le_refl _)))
        clear hbel hz HB HC HKB ht hlt
        go_wp2_with fail
        refine (mod_any _ _ (by omega) (by omega) l2 u2 _).mono ?_
        rintro e w' ⟨rfl, rfl⟩
        have t0 := Int.emod_nonneg a2 (show ((len0 : Int) + 3) ≠ 0 by omega)
        have t1 := Int.emod_lt_of_pos a2 (show 0 < ((len0 : Int) + 3) by omega)
        obtain ⟨m, hm⟩ : ∃ m, m = a2 % ((len0 : Int) + 3) := ⟨_, rfl⟩
        rw [← hm] at t0 t1 ⊢
        clear hm
        go_wp2_with fail
        obtain ⟨V, hV⟩ : ∃ V, V = U.alloc (.cells #[.int .i64 a2, .int .i64 (m - 1)] 3) := ⟨_, rfl⟩
        rw [← hV]
        have hb : Below U.heap.size U V := by rw [hV]; exact (Below.refl _ U).alloc (Nat.le_refl _) _
        have hcell : ∀ j, j < 2 → V.cell? ⟨U.heap.size, j, none⟩ = some (.int .i64 (secondK a2 m j)) := by
          intro j hj
          rw [hV]
          rcases j with _ | _ | j
          · go_simp; rfl
          · go_simp; rfl
          · omega
        have hkb : ∀ j, -9223372036854775808 ≤ secondK a2 m j ∧ secondK a2 m j ≤ 9223372036854775807 := by
          intro j
          unfold secondK
          split <;> omega
        have hz : U.heap.size < V.heap.size := by rw [hV]; simp
        have HB := Lib.hid (below_next HBEL.out (Nat.le_refl _) hb)
        have HC := Lib.hid hcell
        have HKB := Lib.hid hkb
        clear hV hb hcell hkb
        go_loopw [70] (fun i vr => ∃ t : Nat, t ≤ 2 ∧ i = .int .i64 t ∧ Below V.heap.size V vr) (fun i _ => 2 - (intOf i).toNat)
        case atStart => exact ⟨0, Nat.zero_le _, rfl, Below.refl _ _⟩
        case round =>
          obtain ⟨s, hs, rfl, hbel⟩ := hrel
          by_cases hlt : s < 2
          · have hc : wr.cell? ⟨U.heap.size, s, none⟩ = some (.int .i64 (secondK a2 m s)) := (hbel.cell (p := ⟨U.heap.size, s, none⟩) hz).trans (HC.out s hlt)
            obtain ⟨kl, kh⟩ := HKB.out s
            generalize secondK a2 m s = k at hc kl kh
            have hlt2 : (s : Int) < 2 := by omega
            have hx : 0 ≤ (s : Int) ∧ (s : Int) < 2 := by omega
            have HBEL2 := Lib.hid hbel
            have H0 := Lib.hid (((HA.out.below HB.out).more HB.out.size).next hbel)
            clear hbel
            go_wp2_with fail
            refine (read_any a0 len0 cap0 f k _ H0.out kl kh).mono ?_
            rintro e y1 ⟨rfl, b1⟩
            have H1 := Lib.hid (H0.out.next b1)
            have B1 := Lib.hid (below_next HBEL2.out (Nat.le_refl _) b1)
            clear b1 H0
            go_wp2_with fail
            refine (refRead_any a0 len0 cap0 f k _ H1.out).mono ?_
            rintro e y2 ⟨rfl, b2⟩
            have H2 := Lib.hid (H1.out.next b2)
            have B2 := Lib.hid (below_next B1.out (Nat.le_refl _) b2)
            clear b2 H1
            go_wp2_with fail
            refine (write_any a0 len0 cap0 f k a3 _ H2.out (by omega) kl kh).mono ?_
            rintro e y3 ⟨A3, c3, rfl, h3, b3⟩
            have H3 := Lib.hid (H2.out.next b3)
            have P3 := Lib.hid h3
            have B3 := Lib.hid (below_next B2.out (Nat.le_refl _) b3)
            clear b3 h3 H2
            go_wp2_with fail
            refine (refWrite_any a0 len0 cap0 f k a3 _ H3.out (by omega) kl kh).mono ?_
            rintro e y4 ⟨A4, c4, rfl, h4, b4⟩
            have P4 := Lib.hid (P3.out.next b4)
            have Q4 := Lib.hid h4
            have B4 := Lib.hid (below_next B3.out (Nat.le_refl _) b4)
            have hfn : fillN len0 k 1 ≤ 1048576 := by unfold fillN; split <;> omega
            clear b4 h4 H3 P3
            go_wp2_with fail
            refine (same_yes A3 A4 _ c3 c4 _ _ _ P4.out Q4.out hfn (fun _ _ => rfl)).mono ?_
            rintro e y5 ⟨rfl, b5⟩
            have B5 := Lib.hid (below_next B4.out (Nat.le_refl _) b5)
            clear b5 hfn
            go_wp2
            go_roundw
            case rel => exact ⟨s + 1, by omega, by go_num, B5.out⟩
            case measure => simp [intOf]; omega
          · have hlt2 : ¬ (s : Int) < 2 := by omega
            have HBEL2 := Lib.hid (below_next HB.out (Nat.le_refl _) hbel)
            clear hbel
            go_wp2_with fail
            refine (awake_any _).mono ?_
            rintro e w6 ⟨rfl, b6⟩
            have B6 := Lib.hid (below_next HBEL2.out (Nat.le_refl _) b6)
            clear b6
            go_wp2
            go_ret
            exact ⟨rfl, B6.out⟩
end Go.Proofs.Ythecjlglcnpniaa
