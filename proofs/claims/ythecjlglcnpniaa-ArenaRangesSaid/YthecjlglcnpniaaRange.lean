/-
  The walk of ArenaRanges.
-/
import Derived.Test.YthecjlglcnpniaaLaws
import Derived.Deep.RegionHeld3
namespace Go.Proofs.Ythecjlglcnpniaa
open Go.RowKit
set_option linter.unusedVariables false

/-- The three triples of numbers: as they came in; from -1 on; halves. -/
def tripleK (a b c x y z : Int) : Nat → Nat → Int := fun j i =>
  if j = 0 then (if i = 0 then a else if i = 1 then b else c)
  else if j = 1 then (if i = 0 then x - 1 else if i = 1 then y - 1 else z - 1)
  else (if i = 0 then x / 2 else if i = 1 then y / 2 else z / 2)

set_option maxRecDepth 100000 in
set_option maxHeartbeats 3200000 in
theorem walkRanges (a0 : Option Addr) (len0 cap0 : Nat) (z0 : List Int) (a1 a2 a3 a4 : Int) (w : World)
    (w0 : (a0 = none ∧ len0 = 0 ∧ cap0 = 0 ∧ z0 = []) ∨ ∃ x, a0 = some x ∧ len0 ≤ cap0 ∧ cap0 ≤ maxLen ∧ z0.length = cap0 ∧ (∀ i, i < z0.length → w.cell? (x.add i) = some (.int .u64 (z0.getD i 0))) ∧ ∀ n ∈ z0, (Lit.int .u64 n).wf = true)
    (w1 : (Lit.int .i64 a1).wf = true) (w2 : (Lit.int .i64 a2).wf = true) (w3 : (Lit.int .i64 a3).wf = true) (w4 : (Lit.int .u64 a4).wf = true) :
    Calls Try.prog 4 #[.slice a0 len0 cap0, .int .i64 a1, .int .i64 a2, .int .i64 a3, .int .u64 a4] w fun e w' => e = .returned (.bool true) ∧ Below w.heap.size w w' := by
  have hA := arr_in w0
  obtain ⟨f, hf⟩ : ∃ f : Nat → Int, f = fun j => z0.getD j 0 := ⟨_, rfl⟩
  rw [← hf] at hA
  obtain ⟨l1, u1⟩ := bounds_i64 w1
  obtain ⟨l2, u2⟩ := bounds_i64 w2
  obtain ⟨l3, u3⟩ := bounds_i64 w3
  clear w0 w1 w2 w3 w4 hf
  have hle := hA.1
  have hmx := hA.2.1
  have HA := Lib.hid hA
  clear hA
  by_cases h1 : 600 < len0
  · have h2 : (600 : Int) < (len0 : Int) := by omega
    go_enter Try.func4, Try.ntmps4
    go_wp2_with fail
    refine (awake_any _).mono ?_
    rintro e w6 ⟨rfl, b6⟩
    have B6 := Lib.hid b6
    clear b6
    go_wp2
    go_ret
    exact ⟨rfl, B6.out⟩
  · have n1 : len0 ≤ 600 := by omega
    have h2 : ¬ (600 : Int) < (len0 : Int) := by omega
    clear h1
    have x0 := Int.emod_nonneg a1 (show ((len0 : Int) + 3) ≠ 0 by omega)
    have x1 := Int.emod_lt_of_pos a1 (show 0 < ((len0 : Int) + 3) by omega)
    have y0 := Int.emod_nonneg a2 (show ((len0 : Int) + 3) ≠ 0 by omega)
    have y1 := Int.emod_lt_of_pos a2 (show 0 < ((len0 : Int) + 3) by omega)
    have z0' := Int.emod_nonneg a3 (show ((len0 : Int) + 3) ≠ 0 by omega)
    have z1 := Int.emod_lt_of_pos a3 (show 0 < ((len0 : Int) + 3) by omega)
    obtain ⟨x, hx⟩ : ∃ x, x = a1 % ((len0 : Int) + 3) := ⟨_, rfl⟩
    obtain ⟨y, hy⟩ : ∃ y, y = a2 % ((len0 : Int) + 3) := ⟨_, rfl⟩
    obtain ⟨z, hz⟩ : ∃ z, z = a3 % ((len0 : Int) + 3) := ⟨_, rfl⟩
    rw [← hx] at x0 x1
    rw [← hy] at y0 y1
    rw [← hz] at z0' z1
    have HX := Lib.hid hx
    have HY := Lib.hid hy
    have HZ := Lib.hid hz
    clear hx hy hz
    go_enter Try.func4, Try.ntmps4
    go_wp2_with fail
    refine (mod_any _ _ (by omega) (by omega) l1 u1 _).mono ?_
    rintro e w' ⟨rfl, rfl⟩
    rw [← HX.out]
    go_wp2_with fail
    refine (mod_any _ _ (by omega) (by omega) l2 u2 _).mono ?_
    rintro e w' ⟨rfl, rfl⟩
    rw [← HY.out]
    go_wp2_with fail
    refine (mod_any _ _ (by omega) (by omega) l3 u3 _).mono ?_
    rintro e w' ⟨rfl, rfl⟩
    rw [← HZ.out]
    go_wp2_with fail
    refine (mod_any _ _ (by omega) (by omega) l1 u1 _).mono ?_
    rintro e w' ⟨rfl, rfl⟩
    rw [← HX.out]
    go_wp2_with fail
    refine (mod_any _ _ (by omega) (by omega) l2 u2 _).mono ?_
    rintro e w' ⟨rfl, rfl⟩
    rw [← HY.out]
    go_wp2_with fail
    refine (mod_any _ _ (by omega) (by omega) l3 u3 _).mono ?_
    rintro e w' ⟨rfl, rfl⟩
    rw [← HZ.out]
    go_wp2_with fail
    obtain ⟨W, hW⟩ : ∃ W, W = (((w.alloc (.cells #[.int .i64 a1, .int .i64 a2, .int .i64 a3] 3)).alloc (.cells #[.int .i64 (x - 1), .int .i64 (y - 1), .int .i64 (z - 1)] 3)).alloc (.cells #[.int .i64 (x / 2), .int .i64 (y / 2), .int .i64 (z / 2)] 3)).alloc
        (.cells #[.slice (some ⟨w.heap.size, 0, none⟩) 3 3, .slice (some ⟨w.heap.size + 1, 0, none⟩) 3 3, .slice (some ⟨w.heap.size + 1 + 1, 0, none⟩) 3 3] 26) := ⟨_, rfl⟩
    rw [← hW]
    have hb : Below w.heap.size w W := by rw [hW]; exact ((((Below.refl _ w).alloc (Nat.le_refl _) _).alloc (by simp) _).alloc (by simp; omega) _).alloc (by simp; omega) _
    have hsz : w.heap.size + 4 ≤ W.heap.size := by rw [hW]; simp
    have hout : ∀ j, j < 3 → W.cell? ⟨w.heap.size + 1 + 1 + 1, j, none⟩ = some (.slice (some ⟨w.heap.size + j, 0, none⟩) 3 3) := by
      intro j hj
      rw [hW]
      rcases j with _ | _ | _ | j
      · go_simp
      · go_simp
      · go_simp
      · omega
    have hin : ∀ j i, j < 3 → i < 3 → W.cell? ⟨w.heap.size + j, i, none⟩ = some (.int .i64 (tripleK a1 a2 a3 x y z j i)) := by
      intro j i hj hi
      rw [hW]
      rcases j with _ | _ | _ | j
      · rcases i with _ | _ | _ | i
        · go_simp; rfl
        · go_simp; rfl
        · go_simp; rfl
        · omega
      · rcases i with _ | _ | _ | i
        · go_simp; rfl
        · go_simp; rfl
        · go_simp; rfl
        · omega
      · rcases i with _ | _ | _ | i
        · go_simp; rfl
        · go_simp; rfl
        · go_simp; rfl
        · omega
      · omega
    have hkb : ∀ j i, -9223372036854775808 ≤ tripleK a1 a2 a3 x y z j i ∧ tripleK a1 a2 a3 x y z j i ≤ 9223372036854775807 := by
      intro j i
      unfold tripleK
      split
      · split
        · omega
        · split <;> omega
      · split
        · split
          · omega
          · split <;> omega
        · split
          · omega
          · split <;> omega
    have HB := Lib.hid hb
    have HO := Lib.hid hout
    have HI := Lib.hid hin
    have HKB := Lib.hid hkb
    clear hW hb hout hin hkb
    go_loopw [61] (fun i wr => ∃ t : Nat, t ≤ 3 ∧ i = .int .i64 t ∧ Below W.heap.size W wr) (fun i _ => 3 - (intOf i).toNat)
    case atStart => exact ⟨0, Nat.zero_le _, rfl, Below.refl _ _⟩
    case round =>
      obtain ⟨t, ht, rfl, hbel⟩ := hrel
      by_cases hlt : t < 3
      · have hc : wr.cell? ⟨w.heap.size + 1 + 1 + 1, t, none⟩ = some (.slice (some ⟨w.heap.size + t, 0, none⟩) 3 3) := (hbel.cell (p := ⟨w.heap.size + 1 + 1 + 1, t, none⟩) (by show w.heap.size + 1 + 1 + 1 < _; omega)).trans (HO.out t hlt)
        have k0 := HI.out t 0 hlt (by omega)
        have k1 := HI.out t 1 hlt (by omega)
        have k2 := HI.out t 2 hlt (by omega)
        obtain ⟨p0, p1⟩ := HKB.out t 0
        obtain ⟨q0, q1⟩ := HKB.out t 1
        obtain ⟨r0, r1⟩ := HKB.out t 2
        generalize tripleK a1 a2 a3 x y z t 0 = p at k0 p0 p1
        generalize tripleK a1 a2 a3 x y z t 1 = q at k1 q0 q1
        generalize tripleK a1 a2 a3 x y z t 2 = r at k2 r0 r1
        obtain ⟨g, hg⟩ : ∃ g, g = w.heap.size + t := ⟨_, rfl⟩
        rw [← hg] at hc k0 k1 k2
        have hgW : g < W.heap.size := by omega
        have hlt2 : (t : Int) < 3 := by omega
        have hx : 0 ≤ (t : Int) ∧ (t : Int) < 3 := by omega
        have K0 := Lib.hid k0
        have K1 := Lib.hid k1
        have K2 := Lib.hid k2
        have BR0 := Lib.hid hbel
        have H0 := Lib.hid (((HA.out.below HB.out).more HB.out.size).next hbel)
        have D0n0 : wr.cell? ⟨g, 0, none⟩ = some (.int .i64 p) := (BR0.out.cell (p := ⟨g, 0, none⟩) hgW).trans K0.out
        have D1n0 : wr.cell? ⟨g, 1, none⟩ = some (.int .i64 q) := (BR0.out.cell (p := ⟨g, 1, none⟩) hgW).trans K1.out
        have D2n0 : wr.cell? ⟨g, 2, none⟩ = some (.int .i64 r) := (BR0.out.cell (p := ⟨g, 2, none⟩) hgW).trans K2.out
        clear hbel k0 k1 k2 hg
        go_wp2_with fail
        have g1 : g < wr.heap.size := by have := BR0.out.size; omega
        have F1 := Lib.hid (show Arr wr.drew wr.drew.heap.size a0 len0 cap0 f from H0.out)
        go_region_held3 (fun w' => w'.cell? ⟨g, 0, none⟩ = some (.int .i64 p) ∧ w'.cell? ⟨g, 1, none⟩ = some (.int .i64 q) ∧ w'.cell? ⟨g, 2, none⟩ = some (.int .i64 r))
          (first | exact ⟨D0n0, D1n0, D2n0⟩ | exact ⟨(b1.cell (p := ⟨g, 0, none⟩) g1).trans D0n0, (b1.cell (p := ⟨g, 1, none⟩) g1).trans D1n0, (b1.cell (p := ⟨g, 2, none⟩) g1).trans D2n0⟩)
          (first | (go_at_call 16; refine (copy_any a0 len0 cap0 f p q r wr.drew F1.out (by omega) p0 p1 q0 q1).mono ?_; rintro e v1 ⟨A1, c1, rfl, h1', b1⟩))
        have D0n1 := (b1.cell (p := ⟨g, 0, none⟩) g1).trans D0n0
        have D1n1 := (b1.cell (p := ⟨g, 1, none⟩) g1).trans D1n0
        have D2n1 := (b1.cell (p := ⟨g, 2, none⟩) g1).trans D2n0
        have BR1 := Lib.hid (below_next BR0.out.drew (Nat.le_refl _) b1)
        have H1 := Lib.hid (F1.out.next b1)
        have R1x1 := Lib.hid h1'
        clear D0n0 D1n0 D2n0 h1' b1 F1 H0 BR0 
        go_wp2_with fail
        have g2 : g < v1.heap.size := by have := BR1.out.size; omega
        have F2 := Lib.hid (show Arr v1.drew v1.drew.heap.size a0 len0 cap0 f from H1.out)
        go_region_held3 (fun w' => w'.cell? ⟨g, 0, none⟩ = some (.int .i64 p) ∧ w'.cell? ⟨g, 1, none⟩ = some (.int .i64 q) ∧ w'.cell? ⟨g, 2, none⟩ = some (.int .i64 r))
          (first | exact ⟨D0n1, D1n1, D2n1⟩ | exact ⟨(b2.cell (p := ⟨g, 0, none⟩) g2).trans D0n1, (b2.cell (p := ⟨g, 1, none⟩) g2).trans D1n1, (b2.cell (p := ⟨g, 2, none⟩) g2).trans D2n1⟩)
          (first | (go_at_call 17; refine (refCopy_any a0 len0 cap0 f p q r v1.drew F2.out (by omega) p0 p1 q0 q1).mono ?_; rintro e v2 ⟨A2, c2, rfl, h2', b2⟩))
        have D0n2 := (b2.cell (p := ⟨g, 0, none⟩) g2).trans D0n1
        have D1n2 := (b2.cell (p := ⟨g, 1, none⟩) g2).trans D1n1
        have D2n2 := (b2.cell (p := ⟨g, 2, none⟩) g2).trans D2n1
        have BR2 := Lib.hid (below_next BR1.out.drew (Nat.le_refl _) b2)
        have H2 := Lib.hid (F2.out.next b2)
        have R2x2 := Lib.hid h2'
        have R1x2 := Lib.hid ((show Arr v1.drew v1.drew.heap.size A1 _ c1 _ from R1x1.out).next b2)
        clear D0n1 D1n1 D2n1 h2' b2 F2 H1 BR1 R1x1
        go_wp2_with fail
        have g3 : g < v2.heap.size := by have := BR2.out.size; omega
        have F3 := Lib.hid (show Arr v2.drew v2.drew.heap.size a0 len0 cap0 f from H2.out)
        go_region_held3 (fun w' => w'.cell? ⟨g, 0, none⟩ = some (.int .i64 p) ∧ w'.cell? ⟨g, 1, none⟩ = some (.int .i64 q) ∧ w'.cell? ⟨g, 2, none⟩ = some (.int .i64 r))
          (first | exact ⟨D0n2, D1n2, D2n2⟩ | exact ⟨(b3.cell (p := ⟨g, 0, none⟩) g3).trans D0n2, (b3.cell (p := ⟨g, 1, none⟩) g3).trans D1n2, (b3.cell (p := ⟨g, 2, none⟩) g3).trans D2n2⟩)
          (first | (go_at_call 18; refine (fill_any a0 len0 cap0 f p r a4 v2.drew F3.out (by omega) p0 p1).mono ?_; rintro e v3 ⟨A3, c3, rfl, h3', b3⟩))
        have D0n3 := (b3.cell (p := ⟨g, 0, none⟩) g3).trans D0n2
        have D1n3 := (b3.cell (p := ⟨g, 1, none⟩) g3).trans D1n2
        have D2n3 := (b3.cell (p := ⟨g, 2, none⟩) g3).trans D2n2
        have BR3 := Lib.hid (below_next BR2.out.drew (Nat.le_refl _) b3)
        have H3 := Lib.hid (F3.out.next b3)
        have R3x3 := Lib.hid h3'
        have R1x3 := Lib.hid ((show Arr v2.drew v2.drew.heap.size A1 _ c1 _ from R1x2.out).next b3)
        have R2x3 := Lib.hid ((show Arr v2.drew v2.drew.heap.size A2 _ c2 _ from R2x2.out).next b3)
        clear D0n2 D1n2 D2n2 h3' b3 F3 H2 BR2 R1x2 R2x2
        go_wp2_with fail
        have g4 : g < v3.heap.size := by have := BR3.out.size; omega
        have F4 := Lib.hid (show Arr v3.drew v3.drew.heap.size a0 len0 cap0 f from H3.out)
        go_region_held3 (fun w' => w'.cell? ⟨g, 0, none⟩ = some (.int .i64 p) ∧ w'.cell? ⟨g, 1, none⟩ = some (.int .i64 q) ∧ w'.cell? ⟨g, 2, none⟩ = some (.int .i64 r))
          (first | exact ⟨D0n3, D1n3, D2n3⟩ | exact ⟨(b4.cell (p := ⟨g, 0, none⟩) g4).trans D0n3, (b4.cell (p := ⟨g, 1, none⟩) g4).trans D1n3, (b4.cell (p := ⟨g, 2, none⟩) g4).trans D2n3⟩)
          (first | (go_at_call 19; refine (refFill_any a0 len0 cap0 f p r a4 v3.drew F4.out (by omega) p0 p1).mono ?_; rintro e v4 ⟨A4, c4, rfl, h4', b4⟩))
        have D0n4 := (b4.cell (p := ⟨g, 0, none⟩) g4).trans D0n3
        have D1n4 := (b4.cell (p := ⟨g, 1, none⟩) g4).trans D1n3
        have D2n4 := (b4.cell (p := ⟨g, 2, none⟩) g4).trans D2n3
        have BR4 := Lib.hid (below_next BR3.out.drew (Nat.le_refl _) b4)
        have H4 := Lib.hid (F4.out.next b4)
        have R4x4 := Lib.hid h4'
        have R1x4 := Lib.hid ((show Arr v3.drew v3.drew.heap.size A1 _ c1 _ from R1x3.out).next b4)
        have R2x4 := Lib.hid ((show Arr v3.drew v3.drew.heap.size A2 _ c2 _ from R2x3.out).next b4)
        have R3x4 := Lib.hid ((show Arr v3.drew v3.drew.heap.size A3 _ c3 _ from R3x3.out).next b4)
        clear D0n3 D1n3 D2n3 h4' b4 F4 H3 BR3 R1x3 R2x3 R3x3
        go_wp2_with fail
        have s1 : copyN len0 p q r ≤ 1048576 := by unfold copyN; split <;> omega
        have s2 : fillN len0 p r ≤ 1048576 := by unfold fillN; split <;> omega
        refine (same_yes A1 A2 _ c1 c2 _ _ _ R1x4.out R2x4.out s1 (fun _ _ => rfl)).mono ?_
        rintro e v5 ⟨rfl, b5⟩
        have BR5 := Lib.hid (below_next BR4.out (Nat.le_refl _) b5)
        have R3x5 := Lib.hid (R3x4.out.next b5)
        have R4x5 := Lib.hid (R4x4.out.next b5)
        clear b5 BR4 R1x4 R2x4 R3x4 R4x4 H4 s1 D0n4 D1n4 D2n4
        go_wp2_with fail
        refine (same_yes A3 A4 _ c3 c4 _ _ _ R3x5.out R4x5.out s2 (fun _ _ => rfl)).mono ?_
        rintro e v6 ⟨rfl, b6⟩
        have BR6 := Lib.hid (below_next BR5.out (Nat.le_refl _) b6)
        clear b6 BR5 R3x5 R4x5 s2
        go_wp2
        go_roundw
        case rel => exact ⟨t + 1, by omega, by go_num, BR6.out⟩
        case measure => simp [intOf]; omega
      · have hlt2 : ¬ (t : Int) < 3 := by omega
        have BR2 := Lib.hid (below_next HB.out (Nat.le_refl _) hbel)
        clear hbel
        go_wp2_with fail
        refine (awake_any _).mono ?_
        rintro e w6 ⟨rfl, b6⟩
        have B6 := Lib.hid (below_next BR2.out (Nat.le_refl _) b6)
        clear b6
        go_wp2
        go_ret
        exact ⟨rfl, B6.out⟩
end Go.Proofs.Ythecjlglcnpniaa
