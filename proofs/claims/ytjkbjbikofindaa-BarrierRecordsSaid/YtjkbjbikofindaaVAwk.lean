/-
  Layer 19: the law's example.
-/
import Derived.Test.YtjkbjbikofindaaVDev
import Derived.Test.YtjkbjbikofindaaMAw5
namespace Go.Proofs.Ytjkbjbikofindaa
open Go.RowKit
set_option maxRecDepth 100000
set_option linter.unusedVariables false

/-- The example's table. -/
def W0 : Nat → Fr := fun j => if j = 0 then ⟨5, 5, -1⟩ else P0 j
def W1 : Nat → Fr := fun j => if j = 1 then ⟨2, 4294967298, -1⟩ else W0 j
theorem w1_fv : FV W1 3 := by
  have h0 : FV P0 3 := (valid_fresh (k := 3) (n := 3) (by decide) (by decide) (by decide) (by decide)).fv
  have h1 : FV (lift P0 0 5 5) 3 := lift_fv h0 (f := 0) rfl (by decide)
  exact lift_fv h1 (f := 1) rfl (by decide)
theorem w1_valid : ValidP (3 : Nat) 24 (fun _ => 0) 3 W1 := by
  refine ValidP.mk_ (by decide) (by decide) (by decide) w1_fv (fun f _ _ => ?_)
  simp [zeroB]
theorem w1_91 : prB 3 24 W1 9 1 = true := by decide
theorem w1_110 : prB 3 24 W1 1 10 = false := by decide
theorem w1_90 : prB 3 24 W1 9 0 = false := by decide
theorem w1_note : noteS 3 24 W1 9 1 [] = [⟨1, 0, [9]⟩] := by
  rw [noteS, if_pos w1_91]
  rfl

set_option maxHeartbeats 2000000 in
theorem awake19_any (w : World) : Calls Try.prog 7 #[] w fun e w' => e = .returned (.bool true) ∧ Below w.heap.size w w' := by
  go_enter Try.func7, Try.ntmps7
  go_upto_region 2 with (go_at_call 20; refine (refNew_yes 3 3 w (by decide) (by decide) (by decide) (by decide)).mono ?_; rintro e w1 ⟨A, A', rfl, ha, ht, hb1⟩)
  obtain ⟨g, rfl, g1, g2, _⟩ := ht.spot 0 (by decide) frFree
  obtain ⟨V, hV⟩ : ∃ V, V = w1.alloc (.cells #[.int .i64 3, .slice A 24 24, .slice (some ⟨g, 0, none⟩) 3 3] 25) := ⟨_, rfl⟩
  have hbv : Below w1.heap.size w1 V := by rw [hV]; exact (Below.refl _ _).alloc (Nat.le_refl _) _
  have BX := Lib.hid (show Blk V w1.heap.size 25 #[.int .i64 3, .slice A 24 24, .slice (some ⟨g, 0, none⟩) 3 3] by rw [hV]; exact Blk.new _ _ _)
  have HA1 := Lib.hid (ha.below hbv)
  have HT1 := Lib.hid (ht.below hbv)
  have HB1 := Lib.hid (below_next hb1 (Nat.le_refl _) hbv)
  have z1 : w.heap.size ≤ w1.heap.size := hb1.size
  have p2 := BX.out.cell 2
  have pz := BX.out.lt
  simp at p2
  obtain ⟨_, g3, c0, c1, c2, f0, f1, f2, hn1, _⟩ := HT1.out.spotAt 0 (by decide) ⟨5, 5, -1⟩
  simp only [Nat.zero_mul, Nat.zero_add] at c0 c1 c2 f0 f1 f2 hn1
  have HV := Lib.hid hV
  clear hV hbv ha ht hb1
  rw [← HV.out]
  go_upto_region 3 with fail
  obtain ⟨W, hW⟩ : ∃ W, W = ((V.setCell ⟨g, 0, none⟩ (.int .i64 5)).setCell ⟨g, 1, none⟩ (.int .i64 5)).setCell ⟨g, 2, none⟩ (.int .i64 (-1)) := ⟨_, rfl⟩
  have hgx : w1.heap.size ≠ g := by omega
  have BX2 := Lib.hid (show Blk W w1.heap.size 25 #[.int .i64 3, .slice A 24 24, .slice (some ⟨g, 0, none⟩) 3 3] by rw [hW]; exact BX.out.far3 hgx _ _ _)
  have HA2 := Lib.hid (show Own W w.heap.size A 24 24 (fun _ => 0) by rw [hW]; exact own_setT HA1.out HT1.out _ _ _)
  have HT2 := Lib.hid (show OwnT W w.heap.size (some ⟨g, 0, none⟩) 3 3 W0 by rw [hW]; exact hn1)
  have HB2 := Lib.hid (show Below w.heap.size w W by rw [hW]; exact below_set3 HB1.out (by omega) _ _ _)
  have HW := Lib.hid hW
  clear hW hn1 c0 c1 c2 f0 f1 f2 p2 pz
  have p2 := BX2.out.cell 2
  have pz := BX2.out.lt
  simp at p2
  obtain ⟨_, g4, c0, c1, c2, f0, f1, f2, hn2, _⟩ := HT2.out.spotAt 1 (by decide) ⟨2, 4294967298, -1⟩
  simp only [Nat.reduceMul, Nat.reduceAdd] at c0 c1 c2 f0 f1 f2 hn2
  rw [← HW.out]
  go_upto_region 4 with fail
  obtain ⟨Z, hZ⟩ : ∃ Z, Z = ((W.setCell ⟨g, 3, none⟩ (.int .i64 2)).setCell ⟨g, 4, none⟩ (.int .i64 4294967298)).setCell ⟨g, 5, none⟩ (.int .i64 (-1)) := ⟨_, rfl⟩
  have BX3 := Lib.hid (show Blk Z w1.heap.size 25 #[.int .i64 3, .slice A 24 24, .slice (some ⟨g, 0, none⟩) 3 3] by rw [hZ]; exact BX2.out.far3 hgx _ _ _)
  have HA3 := Lib.hid (show Own Z w.heap.size A 24 24 (fun _ => 0) by rw [hZ]; exact own_setT HA2.out HT2.out _ _ _)
  have HT3 := Lib.hid (show OwnT Z w.heap.size (some ⟨g, 0, none⟩) 3 3 W1 by rw [hZ]; exact hn2)
  have HB3 := Lib.hid (show Below w.heap.size w Z by rw [hZ]; exact below_set3 HB2.out (by omega) _ _ _)
  have HZ := Lib.hid hZ
  clear hZ hn2 c0 c1 c2 f0 f1 f2 p2 pz
  have p0 := BX3.out.cell 0
  have p1 := BX3.out.cell 1
  have p2 := BX3.out.cell 2
  have pz := BX3.out.lt
  simp at p0 p1 p2
  rw [← HZ.out]
  go_upto_region 5 with (go_at_call 15; refine (devRecord_any (3 : Nat) A (some ⟨g, 0, none⟩) none 24 24 3 3 0 (fun _ => 0) W1 [] 9 1 Z HA3.out.arr HT3.out.tab (TArr.nil _ _) (by decide) (by decide) (by decide) (by decide) ⟨by simp, by simp⟩).mono ?_; rintro e w4 ⟨v, r, rfl, hb4, h4⟩)
  rcases h4 with ⟨_, _, rfl, A4, c4, rfl, h4⟩ | ⟨h, _⟩
  rotate_left
  · exact absurd ⟨w1_valid, ValS.nil⟩ h
  have e4 : noteS (Int.toNat ((3 : Nat) : Int)) 24 W1 9 1 [] = [⟨1, 0, [9]⟩] := w1_note
  rw [e4] at h4 ⊢
  obtain ⟨b4, o4, A5, c5, rfl, q4, q4', k0, k1, k2, _⟩ := h4.at_ (j := 0) (x := ⟨1, 0, [9]⟩) rfl
  simp only [Nat.zero_mul, Nat.add_zero] at k0 k1 k2
  have z4 := hb4.size
  have HB4 := Lib.hid (below_next HB3.out (Nat.le_refl _) hb4)
  have HA4 := Lib.hid ((HA3.out.arr).next hb4)
  have HT4 := Lib.hid ((HT3.out.tab).next hb4)
  have p0 := (hb4.cell (p := ⟨w1.heap.size, 0, none⟩) pz).trans p0
  have p1 := (hb4.cell (p := ⟨w1.heap.size, 1, none⟩) pz).trans p1
  have p2 := (hb4.cell (p := ⟨w1.heap.size, 2, none⟩) pz).trans p2
  clear h4 hb4 e4
  have pz4 : w1.heap.size < w4.heap.size := Nat.lt_of_lt_of_le pz z4
  clear z4
  have HK0 := Lib.hid k0
  have HK1 := Lib.hid k1
  have Q4 := Lib.hid q4'
  clear k0 k1 k2 q4 q4'
  go_wp2_with fail
  refine (devNeeds_any 3 24 24 3 3 A (some ⟨g, 0, none⟩) (fun _ => 0) W1 9 1 w4 HA4.out HT4.out w1_valid (by decide) (by decide) (by decide) (by decide)).mono ?_
  rintro e w5 ⟨rfl, hb5⟩
  rw [w1_91]
  have HB5 := Lib.hid (below_next HB4.out (Nat.le_refl _) hb5)
  have HA5 := Lib.hid (HA4.out.next hb5)
  have HT5 := Lib.hid (HT4.out.next hb5)
  have z5 := hb5.size
  have HK0 := Lib.hid ((hb5.cell (p := ⟨b4, o4, none⟩) Q4.out).trans HK0.out)
  have HK1 := Lib.hid ((hb5.cell (p := ⟨b4, o4 + 1, none⟩) Q4.out).trans HK1.out)
  have Q5 := Lib.hid (show b4 < w5.heap.size from Nat.lt_of_lt_of_le Q4.out z5)
  have p0 := (hb5.cell (p := ⟨w1.heap.size, 0, none⟩) pz4).trans p0
  have p1 := (hb5.cell (p := ⟨w1.heap.size, 1, none⟩) pz4).trans p1
  have p2 := (hb5.cell (p := ⟨w1.heap.size, 2, none⟩) pz4).trans p2
  have pz5 : w1.heap.size < w5.heap.size := Nat.lt_of_lt_of_le pz4 z5
  clear hb5 z5
  go_wp2_with fail
  refine (devNeeds_any 3 24 24 3 3 A (some ⟨g, 0, none⟩) (fun _ => 0) W1 1 10 w5 HA5.out HT5.out w1_valid (by decide) (by decide) (by decide) (by decide)).mono ?_
  rintro e w6 ⟨rfl, hb6⟩
  rw [w1_110]
  have HB6 := Lib.hid (below_next HB5.out (Nat.le_refl _) hb6)
  have HA6 := Lib.hid (HA5.out.next hb6)
  have HT6 := Lib.hid (HT5.out.next hb6)
  have z6 := hb6.size
  have HK0 := Lib.hid ((hb6.cell (p := ⟨b4, o4, none⟩) Q5.out).trans HK0.out)
  have HK1 := Lib.hid ((hb6.cell (p := ⟨b4, o4 + 1, none⟩) Q5.out).trans HK1.out)
  have Q6 := Lib.hid (show b4 < w6.heap.size from Nat.lt_of_lt_of_le Q5.out z6)
  have p0 := (hb6.cell (p := ⟨w1.heap.size, 0, none⟩) pz5).trans p0
  have p1 := (hb6.cell (p := ⟨w1.heap.size, 1, none⟩) pz5).trans p1
  have p2 := (hb6.cell (p := ⟨w1.heap.size, 2, none⟩) pz5).trans p2
  have pz6 : w1.heap.size < w6.heap.size := Nat.lt_of_lt_of_le pz5 z6
  clear hb6 z6
  go_wp2_with fail
  refine (devNeeds_any 3 24 24 3 3 A (some ⟨g, 0, none⟩) (fun _ => 0) W1 9 0 w6 HA6.out HT6.out w1_valid (by decide) (by decide) (by decide) (by decide)).mono ?_
  rintro e w7 ⟨rfl, hb7⟩
  rw [w1_90]
  have HB7 := Lib.hid (below_next HB6.out (Nat.le_refl _) hb7)
  have k0 := (hb7.cell (p := ⟨b4, o4, none⟩) Q6.out).trans HK0.out
  have k1 := (hb7.cell (p := ⟨b4, o4 + 1, none⟩) Q6.out).trans HK1.out
  have pz7 := Nat.lt_of_lt_of_le Q6.out hb7.size
  clear hb7 p0 p1 p2
  go_wp2_with fail
  go_ret
  exact ⟨rfl, HB7.out⟩
end Go.Proofs.Ytjkbjbikofindaa
