/-
  Layer 19: the developers' pairToRemember and Needs.
-/
import Derived.Test.YtjkbjbikofindaaVRec
import Derived.Deep.RegionHeld3
import Derived.Deep.DeepCutAuto
namespace Go.Proofs.Ytjkbjbikofindaa
open Go.RowKit
set_option maxRecDepth 100000
set_option linter.unusedVariables false

/-- The address that a word refers to, as an int. -/
def prZ (x : Int) : Int := IntKind.i64.wrap (IntKind.u64.wrap (x - 1))
theorem prZ_in {x : Int} (h0 : 0 < x) (h1 : x ≤ 9223372036854775808) : prZ x = x - 1 := by
  unfold prZ
  rw [IntWalk.u64_in _ (by omega), IntWalk.i64_in _ (by omega)]
theorem prZ_out {x : Int} (x0 : 0 ≤ x) (x1 : x < 18446744073709551616) (h : ¬ (0 < x ∧ x ≤ 9223372036854775808)) : prZ x < 0 ∧ -9223372036854775808 ≤ prZ x := by
  unfold prZ
  rcases Int.lt_or_eq_of_le x0 with h0 | h0
  · rw [IntWalk.u64_in _ (by omega), IntKind.wrap_i64]
    omega
  · subst h0
    decide

/-- What pairToRemember answers. -/
def DPairOf (K nw : Nat) (F : Nat → Fr) (slot x : Int) (w : World) (e : Ending) (w' : World) : Prop :=
  ∃ f g : Int, e = .returned (.tuple #[.int .i64 f, .int .i64 g, .bool (prB K nw F slot x)]) ∧ (prB K nw F slot x = true → f = prF K nw slot x ∧ g = prG K nw slot x) ∧ Below w.heap.size w w'

set_option maxHeartbeats 4000000 in
theorem devPair_any (K nw c n c' : Nat) (A A' : Option Addr) (wd : Nat → Int) (F : Nat → Fr) (slot x : Int) (w : World) (hT : Tab w w.heap.size A' n c' F) (hv : ValidP K nw wd n F) (x0 : 0 ≤ x) (x1 : x < 18446744073709551616) (s0 : -9223372036854775808 ≤ slot) (s1 : slot ≤ 9223372036854775807) :
    Calls Try.prog 24 #[.agg #[.int .i64 K, .slice A nw c, .slice A' n c'], .int .i64 slot, .int .u64 x] w (DPairOf K nw F slot x w) := by
  obtain ⟨K', hk, hK3, hK8, hn1, hn64, hw⟩ := valid_shape hv
  obtain rfl : K = K' := by omega
  have hnw := prod_le (n := n) (k := K) hn64 hK8
  have hnum : numB (K : Int) n = true := by simp [numB, shB]; omega
  have hpz : (n : Int) * 2 ^ K = (nw : Int) := by rw [hw]; simp
  have hoe : ∀ a : Int, ofE K n a = if a < 0 ∨ (nw : Int) ≤ a then 2 else 0 := by
    intro a
    unfold ofE
    rw [hnum, if_neg (by decide), Int.toNat_natCast, hpz]
  obtain ⟨U, hU⟩ : ∃ U, U = w.alloc (.cells #[.int .i64 K, .slice A nw c, .slice A' n c'] 25) := ⟨_, rfl⟩
  have BU : Blk U w.heap.size 25 #[.int .i64 K, .slice A nw c, .slice A' n c'] := by rw [hU]; exact Blk.new _ _ _
  have hb0 : Below w.heap.size w U := by rw [hU]; exact (Below.refl _ _).alloc (Nat.le_refl _) _
  have HBU := Lib.hid hb0
  have HT0 := Lib.hid (hT.next hb0)
  have HXU := Lib.hid BU
  have HU := Lib.hid hU
  have p0 := BU.cell 0
  have p1 := BU.cell 1
  have p2 := BU.cell 2
  have pzz := BU.lt
  simp at p0 p1 p2
  clear hU hb0 BU hT
  unfold DPairOf
  by_cases hs : 0 ≤ slot ∧ slot < nw
  rotate_left
  · obtain ⟨_, _, e3⟩ := pr_none (K := K) (nw := nw) (F := F) (slot := slot) (x := x) (by omega)
    have e1 : ofE K n slot = 2 := by rw [hoe, if_pos (by omega)]
    have e2 : ofF K n slot = 0 := by simp [ofF, e1]
    have HE := Lib.hid e3
    rw [e3]
    have HC := Lib.hid (of_any K (.slice A nw c) A' n c' slot U s0 s1)
    rw [e1, e2] at HC
    clear e1 e2 e3 hoe hs hw hnum hpz hv
    go_enter Try.func24, Try.ntmps24
    go_upto_region 1 with fail
    rw [← HU.out]
    go_wp2_with fail
    refine HC.out.mono ?_
    rintro e W1 ⟨rfl, hb1⟩
    have HB1 := Lib.hid (below_next HBU.out (Nat.le_refl _) hb1)
    clear hb1
    go_wp2_with fail
    go_ret3
    exact ⟨_, _, rfl, (fun h => by cases h), HB1.out⟩
  have e1 : ofE K n slot = 0 := by rw [hoe, if_neg (by omega)]
  obtain ⟨z, hz, hzn⟩ := wit_frame (x := slot + 1) (by omega) (by omega) hw
  rw [show slot + 1 - 1 = slot by omega] at hz
  have e2 : ofF K n slot = z := by simp [ofF, e1, hz]
  have HC := Lib.hid (of_any K (.slice A nw c) A' n c' slot U s0 s1)
  rw [e1, e2] at HC
  obtain ⟨so, hso⟩ : ∃ o, o = ofO K n slot := ⟨_, rfl⟩
  rw [← hso] at HC
  have hpr : IntKind.i64.wrap (IntKind.u64.wrap (x - 1)) = prZ x := rfl
  by_cases hx : 0 < x ∧ x ≤ nw
  rotate_left
  · obtain ⟨_, _, e3⟩ := pr_none (K := K) (nw := nw) (F := F) (slot := slot) (x := x) (by omega)
    have hxx : (prZ x < 0 ∨ (nw : Int) ≤ prZ x) ∧ -9223372036854775808 ≤ prZ x ∧ prZ x ≤ 9223372036854775807 := by
      by_cases h : 0 < x ∧ x ≤ 9223372036854775808
      · have := prZ_in h.1 h.2
        omega
      · have := prZ_out x0 x1 h
        omega
    have e4 : ofE K n (prZ x) = 2 := by rw [hoe, if_pos hxx.1]
    have e5 : ofF K n (prZ x) = 0 := by simp [ofF, e4]
    have HD := fun (W : World) => of_any K (.slice A nw c) A' n c' (prZ x) W hxx.2.1 hxx.2.2
    rw [e4, e5] at HD
    replace HD := Lib.hid HD
    rw [e3]
    obtain ⟨zz, hzz⟩ : ∃ y, y = prZ x := ⟨_, rfl⟩
    rw [← hzz] at hpr HD
    clear e1 e2 e3 hoe hs hw hnum hpz hv e4 e5 hz hso hx hxx hzz
    go_enter Try.func24, Try.ntmps24
    go_upto_region 1 with fail
    rw [← HU.out]
    go_wp2_with fail
    refine HC.out.mono ?_
    rintro e W1 ⟨rfl, hb1⟩
    have HB1 := Lib.hid (below_next HBU.out (Nat.le_refl _) hb1)
    have p0 := (hb1.cell (p := ⟨w.heap.size, 0, none⟩) pzz).trans p0
    have p1 := (hb1.cell (p := ⟨w.heap.size, 1, none⟩) pzz).trans p1
    have p2 := (hb1.cell (p := ⟨w.heap.size, 2, none⟩) pzz).trans p2
    clear hb1
    go_wp2_with fail
    refine (HD.out _).mono ?_
    rintro e W2 ⟨rfl, hb2⟩
    have HB2 := Lib.hid (below_next HB1.out (Nat.le_refl _) hb2)
    clear hb2
    go_wp2_with fail
    go_ret3
    exact ⟨_, _, rfl, (fun h => by cases h), HB2.out⟩
  have hzx : prZ x = x - 1 := prZ_in hx.1 (by omega)
  obtain ⟨y, hy, hyn⟩ := wit_frame (x := x) (by omega) (by omega) hw
  have e4 : ofE K n (prZ x) = 0 := by rw [hoe, hzx, if_neg (by omega)]
  have e5 : ofF K n (prZ x) = y := by unfold ofF; rw [if_pos e4, hzx, Int.toNat_natCast, hy]
  have HD := fun (W : World) => of_any K (.slice A nw c) A' n c' (prZ x) W (by omega) (by omega)
  obtain ⟨yo', hyo'⟩ : ∃ o, o = ofO K n (prZ x) := ⟨_, rfl⟩
  rw [e4, e5, ← hyo'] at HD
  replace HD := Lib.hid HD
  have eok := prOk_yes (nw := nw) (slot := slot) (x := x) (by omega)
  have HRF := Lib.hid (show prF K nw slot x = z by unfold prF; rw [eok, if_pos rfl, hz])
  have HRG := Lib.hid (show prG K nw slot x = y by unfold prG; rw [eok, if_pos rfl, hy])
  have HRB := Lib.hid (show prB K nw F slot x = (decide ((F z).ow ≠ -1) && decide ((F y).ow ≠ -1) && decide ((F y).st < (F z).st)) by unfold prB; rw [eok, hz, hy, Int.toNat_natCast, Int.toNat_natCast]; rfl)
  rw [HRF.out, HRG.out, HRB.out]
  have hfz : (F z).ow = -1 → (F z).st = -1 := fun h => by rw [hv.fv.free hzn h]; rfl
  have hfy : (F y).ow ≠ -1 → 0 ≤ (F y).st := fun h => by have := stB_yes (ownB_yes (hv.fv.own hyn h)).1; omega
  obtain ⟨b, oo, rfl, hbb⟩ := HT0.out.base_ (by omega)
  obtain ⟨_, c0, c1, c2⟩ := HT0.out.cells y hyn
  obtain ⟨_, g0, g1, g2⟩ := HT0.out.cells z hzn
  obtain ⟨yo, hyo⟩ : ∃ o, o = (F y).ow := ⟨_, rfl⟩
  obtain ⟨ys, hys⟩ : ∃ o, o = (F y).st := ⟨_, rfl⟩
  obtain ⟨yx, hyx⟩ : ∃ o, o = (F y).nx := ⟨_, rfl⟩
  obtain ⟨zo, hzo⟩ : ∃ o, o = (F z).ow := ⟨_, rfl⟩
  obtain ⟨zs, hzs⟩ : ∃ o, o = (F z).st := ⟨_, rfl⟩
  obtain ⟨zx, hzx2⟩ : ∃ o, o = (F z).nx := ⟨_, rfl⟩
  rw [← hyo] at c0 hfy
  rw [← hys] at c1 hfy
  rw [← hyx] at c2
  rw [← hzo] at g0 hfz
  rw [← hzs] at g1 hfz
  rw [← hzx2] at g2
  rw [← hyo, ← hys, ← hzo, ← hzs]
  obtain ⟨rb, hrb⟩ : ∃ r, r = (decide (zo ≠ -1) && decide (yo ≠ -1) && decide (ys < zs)) := ⟨_, rfl⟩
  rw [← hrb]
  have HR := Lib.hid hrb
  have HZ := Lib.hid hfz
  have HY := Lib.hid hfy
  have yi : 0 ≤ (y : Int) ∧ (y : Int) < n := by omega
  have zi : 0 ≤ (z : Int) ∧ (z : Int) < n := by omega
  obtain ⟨zz, hzz⟩ : ∃ y, y = prZ x := ⟨_, rfl⟩
  rw [← hzz] at hpr HD
  clear e1 e2 hoe hs hw hnum hpz hv e4 e5 hz hso hx hzz hzx hyo' eok hyo hys hyx hzo hzs hzx2 HRF HRG HRB hrb hfz hfy hy HT0
  go_enter Try.func24, Try.ntmps24
  go_upto_region 1 with fail
  rw [← HU.out]
  go_wp2_with fail
  refine HC.out.mono ?_
  rintro e W1 ⟨rfl, hb1⟩
  have HB1 := Lib.hid (below_next HBU.out (Nat.le_refl _) hb1)
  have pz1 := Nat.lt_of_lt_of_le pzz hb1.size
  have bb1 := Nat.lt_of_lt_of_le hbb hb1.size
  have p0 := (hb1.cell (p := ⟨w.heap.size, 0, none⟩) pzz).trans p0
  have p1 := (hb1.cell (p := ⟨w.heap.size, 1, none⟩) pzz).trans p1
  have p2 := (hb1.cell (p := ⟨w.heap.size, 2, none⟩) pzz).trans p2
  have d0 := (hb1.cell (p := ⟨b, _, none⟩) hbb).trans c0
  have d1 := (hb1.cell (p := ⟨b, _, none⟩) hbb).trans c1
  have d2 := (hb1.cell (p := ⟨b, _, none⟩) hbb).trans c2
  have d3 := (hb1.cell (p := ⟨b, _, none⟩) hbb).trans g0
  have d4 := (hb1.cell (p := ⟨b, _, none⟩) hbb).trans g1
  have d5 := (hb1.cell (p := ⟨b, _, none⟩) hbb).trans g2
  clear hb1 c0 c1 c2 g0 g1 g2 HXU
  go_wp2_with fail
  refine (HD.out _).mono ?_
  rintro e W2 ⟨rfl, hb2⟩
  have HB2 := Lib.hid (below_next HB1.out (Nat.le_refl _) hb2)
  have pz2 := Nat.lt_of_lt_of_le pz1 hb2.size
  have bb2 := Nat.lt_of_lt_of_le bb1 hb2.size
  have p2 := (hb2.cell (p := ⟨w.heap.size, 2, none⟩) pz1).trans p2
  have d0 := (hb2.cell (p := ⟨b, _, none⟩) bb1).trans d0
  have d1 := (hb2.cell (p := ⟨b, _, none⟩) bb1).trans d1
  have d2 := (hb2.cell (p := ⟨b, _, none⟩) bb1).trans d2
  have d3 := (hb2.cell (p := ⟨b, _, none⟩) bb1).trans d3
  have d4 := (hb2.cell (p := ⟨b, _, none⟩) bb1).trans d4
  have d5 := (hb2.cell (p := ⟨b, _, none⟩) bb1).trans d5
  clear hb2 p0 p1
  go_upto_region 7 with fail
  go_cut [14, 15] (fun a b wx => ∃ p q, a = .pointer (some ⟨p, 0, none⟩) ∧ b = .pointer (some ⟨q, 0, none⟩) ∧ Blk wx p 61 #[.int .i64 zo, .int .i64 zs, .int .i64 zx] ∧ Blk wx q 61 #[.int .i64 yo, .int .i64 ys, .int .i64 yx] ∧ Below W2.heap.size W2 wx)
  case first =>
    go_region
    all_goals
      go_wp2
      go_meet
      first
      | exact ⟨W2.heap.size, W2.heap.size + 1, rfl, rfl, (Blk.new W2 _ _).alloc _, Blk.newAt _ _ _ _ (by simp), (((Below.refl _ _).alloc (Nat.le_refl _) _).alloc (by simp) _).drew⟩
      | exact ⟨W2.heap.size + 1, W2.heap.size, rfl, rfl, Blk.newAt _ _ _ _ (by simp), (Blk.new W2 _ _).alloc _, (((Below.refl _ _).alloc (Nat.le_refl _) _).alloc (by simp) _).drew⟩
  case rest =>
    obtain ⟨C, rfl⟩ : ∃ C, C = wc := ⟨_, rfl⟩
    obtain ⟨ba, bb, rfl, rfl, hba, hbc, hb⟩ := hcut
    have HBC := Lib.hid (below_next HB2.out (Nat.le_refl _) hb)
    have a0 := hba.cell 0
    have a1 := hba.cell 1
    have b0 := hbc.cell 0
    have b1 := hbc.cell 1
    simp at a0 a1 b0 b1
    have a2 := hba.lt
    have b2 := hbc.lt
    clear hba hbc hb p2 d0 d1 d2 d3 d4 d5 bb1 bb2
    by_cases q2 : yo = -1
    · have q2' : (yo == -1) = true := by simpa using q2
      have HE := Lib.hid (show rb = false by rw [HR.out, decide_eq_false (fun h : yo ≠ -1 => h q2), Bool.and_false]; rfl)
      clear q2
      go_wp2_with fail
      go_ret3
      exact ⟨_, _, by rw [HE.out]; rfl, (fun h => by rw [HE.out] at h; cases h), HBC.out⟩
    · have q2' : (yo == -1) = false := by simpa using q2
      by_cases q3 : zs ≤ ys
      · have HE := Lib.hid (show rb = false by rw [HR.out, decide_eq_false (show ¬ ys < zs by omega), Bool.and_false])
        clear q2
        go_wp2_with fail
        go_ret3
        exact ⟨_, _, by rw [HE.out]; rfl, (fun h => by rw [HE.out] at h; cases h), HBC.out⟩
      · have HE := Lib.hid (show rb = true by
          have h1 := HY.out q2
          have h2 : zo ≠ -1 := fun h => by have := HZ.out h; omega
          rw [HR.out, decide_eq_true h2, decide_eq_true q2, decide_eq_true (show ys < zs by omega)]; rfl)
        clear q2
        go_wp2_with fail
        go_ret3
        exact ⟨_, _, by rw [HE.out]; rfl, fun _ => ⟨rfl, rfl⟩, HBC.out⟩
end Go.Proofs.Ytjkbjbikofindaa
