/-
  Layer 19: the frames of a slot and its target, and whether the slot has to be remembered (the reference's pair).
-/
import Derived.Test.YtjkbjbikofindaaMSpoilt
import Derived.Deep.RegionHeld3
import Derived.Deep.DeepCutAuto
namespace Go.Proofs.Ytjkbjbikofindaa
open Go.RowKit
set_option maxRecDepth 100000
set_option linter.unusedVariables false

theorem wit_frame {nw n K : Nat} {x : Int} (h0 : 0 < x) (h1 : x ≤ nw) (hw : nw = n * 2 ^ K) : ∃ y : Nat, (x - 1) / 2 ^ K = (y : Int) ∧ y < n := by
  have hz : 0 < (2 : Int) ^ K := pw_pos K
  refine ⟨((x - 1) / 2 ^ K).toNat, ?_, ?_⟩
  · have := Int.ediv_nonneg (show 0 ≤ x - 1 by omega) (Int.le_of_lt hz)
    omega
  · have h2 : (x - 1) / 2 ^ K < n := Int.ediv_lt_of_lt_mul hz (by
      have e : ((n * 2 ^ K : Nat) : Int) = (n : Int) * 2 ^ K := by simp
      rw [← e, ← hw]
      omega)
    have := Int.ediv_nonneg (show 0 ≤ x - 1 by omega) (Int.le_of_lt hz)
    omega

/-- Whether slot and word are of the space. -/
def prOk (nw : Nat) (slot x : Int) : Bool := decide (0 < x) && decide (x ≤ nw) && decide (0 ≤ slot) && decide (slot < nw)
def prF (K nw : Nat) (slot x : Int) : Int := if prOk nw slot x = true then slot / 2 ^ K else 0
def prG (K nw : Nat) (slot x : Int) : Int := if prOk nw slot x = true then (x - 1) / 2 ^ K else 0
/-- Whether a slot has to be remembered for a word. -/
def prB (K nw : Nat) (F : Nat → Fr) (slot x : Int) : Bool :=
  prOk nw slot x && decide ((F (slot / 2 ^ K).toNat).ow ≠ -1) && decide ((F ((x - 1) / 2 ^ K).toNat).ow ≠ -1) && decide ((F ((x - 1) / 2 ^ K).toNat).st < (F (slot / 2 ^ K).toNat).st)
theorem prOk_no {nw : Nat} {slot x : Int} (h : ¬ (0 < x ∧ x ≤ nw ∧ 0 ≤ slot ∧ slot < nw)) : prOk nw slot x = false := by
  rw [Bool.eq_false_iff]
  intro e
  simp only [prOk, Bool.and_eq_true, decide_eq_true_eq] at e
  exact h ⟨e.1.1.1, e.1.1.2, e.1.2, e.2⟩
theorem prOk_yes {nw : Nat} {slot x : Int} (h : 0 < x ∧ x ≤ nw ∧ 0 ≤ slot ∧ slot < nw) : prOk nw slot x = true := by
  simp only [prOk, Bool.and_eq_true, decide_eq_true_eq]
  exact ⟨⟨⟨h.1, h.2.1⟩, h.2.2.1⟩, h.2.2.2⟩
theorem prOk_of {nw : Nat} {slot x : Int} (e : prOk nw slot x = true) : 0 < x ∧ x ≤ nw ∧ 0 ≤ slot ∧ slot < nw := by
  simp only [prOk, Bool.and_eq_true, decide_eq_true_eq] at e
  exact ⟨e.1.1.1, e.1.1.2, e.1.2, e.2⟩
theorem pr_none {K nw : Nat} {F : Nat → Fr} {slot x : Int} (h : ¬ (0 < x ∧ x ≤ nw ∧ 0 ≤ slot ∧ slot < nw)) : prF K nw slot x = 0 ∧ prG K nw slot x = 0 ∧ prB K nw F slot x = false := by
  unfold prF prG prB
  rw [prOk_no h]
  exact ⟨rfl, rfl, rfl⟩
/-- What pair answers. -/
def PairOf (K nw : Nat) (F : Nat → Fr) (slot x : Int) (w : World) (e : Ending) (w' : World) : Prop :=
  e = .returned (.tuple #[.int .i64 (prF K nw slot x), .int .i64 (prG K nw slot x), .bool (prB K nw F slot x)]) ∧ Below w.heap.size w w'

set_option maxHeartbeats 4000000 in
theorem pair_any (K nw c n c' : Nat) (A A' : Option Addr) (F : Nat → Fr) (slot x : Int) (w : World) (hT : Tab w w.heap.size A' n c' F) (hK : K ≤ 8) (hn : n ≤ 64) (hw : nw = n * 2 ^ K) (x0 : 0 ≤ x) (x1 : x < 18446744073709551616) :
    Calls Try.prog 25 #[.agg #[.int .i64 K, .slice A nw c, .slice A' n c'], .int .i64 slot, .int .u64 x] w (PairOf K nw F slot x w) := by
  have hnw := prod_le (n := n) (k := K) hn hK
  obtain ⟨U, hU⟩ : ∃ U, U = w.alloc (.cells #[.int .i64 K, .slice A nw c, .slice A' n c'] 25) := ⟨_, rfl⟩
  have BU : Blk U w.heap.size 25 #[.int .i64 K, .slice A nw c, .slice A' n c'] := by rw [hU]; exact Blk.new _ _ _
  have HBU : Hid (Below w.heap.size w U) := by rw [hU]; exact (Below.refl _ _).alloc (Nat.le_refl _) _
  have HU := Lib.hid hU
  have p0 := BU.cell 0
  have p1 := BU.cell 1
  have p2 := BU.cell 2
  have pzz := BU.lt
  simp at p0 p1 p2
  clear hU
  unfold PairOf
  by_cases h0 : x = 0
  · subst h0
    obtain ⟨e1, e2, e3⟩ := pr_none (K := K) (nw := nw) (F := F) (slot := slot) (x := 0) (by omega)
    rw [e1, e2, e3]
    clear hT hw e1 e2 e3
    go_enter Try.func25, Try.ntmps25
    go_wp2_with fail
    rw [← HU.out]
    go_ret3
    exact ⟨rfl, HBU.out⟩
  have h0' : (x == 0) = false := by simpa using h0
  have hcv : IntKind.u64.wrap (nw : Int) = nw := IntWalk.u64_in _ (by omega)
  by_cases h1 : (nw : Int) < x
  · obtain ⟨e1, e2, e3⟩ := pr_none (K := K) (nw := nw) (F := F) (slot := slot) (x := x) (by omega)
    rw [e1, e2, e3]
    clear hT hw e1 e2 e3
    go_enter Try.func25, Try.ntmps25
    go_wp2_with fail
    rw [← HU.out]
    go_ret3
    exact ⟨rfl, HBU.out⟩
  by_cases h2 : slot < 0
  · obtain ⟨e1, e2, e3⟩ := pr_none (K := K) (nw := nw) (F := F) (slot := slot) (x := x) (by omega)
    rw [e1, e2, e3]
    clear hT hw e1 e2 e3
    go_enter Try.func25, Try.ntmps25
    go_wp2_with fail
    rw [← HU.out]
    go_ret3
    exact ⟨rfl, HBU.out⟩
  by_cases h3 : (nw : Int) ≤ slot
  · obtain ⟨e1, e2, e3⟩ := pr_none (K := K) (nw := nw) (F := F) (slot := slot) (x := x) (by omega)
    rw [e1, e2, e3]
    clear hT hw e1 e2 e3
    go_enter Try.func25, Try.ntmps25
    go_wp2_with fail
    rw [← HU.out]
    go_ret3
    exact ⟨rfl, HBU.out⟩
  obtain ⟨y, hy, hyn⟩ := wit_frame (x := x) (by omega) (by omega) hw
  obtain ⟨z, hz, hzn⟩ := wit_frame (x := slot + 1) (by omega) (by omega) hw
  rw [show slot + 1 - 1 = slot by omega] at hz
  have eok := prOk_yes (nw := nw) (slot := slot) (x := x) (by omega)
  have HRF := Lib.hid (show prF K nw slot x = z by unfold prF; rw [eok, if_pos rfl, hz])
  have HRG := Lib.hid (show prG K nw slot x = y by unfold prG; rw [eok, if_pos rfl, hy])
  have HRB := Lib.hid (show prB K nw F slot x = (decide ((F z).ow ≠ -1) && decide ((F y).ow ≠ -1) && decide ((F y).st < (F z).st)) by unfold prB; rw [eok, hz, hy, Int.toNat_natCast, Int.toNat_natCast]; rfl)
  rw [HRF.out, HRG.out, HRB.out]
  obtain ⟨b, oo, rfl, hbb⟩ := hT.base_ (by omega)
  obtain ⟨_, c0, c1, c2⟩ := hT.cells y hyn
  obtain ⟨_, g0, g1, g2⟩ := hT.cells z hzn
  obtain ⟨yo, hyo⟩ : ∃ o, o = (F y).ow := ⟨_, rfl⟩
  obtain ⟨ys, hys⟩ : ∃ o, o = (F y).st := ⟨_, rfl⟩
  obtain ⟨yx, hyx⟩ : ∃ o, o = (F y).nx := ⟨_, rfl⟩
  obtain ⟨zo, hzo⟩ : ∃ o, o = (F z).ow := ⟨_, rfl⟩
  obtain ⟨zs, hzs⟩ : ∃ o, o = (F z).st := ⟨_, rfl⟩
  obtain ⟨zx, hzx⟩ : ∃ o, o = (F z).nx := ⟨_, rfl⟩
  rw [← hyo] at c0
  rw [← hys] at c1
  rw [← hyx] at c2
  rw [← hzo] at g0
  rw [← hzs] at g1
  rw [← hzx] at g2
  rw [← hyo, ← hys, ← hzo, ← hzs]
  obtain ⟨rb, hrb⟩ : ∃ r, r = (decide (zo ≠ -1) && decide (yo ≠ -1) && decide (ys < zs)) := ⟨_, rfl⟩
  rw [← hrb]
  have HR := Lib.hid hrb
  have d0 := (HBU.out.cell (p := ⟨b, _, none⟩) hbb).trans c0
  have d1 := (HBU.out.cell (p := ⟨b, _, none⟩) hbb).trans c1
  have d2 := (HBU.out.cell (p := ⟨b, _, none⟩) hbb).trans c2
  have d3 := (HBU.out.cell (p := ⟨b, _, none⟩) hbb).trans g0
  have d4 := (HBU.out.cell (p := ⟨b, _, none⟩) hbb).trans g1
  have d5 := (HBU.out.cell (p := ⟨b, _, none⟩) hbb).trans g2
  have yi : 0 ≤ (y : Int) ∧ (y : Int) < n := by omega
  have zi : 0 ≤ (z : Int) ∧ (z : Int) < n := by omega
  have hx1 : IntKind.u64.wrap (x - 1) = x - 1 := IntWalk.u64_in _ (by omega)
  have hx2 : IntKind.i64.wrap (x - 1) = x - 1 := IntWalk.i64_in _ (by omega)
  have HY := Lib.hid hy
  have HZ := Lib.hid hz
  clear hT hw c0 c1 c2 g0 g1 g2 h0 hyo hys hyx hzo hzs hzx HRF HRG HRB eok hrb
  go_enter Try.func25, Try.ntmps25
  go_upto_region 3 with fail
  rw [← HU.out]
  go_quiet (fail)
  obtain ⟨V, hV⟩ : ∃ V, V = U.drewN nq := ⟨_, rfl⟩
  have HBV : Hid (Below w.heap.size w V) := by rw [hV]; exact Lib.hid (HBU.out.trans ⟨rfl, rfl, rfl, Nat.le_refl _, fun _ _ => rfl⟩)
  have v2 : V.cell? ⟨w.heap.size, 2, none⟩ = some (.slice (some ⟨b, oo, none⟩) n c') := by rw [hV]; exact p2
  replace d0 : V.cell? ⟨b, oo + y * 3, none⟩ = some (.int .i64 yo) := by rw [hV]; exact d0
  replace d1 : V.cell? ⟨b, oo + y * 3 + 1, none⟩ = some (.int .i64 ys) := by rw [hV]; exact d1
  replace d2 : V.cell? ⟨b, oo + y * 3 + 2, none⟩ = some (.int .i64 yx) := by rw [hV]; exact d2
  replace d3 : V.cell? ⟨b, oo + z * 3, none⟩ = some (.int .i64 zo) := by rw [hV]; exact d3
  replace d4 : V.cell? ⟨b, oo + z * 3 + 1, none⟩ = some (.int .i64 zs) := by rw [hV]; exact d4
  replace d5 : V.cell? ⟨b, oo + z * 3 + 2, none⟩ = some (.int .i64 zx) := by rw [hV]; exact d5
  have zbV : b < V.heap.size := cell_lt d0
  have zwV : w.heap.size < V.heap.size := cell_lt v2
  rw [← hV]
  clear hV p0 p1 p2 BU hy hz
  go_upto_region 4 with fail
  go_cut [11, 12] (fun a b wx => ∃ p q, a = .pointer (some ⟨p, 0, none⟩) ∧ b = .pointer (some ⟨q, 0, none⟩) ∧ Blk wx p 61 #[.int .i64 zo, .int .i64 zs, .int .i64 zx] ∧ Blk wx q 61 #[.int .i64 yo, .int .i64 ys, .int .i64 yx] ∧ Below V.heap.size V wx)
  case first =>
    go_region
    all_goals
      go_wp2
      go_meet
      first
      | exact ⟨V.heap.size, V.heap.size + 1, rfl, rfl, (Blk.new V _ _).alloc _, Blk.newAt _ _ _ _ (by simp), (((Below.refl _ _).alloc (Nat.le_refl _) _).alloc (by simp) _).drew⟩
      | exact ⟨V.heap.size + 1, V.heap.size, rfl, rfl, Blk.newAt _ _ _ _ (by simp), (Blk.new V _ _).alloc _, (((Below.refl _ _).alloc (Nat.le_refl _) _).alloc (by simp) _).drew⟩
  case rest =>
    obtain ⟨C, rfl⟩ : ∃ C, C = wc := ⟨_, rfl⟩
    obtain ⟨ba, bb, rfl, rfl, hba, hbc, hb⟩ := hcut
    have HBC := Lib.hid (below_next HBV.out (Nat.le_refl _) hb)
    have a0 := hba.cell 0
    have a1 := hba.cell 1
    have b0 := hbc.cell 0
    have b1 := hbc.cell 1
    simp at a0 a1 b0 b1
    have a2 := hba.lt
    have b2 := hbc.lt
    clear hba hbc hb v2 d0 d1 d2 d3 d4 d5
    by_cases q1 : zo = -1
    · have q1' : (zo != -1) = false := by simpa using q1
      have HE := Lib.hid (show rb = false by rw [HR.out, decide_eq_false (fun h => h q1)]; rfl)
      clear q1
      go_upto_region 5 with fail
      go_quiet (fail)
      go_wp2
      go_ret3
      exact ⟨by rw [HE.out]; rfl, after_drawn _ HBC.out⟩
    · have q1' : (zo != -1) = true := by simpa using q1
      by_cases q2 : yo = -1
      · have q2' : (yo != -1) = false := by simpa using q2
        have HE := Lib.hid (show rb = false by rw [HR.out, decide_eq_false (fun h : yo ≠ -1 => h q2), Bool.and_false]; rfl)
        clear q1 q2
        go_upto_region 5 with fail
        go_quiet (fail)
        go_wp2
        go_ret3
        exact ⟨by rw [HE.out]; rfl, after_drawn _ HBC.out⟩
      · have q2' : (yo != -1) = true := by simpa using q2
        by_cases q3 : ys < zs
        · have HE := Lib.hid (show rb = true by rw [HR.out, decide_eq_true q1, decide_eq_true q2, decide_eq_true q3]; rfl)
          clear q1 q2
          go_upto_region 5 with fail
          go_quiet (fail)
          go_wp2
          go_ret3
          exact ⟨by rw [HE.out]; rfl, after_drawn _ HBC.out⟩
        · have HE := Lib.hid (show rb = false by rw [HR.out, decide_eq_false q3, Bool.and_false])
          clear q1 q2
          go_upto_region 5 with fail
          go_quiet (fail)
          go_wp2
          go_ret3
          exact ⟨by rw [HE.out]; rfl, after_drawn _ HBC.out⟩
end Go.Proofs.Ytjkbjbikofindaa
