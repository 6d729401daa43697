/-
  Contracts of Go and Step of the reference, of Step of package chain.
-/
import Derived.Test.YtpbcpobbjoopnaaLst
import Derived.Test.YtpbcpobbjoopnaaGo
import Derived.Test.YtpbcpobbjoopnaaOf
import Derived.Test.YtpbcpobbjoopnaaSame
namespace Go.Proofs.Ytpbcpobbjoopnaa
open Go.RowKit
set_option maxRecDepth 100000
set_option linter.unusedVariables false

theorem adB_yes {nw : Nat} {a : Int} (h : adB nw a = true) : 0 ≤ a ∧ a < nw := by simpa [adB] using h
theorem adB_of {nw : Nat} {a : Int} (h : 0 ≤ a ∧ a < nw) : adB nw a = true := by simpa [adB] using h
theorem adB_no {nw : Nat} {a : Int} (h : ¬ (0 ≤ a ∧ a < nw)) : adB nw a = false := by
  cases e : adB nw a
  · rfl
  · exact absurd (adB_yes e) h
section
variable {s : Int} {nw : Nat} {wd : Nat → Int} {n : Nat} {F : Nat → Fr} {a k : Int}
theorem stp_bad (h : validB s nw wd n F = false) : stpE s nw wd n F a k = 1 ∧ stpV s nw wd n F a k = 0 := by
  have h1 : stpE s nw wd n F a k = 1 := by unfold stpE; rw [if_pos h]
  exact ⟨h1, by unfold stpV; rw [h1]; rfl⟩
theorem stp_out (h : validB s nw wd n F = true) (h2 : adB nw a = false ∨ k < 0) : stpE s nw wd n F a k = 2 ∧ stpV s nw wd n F a k = 0 := by
  have h1 : stpE s nw wd n F a k = 2 := by unfold stpE; rw [if_neg (by simp [h]), if_pos h2]
  exact ⟨h1, by unfold stpV; rw [h1]; rfl⟩
/-- An address and its parts. -/
def PartsA (K : Nat) (a : Int) (y r : Nat) : Prop := a / 2 ^ K = (y : Int) ∧ a % 2 ^ K = (r : Int) ∧ r < 2 ^ K ∧ a = ((y * 2 ^ K + r : Nat) : Int)
theorem partsA {K nw n : Nat} {a : Int} (h : adB nw a = true) (hw : nw = n * 2 ^ K) : ∃ y r : Nat, PartsA K a y r ∧ y < n := by
  obtain ⟨h1, h2⟩ := adB_yes h
  obtain ⟨x, rfl⟩ := Int.eq_ofNat_of_zero_le h1
  have ez : (2 : Int) ^ K = ((2 ^ K : Nat) : Int) := by simp
  refine ⟨x / 2 ^ K, x % 2 ^ K, ⟨by rw [ez]; exact (Int.natCast_ediv _ _).symm, by rw [ez]; exact (Int.natCast_emod _ _).symm, Nat.mod_lt _ (Nat.two_pow_pos K), ?_⟩, ?_⟩
  · rw [Nat.mul_comm, Nat.div_add_mod]
  · exact Nat.div_lt_of_lt_mul (by rw [Nat.mul_comm, ← hw]; omega)
theorem stp_free {K y r : Nat} (h : validB K nw wd n F = true) (h2 : adB nw a = true) (hk : 0 ≤ k) (hp : PartsA K a y r) (h3 : (F y).ow = -1) : stpE K nw wd n F a k = 5 ∧ stpV K nw wd n F a k = 0 := by
  have h1 : stpE K nw wd n F a k = 5 := by unfold stpE; rw [if_neg (by simp [h]), if_neg (by simp [h2]; omega), Int.toNat_natCast, hp.1, Int.toNat_natCast, if_pos h3]
  exact ⟨h1, by unfold stpV; rw [h1]; rfl⟩
theorem stp_end {K y r m x : Nat} (h : validB K nw wd n F = true) (h2 : adB nw a = true) (hp : PartsA K a y r) (h3 : (F y).ow ≠ -1) (hm : (chL F n y).length = m) (hx : m * 2 ^ K ≤ r + x) : stpE K nw wd n F a x = 2 ∧ stpV K nw wd n F a x = 0 := by
  have ez : (2 : Int) ^ K = ((2 ^ K : Nat) : Int) := by simp
  have h1 : stpE K nw wd n F a x = 2 := by
    unfold stpE; rw [if_neg (by simp [h]), if_neg (by simp [h2]), Int.toNat_natCast, hp.1, Int.toNat_natCast, if_neg h3, hm, hp.2.1, ez, if_pos]
    rw [← Int.natCast_mul]
    omega
  exact ⟨h1, by unfold stpV; rw [h1]; rfl⟩
theorem stp_ok {K y r m x : Nat} (h : validB K nw wd n F = true) (h2 : adB nw a = true) (hp : PartsA K a y r) (h3 : (F y).ow ≠ -1) (hm : (chL F n y).length = m) (hx : r + x < m * 2 ^ K) : stpE K nw wd n F a x = 0 ∧ stpV K nw wd n F a x = addrP F K y (r + x) := by
  have ez : (2 : Int) ^ K = ((2 ^ K : Nat) : Int) := by simp
  have h1 : stpE K nw wd n F a x = 0 := by
    unfold stpE; rw [if_neg (by simp [h]), if_neg (by simp [h2]), Int.toNat_natCast, hp.1, Int.toNat_natCast, if_neg h3, hm, hp.2.1, ez, if_neg]
    rw [← Int.natCast_mul]
    omega
  refine ⟨h1, ?_⟩
  unfold stpV
  rw [h1, if_pos rfl, Int.toNat_natCast, hp.1, hp.2.1, show ((r : Int) + x).toNat = r + x by omega]
end

/-- What holds on the way along a chain of m frames, to its place P or its end. -/
def GoAt5 (F : Nat → Fr) (n : Nat) (first : Int) (m z P : Nat) (kk f at_ : Value) : Prop :=
  ∃ q y r x : Nat, f = .int .i64 y ∧ iter F q first = y ∧ y < n ∧ at_ = .int .i64 r ∧ r < z ∧ kk = .int .i64 x ∧ q * z + r + x = P ∧ q < m ∧ (x : Int) ≤ 9223372036854775807

set_option maxHeartbeats 4000000 in
theorem refGo5_any (K : Nat) (A A' : Option Addr) (nw c n c' : Nat) (wd : Nat → Int) (F : Nat → Fr) (a j : Int) (w : World) (hT : Tab w w.heap.size A' n c' F) (hvp : ValidP K nw wd n F) (j0 : -9223372036854775808 ≤ j) (j1 : j ≤ 9223372036854775807) :
    Calls Try.prog 43 #[.agg #[.int .i64 K, .slice A nw c, .slice A' n c'], .int .i64 a, .int .i64 j] w (Gives2 (stpV K nw wd n F a j) (stpE K nw wd n F a j) w) := by
  have hv := validB_yes hvp
  obtain ⟨s0, s1⟩ := shB_yes hvp.1
  obtain ⟨n0, n64⟩ := nfB_yes hvp.2.1
  have hw := hvp.2.2.1
  rw [Int.toNat_natCast] at hw
  obtain ⟨U, hU⟩ : ∃ U, U = w.alloc (.cells #[.int .i64 K, .slice A nw c, .slice A' n c'] 25) := ⟨_, rfl⟩
  have BU : Blk U w.heap.size 25 #[.int .i64 K, .slice A nw c, .slice A' n c'] := by rw [hU]; exact Blk.new _ _ _
  have HBU : Hid (Below w.heap.size w U) := by rw [hU]; exact (Below.refl _ _).alloc (Nat.le_refl _) _
  have HU := Lib.hid hU
  have p0 := BU.cell 0
  have p1 := BU.cell 1
  have p2 := BU.cell 2
  have pzz := BU.lt
  simp at p0 p1 p2
  clear hU
  by_cases hbad : adB nw a = false ∨ j < 0
  · obtain ⟨e1, e2⟩ := stp_out hv hbad
    rw [e1, e2]
    by_cases h0 : a < 0
    · clear e1 e2 hbad hv hvp hw
      go_enter Try.func43, Try.ntmps43
      go_wp2
      rw [← HU.out]
      go_ret2
      exact ⟨rfl, HBU.out⟩
    · by_cases h2 : (nw : Int) ≤ a
      · clear e1 e2 hbad hv hvp hw
        go_enter Try.func43, Try.ntmps43
        go_wp2
        rw [← HU.out]
        go_ret2
        exact ⟨rfl, HBU.out⟩
      · have h3 : j < 0 := by
          rcases hbad with h | h
          · have := adB_of (nw := nw) (a := a) (by omega)
            rw [h] at this; cases this
          · exact h
        clear e1 e2 hbad hv hvp hw
        go_enter Try.func43, Try.ntmps43
        go_wp2
        rw [← HU.out]
        go_ret2
        exact ⟨rfl, HBU.out⟩
  · have had : adB nw a = true := by
      cases e : adB nw a
      · exact absurd (.inl e) hbad
      · rfl
    have hj0 : 0 ≤ j := by
      rcases Int.lt_or_le j 0 with h | h
      · exact absurd (.inr h) hbad
      · exact h
    obtain ⟨J, rfl⟩ := Int.eq_ofNat_of_zero_le hj0
    obtain ⟨a0, a1⟩ := adB_yes had
    have hnw := prod_le (n := n) (k := K) (by omega) (by omega)
    obtain ⟨y, r, hpa, hyn⟩ := partsA had hw
    have hlow := and_low' a K a0 (by omega) (by omega)
    obtain ⟨z, hz⟩ : ∃ z, z = 2 ^ K := ⟨_, rfl⟩
    have z0 : 0 < z := by rw [hz]; exact Nat.two_pow_pos K
    have z1 : z ≤ 256 := by
      have := pw_bd (k := K) (by omega)
      have e : ((2 ^ K : Nat) : Int) = (2 : Int) ^ K := by simp
      omega
    have ez : (2 : Int) ^ K = z := by rw [hz]; simp
    have hrz : r < z := by rw [hz]; exact hpa.2.2.1
    have hdiv := hpa.1
    rw [hpa.2.1] at hlow
    have HPA := Lib.hid hpa
    have HV := Lib.hid hv
    have HAD := Lib.hid had
    have HFV := Lib.hid hvp.fv
    have HLOW := Lib.hid hlow
    have HDIV := Lib.hid hdiv
    have HZ := Lib.hid hz
    have HEZ := Lib.hid ez
    have pz : 0 < (2 : Int) ^ K := pw_pos K
    have pz2 : (2 : Int) ^ K ≤ 256 := pw_bd (by omega)
    have HT := Lib.hid hT
    obtain ⟨b, oo, rfl, hbb⟩ := hT.base_ (by omega)
    obtain ⟨_, c0, _, _⟩ := hT.cells y hyn
    have yi : 0 ≤ (y : Int) ∧ (y : Int) < n := by omega
    obtain ⟨ow, how⟩ : ∃ o, o = (F y).ow := ⟨_, rfl⟩
    rw [← how] at c0
    have d0 : U.cell? ⟨b, oo + y * 3, none⟩ = some (.int .i64 ow) := (HBU.out.cell (p := ⟨b, _, none⟩) hbb).trans c0
    have HOW := Lib.hid how
    clear hT hz ez hdiv hlow hw c0 hpa had hbad hvp how
    by_cases ho : ow = -1
    · obtain ⟨e1, e2⟩ := stp_free (k := (J : Int)) hv HAD.out hj0 HPA.out (HOW.out ▸ ho)
      rw [e1, e2]
      have hneg : (ow == -1) = true := by simpa using ho
      clear e1 e2 hv ho
      go_enter Try.func43, Try.ntmps43
      go_wp2
      rw [← HU.out]
      go_quiet (fail)
      rw [HLOW.out, HDIV.out]
      go_wp2
      go_ret2
      exact ⟨rfl, after_drawn _ HBU.out⟩
    · have hneg : (ow == -1) = false := by simpa using ho
      have HNO := Lib.hid (show (F y).ow ≠ -1 from HOW.out ▸ ho)
      obtain ⟨m, hmb, hlen⟩ := HFV.out.len hyn
      have hm0 := hlen.pos
      have HLEN := Lib.hid hlen
      have HM := Lib.hid (chL_length (n := n) hlen hmb)
      clear hv ho hlen
      go_enter Try.func43, Try.ntmps43
      go_wp2
      rw [← HU.out]
      go_quiet (fail)
      rw [HLOW.out, HDIV.out]
      go_wp2
      obtain ⟨V, hV⟩ : ∃ V, V = U.drewN nq := ⟨_, rfl⟩
      have BV : Blk V w.heap.size 25 #[.int .i64 K, .slice A nw c, .slice (some ⟨b, oo, none⟩) n c'] := by rw [hV]; exact BU
      have HBV : Hid (Below w.heap.size w V) := by rw [hV]; exact HBU.out.trans ⟨rfl, rfl, rfl, Nat.le_refl _, fun _ _ => rfl⟩
      rw [← hV]
      have p0 := BV.cell 0
      have p2 := BV.cell 2
      simp at p0 p2
      have HTV : Hid (Tab V w.heap.size (some ⟨b, oo, none⟩) n c' F) := HT.out.below HBV.out
      have ez := HEZ.out
      clear hV BU p1 d0
      go_loop [2, 8, 9] (fun kk f at_ => GoAt5 F n y m z (r + J) kk f at_) (fun kk _ _ => (intOf kk).toNat)
      case atStart => exact ⟨0, y, r, J, rfl, rfl, hyn, rfl, hrz, rfl, by omega, hm0, j1⟩
      case round =>
        obtain ⟨q, y', r', x, rfl, hy', hyn', rfl, hr, rfl, hP, hqm', hx63⟩ := hrel
        have HP := Lib.hid hP
        have HY' := Lib.hid hy'
        have hnx : iter F (q + 1) y = (F y').nx := by rw [iter_succ, hy', if_neg (by omega), Int.toNat_natCast]
        obtain ⟨_, _, _, c2⟩ := HTV.out.cells y' hyn'
        have yi' : 0 ≤ (y' : Int) ∧ (y' : Int) < n := by omega
        clear hy'
        by_cases hx : z ≤ r' + x
        · have hx2 : (z : Int) - r' ≤ x := by omega
          have hqz : (q + 1) * z = q * z + z := by rw [Nat.add_mul, Nat.one_mul]
          by_cases hq1 : q + 1 < m
          · obtain ⟨y2, hy2⟩ : ∃ y2 : Nat, iter F (q + 1) y = y2 := ⟨(iter F (q + 1) y).toNat, by have := HFV.out.nonneg hyn (HLEN.out.2 _ hq1); omega⟩
            have hyn2 : y2 < n := by have := HFV.out.nonneg hyn (HLEN.out.2 _ hq1); omega
            rw [← hnx, hy2] at c2
            have hneg2 : ((y2 : Int) == -1) = false := by simp
            have HY2 := Lib.hid hy2
            have HP2 : Hid ((q + 1) * z + 0 + (x - (z - r')) = r + J) := by
              show (q + 1) * z + 0 + (x - (z - r')) = r + J
              have := HP.out
              omega
            clear hnx hy2 hP hqz
            go_wp2
            refine ⟨⟨q + 1, y2, 0, x - (z - r'), rfl, HY2.out, hyn2, rfl, z0, ?_, HP2.out, hq1, by omega⟩, by simp [intOf]; omega⟩
            exact congrArg (Value.int IntKind.i64) (by omega)
          · have hend : iter F (q + 1) y = -1 := by rw [show q + 1 = m by omega]; exact HLEN.out.1
            rw [← hnx, hend] at c2
            obtain ⟨e1, e2⟩ := stp_end (x := J) HV.out HAD.out HPA.out HNO.out HM.out (by
              have h1 : (q + 1) * z = m * 2 ^ K := by rw [show q + 1 = m by omega, HZ.out]
              omega)
            rw [e1, e2]
            clear hend hnx hqz hP
            go_wp2
            go_ret2
            exact ⟨rfl, HBV.out⟩
        · have hx2 : ¬ (z : Int) - r' ≤ x := by omega
          have hqz : (q + 1) * z ≤ m * 2 ^ K := by rw [← HZ.out]; exact Nat.mul_le_mul_right z (by omega)
          have hqz2 : (q + 1) * z = q * z + z := by rw [Nat.add_mul, Nat.one_mul]
          obtain ⟨e1, e2⟩ := stp_ok (x := J) HV.out HAD.out HPA.out HNO.out HM.out (by omega)
          have hres : addrP F K y (r + J) = (y' : Int) * 2 ^ K + ((r' + x : Nat) : Int) := addrP_at (q := q) (by rw [← HZ.out]; have := HP.out; omega) (by rw [← HZ.out]; omega) HY'.out
          rw [e1, e2]
          have HRES := Lib.hid hres
          have yz : 0 ≤ (y' : Int) * 2 ^ K ∧ (y' : Int) * 2 ^ K ≤ 16384 := prod_bd (by omega) (by omega)
          rw [ez] at yz
          clear hres hP hqz hqz2 hnx
          go_wp2
          go_ret2
          refine ⟨ret2 ?_ rfl, HBV.out⟩
          rw [HRES.out, ez]
          omega

set_option maxHeartbeats 1000000 in
theorem refStep5_any (s : Int) (A A' : Option Addr) (nw c n c' : Nat) (wd : Nat → Int) (F : Nat → Fr) (a j : Int) (w : World) (hA : Arr w w.heap.size A nw c wd) (hT : Tab w w.heap.size A' n c' F) (j0 : -9223372036854775808 ≤ j) (j1 : j ≤ 9223372036854775807) :
    Calls Try.prog 22 #[.agg #[.int .i64 s, .slice A nw c, .slice A' n c'], .int .i64 a, .int .i64 j] w (Gives2 (stpV s nw wd n F a j) (stpE s nw wd n F a j) w) := by
  obtain ⟨U, hU⟩ : ∃ U, U = w.alloc (.cells #[.int .i64 s, .slice A nw c, .slice A' n c'] 25) := ⟨_, rfl⟩
  have BX := Lib.hid (show Blk U w.heap.size 25 #[.int .i64 s, .slice A nw c, .slice A' n c'] by rw [hU]; exact Blk.new _ _ _)
  have hbu : Below w.heap.size w U := by rw [hU]; exact (Below.refl _ _).alloc (Nat.le_refl _) _
  have HBU := Lib.hid hbu
  have HU := Lib.hid hU
  have HA := Lib.hid (hA.next hbu)
  have HT := Lib.hid (hT.next hbu)
  clear hA hT hU hbu
  cases hv : validB s nw wd n F with
  | false =>
    obtain ⟨e1, e2⟩ := stp_bad (a := a) (k := j) hv
    rw [e1, e2]
    have HV := Lib.hid hv
    clear hv e1 e2
    go_enter Try.func22, Try.ntmps22
    go_wp2_with (go_at_call 28; rw [← HU.out]; refine (refValid_any s A A' nw c n c' wd F U HA.out HT.out).mono ?_; rintro e w1 ⟨rfl, hb1⟩; rw [HV.out]; have HB := Lib.hid (below_next HBU.out (Nat.le_refl _) hb1); clear hb1)
    go_ret2
    exact ⟨rfl, HB.out⟩
  | true =>
    have hvp := validB_of hv
    have HV := Lib.hid hv
    obtain ⟨s0, s1⟩ := shB_yes hvp.1
    obtain ⟨K, rfl⟩ := Int.eq_ofNat_of_zero_le (show 0 ≤ s by omega)
    have HVP := Lib.hid hvp
    clear hv hvp
    go_enter Try.func22, Try.ntmps22
    go_wp2_with (first
      | (go_at_call 28; rw [← HU.out]; refine (refValid_any K A A' nw c n c' wd F U HA.out HT.out).mono ?_; rintro e w1 ⟨rfl, hb1⟩; rw [HV.out]; have X := BX.out.next hb1; have x0 := X.cell 0; have x1 := X.cell 1; have x2 := X.cell 2; have xz := X.lt; simp at x0 x1 x2; have HB := Lib.hid (below_next HBU.out (Nat.le_refl _) hb1); have HT1 := Lib.hid (HT.out.next hb1); clear hb1 X)
      | (go_at_call 43; refine (refGo5_any K A A' nw c n c' wd F a j _ HT1.out HVP.out j0 j1).mono ?_; rintro e w2 ⟨rfl, hb2⟩))
    go_ret2
    exact ⟨rfl, below_next HB.out (Nat.le_refl _) hb2⟩
end Go.Proofs.Ytpbcpobbjoopnaa
