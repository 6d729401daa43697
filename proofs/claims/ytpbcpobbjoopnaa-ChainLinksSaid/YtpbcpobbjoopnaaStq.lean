/-
  Contract of Step of package chain.
-/
import Derived.Test.YtpbcpobbjoopnaaStp
namespace Go.Proofs.Ytpbcpobbjoopnaa
open Go.RowKit
set_option maxRecDepth 100000
set_option linter.unusedVariables false

section
variable {nw n K : Nat} {a : Int}
theorem of_in (h : adB nw a = true) (hw : nw = n * 2 ^ K) (hs : 3 ≤ K ∧ K ≤ 8) (hn : n ≤ 64) {y r : Nat} (hp : PartsA K a y r) : ofE K n a = 0 ∧ ofF K n a = y ∧ ofO K n a = r := by
  obtain ⟨h1, h2⟩ := adB_yes h
  have ez : (2 : Int) ^ K = ((2 ^ K : Nat) : Int) := by simp
  have hnb : numB K n = true := by simp [numB, shB]; omega
  have e1 : ofE K n a = 0 := by
    unfold ofE
    rw [if_neg (by rw [hnb]; decide), if_neg]
    rw [Int.toNat_natCast, ez, ← Int.natCast_mul, ← hw]
    omega
  refine ⟨e1, ?_, ?_⟩
  · unfold ofF; rw [e1, if_pos rfl, Int.toNat_natCast]; exact hp.1
  · unfold ofO; rw [e1, if_pos rfl, Int.toNat_natCast]; exact hp.2.1
theorem of_out (h : adB nw a = false) (hw : nw = n * 2 ^ K) (hs : 3 ≤ K ∧ K ≤ 8) (hn : n ≤ 64) : ofE K n a = 2 ∧ ofF K n a = 0 ∧ ofO K n a = 0 := by
  have hnb : numB K n = true := by simp [numB, shB]; omega
  have ez : (2 : Int) ^ K = ((2 ^ K : Nat) : Int) := by simp
  have e1 : ofE K n a = 2 := by
    unfold ofE
    rw [if_neg (by rw [hnb]; decide), if_pos]
    rw [Int.toNat_natCast, ez, ← Int.natCast_mul, ← hw]
    rcases Int.lt_or_le a 0 with h1 | h1
    · exact .inl h1
    · rcases Int.lt_or_le a nw with h2 | h2
      · rw [adB_of ⟨h1, h2⟩] at h; cases h
      · exact .inr h2
  exact ⟨e1, by unfold ofF; rw [e1]; rfl, by unfold ofO; rw [e1]; rfl⟩
end

set_option maxHeartbeats 4000000 in
theorem step5_any (s : Int) (A A' : Option Addr) (nw c n c' : Nat) (wd : Nat → Int) (F : Nat → Fr) (a j : Int) (w : World) (hA : Arr w w.heap.size A nw c wd) (hT : Tab w w.heap.size A' n c' F) (a0 : -9223372036854775808 ≤ a) (a1 : a ≤ 9223372036854775807) (j0 : -9223372036854775808 ≤ j) (j1 : j ≤ 9223372036854775807) :
    Calls Try.prog 21 #[.agg #[.int .i64 s, .slice A nw c, .slice A' n c'], .int .i64 a, .int .i64 j] w (Gives2 (stpV s nw wd n F a j) (stpE s nw wd n F a j) w) := by
  obtain ⟨U, hU⟩ : ∃ U, U = w.alloc (.cells #[.int .i64 s, .slice A nw c, .slice A' n c'] 25) := ⟨_, rfl⟩
  have BX := Lib.hid (show Blk U w.heap.size 25 #[.int .i64 s, .slice A nw c, .slice A' n c'] by rw [hU]; exact Blk.new _ _ _)
  have hbu : Below w.heap.size w U := by rw [hU]; exact (Below.refl _ _).alloc (Nat.le_refl _) _
  have HBU := Lib.hid hbu
  have HU := Lib.hid hU
  have HA := Lib.hid (hA.next hbu)
  have HT := Lib.hid (hT.next hbu)
  clear hA hT hU hbu
  cases hv : validB s nw wd n F with
  | false =>
    obtain ⟨e1, e2⟩ := stp_bad (a := a) (k := j) hv
    rw [e1, e2]
    have HV := Lib.hid hv
    clear hv e1 e2
    go_enter Try.func21, Try.ntmps21
    go_wp2_with (go_at_call 31; rw [← HU.out]; refine (valid_any s A A' nw c n c' wd F U HA.out HT.out).mono ?_; rintro e w1 ⟨rfl, hb1⟩; rw [HV.out]; have HB := Lib.hid (below_next HBU.out (Nat.le_refl _) hb1); clear hb1)
    go_ret2
    exact ⟨rfl, HB.out⟩
  | true =>
    have hvp := validB_of hv
    have HV := Lib.hid hv
    obtain ⟨s0, s1⟩ := shB_yes hvp.1
    obtain ⟨K, rfl⟩ := Int.eq_ofNat_of_zero_le (show 0 ≤ s by omega)
    obtain ⟨n0, n64⟩ := nfB_yes hvp.2.1
    have hw := hvp.2.2.1
    rw [Int.toNat_natCast] at hw
    have HFV := Lib.hid hvp.fv
    have HW := Lib.hid hw
    cases had : adB nw a with
    | false =>
      obtain ⟨e1, e2⟩ := stp_out (k := j) hv (.inl had)
      obtain ⟨f1, f2, f3⟩ := of_out had hw (by omega) (by omega)
      rw [e1, e2]
      clear hv e1 e2 hvp hw
      go_enter Try.func21, Try.ntmps21
      go_wp2_with (first
        | (go_at_call 31; rw [← HU.out]; refine (valid_any K A A' nw c n c' wd F U HA.out HT.out).mono ?_; rintro e w1 ⟨rfl, hb1⟩; rw [HV.out]; have X := BX.out.next hb1; have x0 := X.cell 0; have x1 := X.cell 1; have x2 := X.cell 2; have xz := X.lt; simp at x0 x1 x2; have HB := Lib.hid (below_next HBU.out (Nat.le_refl _) hb1); clear hb1 X)
        | (go_at_call 40; refine (of_any K _ A' n c' a _ a0 a1).mono ?_; rintro e w2 ⟨rfl, hb2⟩; rw [f1, f2, f3]))
      go_ret2
      exact ⟨rfl, below_next HB.out (Nat.le_refl _) hb2⟩
    | true =>
      obtain ⟨y, r, hpa, hyn⟩ := partsA had hw
      obtain ⟨f1, f2, f3⟩ := of_in had hw (by omega) (by omega) hpa
      by_cases hj : j < 0
      · obtain ⟨e1, e2⟩ := stp_out (a := a) (k := j) hv (.inr hj)
        rw [e1, e2]
        clear hv e1 e2 hvp hw had
        go_enter Try.func21, Try.ntmps21
        go_wp2_with (first
          | (go_at_call 31; rw [← HU.out]; refine (valid_any K A A' nw c n c' wd F U HA.out HT.out).mono ?_; rintro e w1 ⟨rfl, hb1⟩; rw [HV.out]; have X := BX.out.next hb1; have x0 := X.cell 0; have x1 := X.cell 1; have x2 := X.cell 2; have xz := X.lt; simp at x0 x1 x2; have HB := Lib.hid (below_next HBU.out (Nat.le_refl _) hb1); clear hb1 X)
          | (go_at_call 40; refine (of_any K _ A' n c' a _ a0 a1).mono ?_; rintro e w2 ⟨rfl, hb2⟩; rw [f1, f2, f3]))
        go_ret2
        exact ⟨rfl, below_next HB.out (Nat.le_refl _) hb2⟩
      · obtain ⟨J, rfl⟩ := Int.eq_ofNat_of_zero_le (show 0 ≤ j by omega)
        by_cases h0 : (F y).ow = -1
        · obtain ⟨e1, e2⟩ := stp_free (k := (J : Int)) hv had (by omega) hpa h0
          rw [e1, e2]
          have HD := Lib.hid (show decide ((F y).ow = -1) = true from decide_eq_true h0)
          clear hv e1 e2 hvp hw had hpa h0
          go_enter Try.func21, Try.ntmps21
          go_wp2_with (first
            | (go_at_call 31; rw [← HU.out]; refine (valid_any K A A' nw c n c' wd F U HA.out HT.out).mono ?_; rintro e w1 ⟨rfl, hb1⟩; rw [HV.out]; have X := BX.out.next hb1; have x0 := X.cell 0; have x1 := X.cell 1; have x2 := X.cell 2; have xz := X.lt; simp at x0 x1 x2; have HB := Lib.hid (below_next HBU.out (Nat.le_refl _) hb1); have HX := Lib.hid X; have HT1 := Lib.hid (HT.out.next hb1); clear hb1 X)
            | (go_at_call 40; refine (of_any K _ A' n c' a _ a0 a1).mono ?_; rintro e w2 ⟨rfl, hb2⟩; rw [f1, f2, f3]; have Y := HX.out.next hb2; have y0 := Y.cell 0; have y1 := Y.cell 1; have y2 := Y.cell 2; have yz := Y.lt; simp at y0 y1 y2; have HB2 := Lib.hid (below_next HB.out (Nat.le_refl _) hb2); have HT2 := Lib.hid (HT1.out.next hb2); clear hb2 Y)
            | (go_at_call 36; refine (isFree5_any K _ A' n c' y F _ HT2.out hyn).mono ?_; rintro e w3 ⟨rfl, hb3⟩; rw [HD.out]))
          go_ret2
          exact ⟨rfl, below_next HB2.out (Nat.le_refl _) hb3⟩
        · have HD := Lib.hid (show decide ((F y).ow = -1) = false from decide_eq_false h0)
          obtain ⟨m, hmb, hlen⟩ := hvp.fv.len hyn
          have hm0 := hlen.pos
          have HLEN := Lib.hid hlen
          have HM := Lib.hid (chL_length (n := n) hlen hmb)
          obtain ⟨z, hz⟩ : ∃ z, z = 2 ^ K := ⟨_, rfl⟩
          have z0 : 0 < z := by rw [hz]; exact Nat.two_pow_pos K
          have z1 : z ≤ 256 := by
            have := pw_bd (k := K) (by omega)
            have e : ((2 ^ K : Nat) : Int) = (2 : Int) ^ K := by simp
            omega
          have ez : (2 : Int) ^ K = z := by rw [hz]; simp
          have hrz : r < z := by rw [hz]; exact hpa.2.2.1
          have HZ := Lib.hid hz
          have HEZ := Lib.hid ez
          have HAD := Lib.hid had
          have HPA := Lib.hid hpa
          have HNO := Lib.hid h0
          obtain ⟨b, oo, rfl, hbb⟩ := HT.out.base_ (by omega)
          clear hz ez hv hvp hw had hpa h0 hlen
          go_enter Try.func21, Try.ntmps21
          go_wp2_with (first
            | (go_at_call 31; rw [← HU.out]; refine (valid_any K A _ nw c n c' wd F U HA.out HT.out).mono ?_; rintro e w1 ⟨rfl, hb1⟩; rw [HV.out]; have X := BX.out.next hb1; have x0 := X.cell 0; have x1 := X.cell 1; have x2 := X.cell 2; have xz := X.lt; simp at x0 x1 x2; have HB := Lib.hid (below_next HBU.out (Nat.le_refl _) hb1); have HX := Lib.hid X; have HT1 := Lib.hid (HT.out.next hb1); clear hb1 X)
            | (go_at_call 40; refine (of_any K _ _ n c' a _ a0 a1).mono ?_; rintro e w2 ⟨rfl, hb2⟩; rw [f1, f2, f3]; have Y := HX.out.next hb2; have y0 := Y.cell 0; have y1 := Y.cell 1; have y2 := Y.cell 2; have yz := Y.lt; simp at y0 y1 y2; have HB2 := Lib.hid (below_next HB.out (Nat.le_refl _) hb2); have HT2 := Lib.hid (HT1.out.next hb2); have HY := Lib.hid Y; clear hb2 Y)
            | (go_at_call 36; refine (isFree5_any K _ _ n c' y F _ HT2.out hyn).mono ?_; rintro e w3 ⟨rfl, hb3⟩; rw [HD.out]; have Z := HY.out.next hb3; have z0' := Z.cell 0; have z1' := Z.cell 1; have z2' := Z.cell 2; have zz := Z.lt; simp at z0' z1' z2'; have HB3 := Lib.hid (below_next HB2.out (Nat.le_refl _) hb3); have HT3 := Lib.hid (HT2.out.next hb3); have HZ3 := Lib.hid Z; clear hb3 Z)
            | (go_at_call 41; refine (size_yes K _ _ _ (by omega) (by omega)).mono ?_; rintro e w4 ⟨rfl, hb4⟩; rw [HEZ.out]; have Q := HZ3.out.next hb4; have q0 := Q.cell 0; have q1 := Q.cell 1; have q2 := Q.cell 2; have qz := Q.lt; simp at q0 q1 q2; have HB4 := Lib.hid (below_next HB3.out (Nat.le_refl _) hb4); have HT4 := Lib.hid (HT3.out.next hb4); have HQ := Lib.hid Q; clear hb4 Q))
          go_loop [12, 13, 14, 15] (fun f ah _ _ => ∃ q qz : Nat, q ≤ m ∧ qz = q * z ∧ f = .int .i64 (iter F q y) ∧ ah = .int .i64 ((qz : Int) - r) ∧ qz ≤ r + J) (fun _ ah _ _ => ((m * z : Nat) - intOf ah).toNat)
          case atStart => exact ⟨0, 0, by omega, by omega, rfl, congrArg (Value.int IntKind.i64) (by omega), by omega⟩
          case round =>
            obtain ⟨q, qz, hq, hqz, rfl, rfl, hle⟩ := hrel
            have mz1 : m * z ≤ 65 * 256 := Nat.mul_le_mul (by omega) z1
            have mz2 : qz ≤ m * z := by rw [hqz]; exact Nat.mul_le_mul_right z hq
            by_cases hqm : q = m
            · have hend : iter F q y = -1 := by rw [hqm]; exact HLEN.out.1
              obtain ⟨e1, e2⟩ := stp_end (x := J) HV.out HAD.out HPA.out HNO.out HM.out (by rw [← HZ.out, ← hqm, ← hqz]; exact hle)
              rw [e1, e2]
              rw [hend]
              clear hqz hend
              go_wp2
              go_ret2
              exact ⟨rfl, HB4.out⟩
            · have hne : iter F q y ≠ -1 := HLEN.out.2 q (by omega)
              have hin := HFV.out.nonneg hyn hne
              obtain ⟨y', hy'⟩ : ∃ y' : Nat, iter F q y = y' := ⟨(iter F q y).toNat, by omega⟩
              have hyn' : y' < n := by omega
              have hnx : iter F (q + 1) y = (F y').nx := by rw [iter_succ, hy', if_neg (by omega), Int.toNat_natCast]
              have hqz1 : (q + 1) * z = qz + z := by rw [Nat.add_mul, Nat.one_mul, hqz]
              have mz3 : qz + z ≤ m * z := by rw [← hqz1]; exact Nat.mul_le_mul_right z (by omega)
              have yi' : 0 ≤ (y' : Int) ∧ (y' : Int) < n := by omega
              have hneg : ((y' : Int) == -1) = false := by simp
              rw [hy']
              by_cases hk : (J : Int) < (qz : Int) - r + z
              · obtain ⟨e1, e2⟩ := stp_ok (x := J) HV.out HAD.out HPA.out HNO.out HM.out (by rw [← HZ.out]; omega)
                have hres : addrP F K y (r + J) = (y' : Int) * 2 ^ K + ((r + J - qz : Nat) : Int) := addrP_at (q := q) (by rw [← HZ.out, ← hqz]; omega) (by rw [← HZ.out]; omega) hy'
                have hbE : baseE K n y' = 0 := by simp [baseE, numB, shB, inB]; omega
                have hbV : baseV K n y' = (y' : Int) * 2 ^ K := by simp [baseV, hbE]
                rw [e1, e2]
                have yz' : 0 ≤ (y' : Int) * 2 ^ K ∧ (y' : Int) * 2 ^ K ≤ 16384 := prod_bd (by omega) (by omega)
                have HRES := Lib.hid hres
                have HBV := Lib.hid hbV
                have HBE := Lib.hid hbE
                obtain ⟨Y, hY⟩ : ∃ Y, Y = (y' : Int) * 2 ^ K := ⟨_, rfl⟩
                rw [← hY] at HBV HRES yz'
                clear hres hbV hbE hqz hqz1 hy' hnx hne hin hY
                go_wp2_with (go_at_call 42; refine (base_any K _ _ n c' y' _).mono ?_; rintro e w5 ⟨rfl, hb5⟩; rw [HBV.out, HBE.out])
                go_ret2
                refine ⟨ret2 ?_ rfl, below_next HB4.out (Nat.le_refl _) hb5⟩
                rw [HRES.out]
                omega
              · obtain ⟨_, _, _, c2⟩ := HT4.out.cells y' hyn'
                rw [← hnx] at c2
                have HNX := Lib.hid hnx
                have HQ1 := Lib.hid hqz1
                clear hqz hqz1 hy' hnx hne hin
                go_wp2
                exact ⟨⟨q + 1, qz + z, by omega, HQ1.out.symm, rfl, congrArg (Value.int IntKind.i64) (by omega), by omega⟩, by simp [intOf]; omega⟩
end Go.Proofs.Ytpbcpobbjoopnaa
