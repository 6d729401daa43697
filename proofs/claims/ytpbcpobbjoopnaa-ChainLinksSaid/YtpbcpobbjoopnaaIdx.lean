/-
  Contracts of Index of package chain and of the reference.
-/
import Derived.Test.YtpbcpobbjoopnaaStq
namespace Go.Proofs.Ytpbcpobbjoopnaa
open Go.RowKit
set_option maxRecDepth 100000
set_option linter.unusedVariables false

section
variable {s : Int} {nw : Nat} {wd : Nat → Int} {n : Nat} {F : Nat → Fr} {first a : Int}
theorem idx_bad (h : validB s nw wd n F = false) : idxE s nw wd n F first a = 1 ∧ idxV s nw wd n F first a = 0 := by
  have h1 : idxE s nw wd n F first a = 1 := by unfold idxE; rw [if_pos h]
  exact ⟨h1, by unfold idxV; rw [h1]; rfl⟩
theorem idx_out (h : validB s nw wd n F = true) (h2 : inB n first = false ∨ adB nw a = false) : idxE s nw wd n F first a = 2 ∧ idxV s nw wd n F first a = 0 := by
  have h1 : idxE s nw wd n F first a = 2 := by unfold idxE; rw [if_neg (by simp [h]), if_pos h2]
  exact ⟨h1, by unfold idxV; rw [h1]; rfl⟩
theorem idx_free {f : Nat} (h : validB s nw wd n F = true) (hf : f < n) (h2 : adB nw a = true) (h3 : (F f).ow = -1) : idxE s nw wd n F f a = 5 ∧ idxV s nw wd n F f a = 0 := by
  have h1 : idxE s nw wd n F f a = 5 := by unfold idxE; rw [if_neg (by simp [h]), if_neg (by simp [h2, inB]; omega), Int.toNat_natCast, if_pos h3]
  exact ⟨h1, by unfold idxV; rw [h1]; rfl⟩
theorem idx_none {K f m y r : Nat} (h : validB K nw wd n F = true) (hv : FV F n) (hf : f < n) (h2 : adB nw a = true) (hp : PartsA K a y r) (h3 : (F f).ow ≠ -1) (hl : LenP F f m) (hno : ∀ i, i < m → iter F i f ≠ (y : Int)) : idxE K nw wd n F f a = 2 ∧ idxV K nw wd n F f a = 0 := by
  have h1 : idxE K nw wd n F f a = 2 := by
    unfold idxE
    rw [if_neg (by simp [h]), if_neg (by simp [h2, inB]; omega), Int.toNat_natCast, if_neg h3, Int.toNat_natCast, hp.1, Int.toNat_natCast, if_neg]
    rw [mem_chL' hv hf hl]
    rintro ⟨i, hi, he⟩
    exact hno i hi he
  exact ⟨h1, by unfold idxV; rw [h1]; rfl⟩
theorem idx_ok {K f m y r q : Nat} (h : validB K nw wd n F = true) (hv : FV F n) (hf : f < n) (h2 : adB nw a = true) (hp : PartsA K a y r) (h3 : (F f).ow ≠ -1) (hl : LenP F f m) (hq : q < m) (he : iter F q f = (y : Int)) (hno : ∀ i, i < q → iter F i f ≠ (y : Int)) :
    idxE K nw wd n F f a = 0 ∧ idxV K nw wd n F f a = ((q * 2 ^ K : Nat) : Int) + r := by
  have ez : (2 : Int) ^ K = ((2 ^ K : Nat) : Int) := by simp
  have h1 : idxE K nw wd n F f a = 0 := by
    unfold idxE
    rw [if_neg (by simp [h]), if_neg (by simp [h2, inB]; omega), Int.toNat_natCast, if_neg h3, Int.toNat_natCast, hp.1, Int.toNat_natCast, if_pos]
    rw [mem_chL' hv hf hl]
    exact ⟨q, hq, he⟩
  refine ⟨h1, ?_⟩
  unfold idxV
  rw [h1, if_pos rfl, Int.toNat_natCast, Int.toNat_natCast, hp.1, Int.toNat_natCast, chL_index hv hf hl hq he hno, hp.2.1, ez, ← Int.natCast_mul]
end

set_option maxHeartbeats 4000000 in
theorem index5_any (s : Int) (A A' : Option Addr) (nw c n c' : Nat) (wd : Nat → Int) (F : Nat → Fr) (first a : Int) (w : World) (hA : Arr w w.heap.size A nw c wd) (hT : Tab w w.heap.size A' n c' F) (a0 : -9223372036854775808 ≤ a) (a1 : a ≤ 9223372036854775807) :
    Calls Try.prog 23 #[.agg #[.int .i64 s, .slice A nw c, .slice A' n c'], .int .i64 first, .int .i64 a] w (Gives2 (idxV s nw wd n F first a) (idxE s nw wd n F first a) w) := by
  obtain ⟨U, hU⟩ : ∃ U, U = w.alloc (.cells #[.int .i64 s, .slice A nw c, .slice A' n c'] 25) := ⟨_, rfl⟩
  have BX := Lib.hid (show Blk U w.heap.size 25 #[.int .i64 s, .slice A nw c, .slice A' n c'] by rw [hU]; exact Blk.new _ _ _)
  have hbu : Below w.heap.size w U := by rw [hU]; exact (Below.refl _ _).alloc (Nat.le_refl _) _
  have HBU := Lib.hid hbu
  have HU := Lib.hid hU
  have HA := Lib.hid (hA.next hbu)
  have HT := Lib.hid (hT.next hbu)
  clear hA hT hU hbu
  cases hv : validB s nw wd n F with
  | false =>
    obtain ⟨e1, e2⟩ := idx_bad (a := a) (first := first) hv
    rw [e1, e2]
    have HV := Lib.hid hv
    clear hv e1 e2
    go_enter Try.func23, Try.ntmps23
    go_wp2_with (go_at_call 31; rw [← HU.out]; refine (valid_any s A A' nw c n c' wd F U HA.out HT.out).mono ?_; rintro e w1 ⟨rfl, hb1⟩; rw [HV.out]; have HB := Lib.hid (below_next HBU.out (Nat.le_refl _) hb1); clear hb1)
    go_ret2
    exact ⟨rfl, HB.out⟩
  | true =>
    have hvp := validB_of hv
    have HV := Lib.hid hv
    obtain ⟨s0, s1⟩ := shB_yes hvp.1
    obtain ⟨K, rfl⟩ := Int.eq_ofNat_of_zero_le (show 0 ≤ s by omega)
    obtain ⟨n0, n64⟩ := nfB_yes hvp.2.1
    have hw := hvp.2.2.1
    rw [Int.toNat_natCast] at hw
    have HFV := Lib.hid hvp.fv
    have HW := Lib.hid hw
    cases had : adB nw a with
    | false =>
      obtain ⟨e1, e2⟩ := idx_out (first := first) hv (.inr had)
      obtain ⟨f1, f2, f3⟩ := of_out had hw (by omega) (by omega)
      rw [e1, e2]
      clear hv e1 e2 hvp hw
      go_enter Try.func23, Try.ntmps23
      go_wp2_with (first
        | (go_at_call 31; rw [← HU.out]; refine (valid_any K A A' nw c n c' wd F U HA.out HT.out).mono ?_; rintro e w1 ⟨rfl, hb1⟩; rw [HV.out]; have X := BX.out.next hb1; have x0 := X.cell 0; have x1 := X.cell 1; have x2 := X.cell 2; have xz := X.lt; simp at x0 x1 x2; have HB := Lib.hid (below_next HBU.out (Nat.le_refl _) hb1); clear hb1 X)
        | (go_at_call 40; refine (of_any K _ A' n c' a _ a0 a1).mono ?_; rintro e w2 ⟨rfl, hb2⟩; rw [f1, f2, f3]))
      go_ret2
      exact ⟨rfl, below_next HB.out (Nat.le_refl _) hb2⟩
    | true =>
      obtain ⟨y, r, hpa, hyn⟩ := partsA had hw
      obtain ⟨f1, f2, f3⟩ := of_in had hw (by omega) (by omega) hpa
      cases hi : inB n first with
      | false =>
        obtain ⟨e1, e2⟩ := idx_out (a := a) hv (.inl hi)
        rw [e1, e2]
        have HI := Lib.hid hi
        clear hv e1 e2 hvp hw had hi
        go_enter Try.func23, Try.ntmps23
        go_wp2_with (first
          | (go_at_call 31; rw [← HU.out]; refine (valid_any K A A' nw c n c' wd F U HA.out HT.out).mono ?_; rintro e w1 ⟨rfl, hb1⟩; rw [HV.out]; have X := BX.out.next hb1; have x0 := X.cell 0; have x1 := X.cell 1; have x2 := X.cell 2; have xz := X.lt; simp at x0 x1 x2; have HB := Lib.hid (below_next HBU.out (Nat.le_refl _) hb1); have HX := Lib.hid X; clear hb1 X)
          | (go_at_call 40; refine (of_any K _ A' n c' a _ a0 a1).mono ?_; rintro e w2 ⟨rfl, hb2⟩; rw [f1, f2, f3]; have Y := HX.out.next hb2; have y0 := Y.cell 0; have y1 := Y.cell 1; have y2 := Y.cell 2; have yz := Y.lt; simp at y0 y1 y2; have HB2 := Lib.hid (below_next HB.out (Nat.le_refl _) hb2); clear hb2 Y)
          | (go_at_call 32; refine (isFrame5_any K _ A' n c' first _).mono ?_; rintro e w3 ⟨rfl, hb3⟩; rw [HI.out]))
        go_ret2
        exact ⟨rfl, below_next HB2.out (Nat.le_refl _) hb3⟩
      | true =>
        have HI := Lib.hid hi
        obtain ⟨f, rfl, hf⟩ := inB_nat hi
        by_cases h0 : (F f).ow = -1
        · obtain ⟨e1, e2⟩ := idx_free hv hf had h0
          rw [e1, e2]
          have HD := Lib.hid (show decide ((F f).ow = -1) = true from decide_eq_true h0)
          clear hv e1 e2 hvp hw had hpa h0 hi
          go_enter Try.func23, Try.ntmps23
          go_wp2_with (first
            | (go_at_call 31; rw [← HU.out]; refine (valid_any K A A' nw c n c' wd F U HA.out HT.out).mono ?_; rintro e w1 ⟨rfl, hb1⟩; rw [HV.out]; have X := BX.out.next hb1; have x0 := X.cell 0; have x1 := X.cell 1; have x2 := X.cell 2; have xz := X.lt; simp at x0 x1 x2; have HB := Lib.hid (below_next HBU.out (Nat.le_refl _) hb1); have HX := Lib.hid X; have HT1 := Lib.hid (HT.out.next hb1); clear hb1 X)
            | (go_at_call 40; refine (of_any K _ A' n c' a _ a0 a1).mono ?_; rintro e w2 ⟨rfl, hb2⟩; rw [f1, f2, f3]; have Y := HX.out.next hb2; have y0 := Y.cell 0; have y1 := Y.cell 1; have y2 := Y.cell 2; have yz := Y.lt; simp at y0 y1 y2; have HB2 := Lib.hid (below_next HB.out (Nat.le_refl _) hb2); have HT2 := Lib.hid (HT1.out.next hb2); have HY := Lib.hid Y; clear hb2 Y)
            | (go_at_call 32; refine (isFrame5_any K _ A' n c' f _).mono ?_; rintro e w3 ⟨rfl, hb3⟩; rw [HI.out]; have Z := HY.out.next hb3; have z0' := Z.cell 0; have z1' := Z.cell 1; have z2' := Z.cell 2; have zz := Z.lt; simp at z0' z1' z2'; have HB3 := Lib.hid (below_next HB2.out (Nat.le_refl _) hb3); have HT3 := Lib.hid (HT2.out.next hb3); clear hb3 Z)
            | (go_at_call 36; refine (isFree5_any K _ A' n c' f F _ HT3.out hf).mono ?_; rintro e w4 ⟨rfl, hb4⟩; rw [HD.out]))
          go_ret2
          exact ⟨rfl, below_next HB3.out (Nat.le_refl _) hb4⟩
        · have HD := Lib.hid (show decide ((F f).ow = -1) = false from decide_eq_false h0)
          obtain ⟨m, hmb, hlen⟩ := hvp.fv.len hf
          have hm0 := hlen.pos
          have HLEN := Lib.hid hlen
          obtain ⟨z, hz⟩ : ∃ z, z = 2 ^ K := ⟨_, rfl⟩
          have z0 : 0 < z := by rw [hz]; exact Nat.two_pow_pos K
          have z1 : z ≤ 256 := by
            have := pw_bd (k := K) (by omega)
            have e : ((2 ^ K : Nat) : Int) = (2 : Int) ^ K := by simp
            omega
          have ez : (2 : Int) ^ K = z := by rw [hz]; simp
          have hrz : r < z := by rw [hz]; exact hpa.2.2.1
          have HZ := Lib.hid hz
          have HEZ := Lib.hid ez
          have HAD := Lib.hid had
          have HPA := Lib.hid hpa
          have HNO := Lib.hid h0
          obtain ⟨b, oo, rfl, hbb⟩ := HT.out.base_ (by omega)
          clear hz ez hv hvp hw had hpa h0 hlen hi
          go_enter Try.func23, Try.ntmps23
          go_wp2_with (first
            | (go_at_call 31; rw [← HU.out]; refine (valid_any K A _ nw c n c' wd F U HA.out HT.out).mono ?_; rintro e w1 ⟨rfl, hb1⟩; rw [HV.out]; have X := BX.out.next hb1; have x0 := X.cell 0; have x1 := X.cell 1; have x2 := X.cell 2; have xz := X.lt; simp at x0 x1 x2; have HB := Lib.hid (below_next HBU.out (Nat.le_refl _) hb1); have HX := Lib.hid X; have HT1 := Lib.hid (HT.out.next hb1); clear hb1 X)
            | (go_at_call 40; refine (of_any K _ _ n c' a _ a0 a1).mono ?_; rintro e w2 ⟨rfl, hb2⟩; rw [f1, f2, f3]; have Y := HX.out.next hb2; have y0 := Y.cell 0; have y1 := Y.cell 1; have y2 := Y.cell 2; have yz := Y.lt; simp at y0 y1 y2; have HB2 := Lib.hid (below_next HB.out (Nat.le_refl _) hb2); have HT2 := Lib.hid (HT1.out.next hb2); have HY := Lib.hid Y; clear hb2 Y)
            | (go_at_call 32; refine (isFrame5_any K _ _ n c' f _).mono ?_; rintro e w3 ⟨rfl, hb3⟩; rw [HI.out]; have Z := HY.out.next hb3; have z0' := Z.cell 0; have z1' := Z.cell 1; have z2' := Z.cell 2; have zz := Z.lt; simp at z0' z1' z2'; have HB3 := Lib.hid (below_next HB2.out (Nat.le_refl _) hb3); have HT3 := Lib.hid (HT2.out.next hb3); have HZ3 := Lib.hid Z; clear hb3 Z)
            | (go_at_call 36; refine (isFree5_any K _ _ n c' f F _ HT3.out hf).mono ?_; rintro e w4 ⟨rfl, hb4⟩; rw [HD.out]; have Q := HZ3.out.next hb4; have q0 := Q.cell 0; have q1 := Q.cell 1; have q2 := Q.cell 2; have qz := Q.lt; simp at q0 q1 q2; have HB4 := Lib.hid (below_next HB3.out (Nat.le_refl _) hb4); have HT4 := Lib.hid (HT3.out.next hb4); have HQ := Lib.hid Q; clear hb4 Q)
            | (go_at_call 41; refine (size_yes K _ _ _ (by omega) (by omega)).mono ?_; rintro e w5 ⟨rfl, hb5⟩; rw [HEZ.out]; have P := HQ.out.next hb5; have t0 := P.cell 0; have t1 := P.cell 1; have t2 := P.cell 2; have tz := P.lt; simp at t0 t1 t2; have HB5 := Lib.hid (below_next HB4.out (Nat.le_refl _) hb5); have HT5 := Lib.hid (HT4.out.next hb5); clear hb5 P))
          go_loop [12, 13] (fun f' ah => ∃ q qz : Nat, q ≤ m ∧ qz = q * z ∧ f' = .int .i64 (iter F q f) ∧ ah = .int .i64 (qz : Int) ∧ ∀ i, i < q → iter F i f ≠ (y : Int)) (fun _ ah => ((m * z : Nat) - intOf ah).toNat)
          case atStart => exact ⟨0, 0, by omega, by omega, rfl, rfl, fun i hi => absurd hi (by omega)⟩
          case round =>
            obtain ⟨q, qz, hq, hqz, rfl, rfl, hno⟩ := hrel
            have mz1 : m * z ≤ 65 * 256 := Nat.mul_le_mul (by omega) z1
            have mz2 : qz ≤ m * z := by rw [hqz]; exact Nat.mul_le_mul_right z hq
            have HNY := Lib.hid hno
            clear hno
            by_cases hqm : q = m
            · have hend : iter F q f = -1 := by rw [hqm]; exact HLEN.out.1
              obtain ⟨e1, e2⟩ := idx_none HV.out HFV.out hf HAD.out HPA.out HNO.out HLEN.out (fun i hi => HNY.out i (by omega))
              rw [e1, e2]
              rw [hend]
              clear hqz hend
              go_wp2
              go_ret2
              exact ⟨rfl, HB5.out⟩
            · have hne : iter F q f ≠ -1 := HLEN.out.2 q (by omega)
              have hin := HFV.out.nonneg hf hne
              obtain ⟨y', hy'⟩ : ∃ y' : Nat, iter F q f = y' := ⟨(iter F q f).toNat, by omega⟩
              have hyn' : y' < n := by omega
              have hnx : iter F (q + 1) f = (F y').nx := by rw [iter_succ, hy', if_neg (by omega), Int.toNat_natCast]
              have hqz1 : (q + 1) * z = qz + z := by rw [Nat.add_mul, Nat.one_mul, hqz]
              have mz3 : qz + z ≤ m * z := by rw [← hqz1]; exact Nat.mul_le_mul_right z (by omega)
              have yi' : 0 ≤ (y' : Int) ∧ (y' : Int) < n := by omega
              have hneg : ((y' : Int) == -1) = false := by simp
              rw [hy']
              by_cases hk : y' = y
              · subst hk
                obtain ⟨e1, e2⟩ := idx_ok HV.out HFV.out hf HAD.out HPA.out HNO.out HLEN.out (show q < m by omega) hy' HNY.out
                rw [← HZ.out, ← hqz] at e2
                rw [e1, e2]
                clear hqz hqz1 hy' hnx hne hin
                go_wp2
                go_ret2
                exact ⟨rfl, HB5.out⟩
              · have hq2 : ((y' : Int) == (y : Int)) = false := by simp; omega
                obtain ⟨_, _, _, c2⟩ := HT5.out.cells y' hyn'
                rw [← hnx] at c2
                have HNX := Lib.hid hnx
                have HQ1 := Lib.hid hqz1
                have HNN := Lib.hid (show ∀ i, i < q + 1 → iter F i f ≠ (y : Int) from fun i hi => by
                  rcases (show i < q ∨ i = q by omega) with h | rfl
                  · exact HNY.out i h
                  · rw [hy']; omega)
                clear hqz hqz1 hy' hnx hne hin hk
                go_wp2
                exact ⟨⟨q + 1, qz + z, by omega, HQ1.out.symm, rfl, congrArg (Value.int IntKind.i64) (by omega), HNN.out⟩, by simp [intOf]; omega⟩

set_option maxHeartbeats 4000000 in
theorem refIndex5_any (s : Int) (A A' : Option Addr) (nw c n c' : Nat) (wd : Nat → Int) (F : Nat → Fr) (first a : Int) (w : World) (hA : Arr w w.heap.size A nw c wd) (hT : Tab w w.heap.size A' n c' F) (a0 : -9223372036854775808 ≤ a) (a1 : a ≤ 9223372036854775807) :
    Calls Try.prog 24 #[.agg #[.int .i64 s, .slice A nw c, .slice A' n c'], .int .i64 first, .int .i64 a] w (Gives2 (idxV s nw wd n F first a) (idxE s nw wd n F first a) w) := by
  obtain ⟨U, hU⟩ : ∃ U, U = w.alloc (.cells #[.int .i64 s, .slice A nw c, .slice A' n c'] 25) := ⟨_, rfl⟩
  have BX := Lib.hid (show Blk U w.heap.size 25 #[.int .i64 s, .slice A nw c, .slice A' n c'] by rw [hU]; exact Blk.new _ _ _)
  have hbu : Below w.heap.size w U := by rw [hU]; exact (Below.refl _ _).alloc (Nat.le_refl _) _
  have HBU := Lib.hid hbu
  have HU := Lib.hid hU
  have HA := Lib.hid (hA.next hbu)
  have HT := Lib.hid (hT.next hbu)
  clear hA hT hU hbu
  cases hv : validB s nw wd n F with
  | false =>
    obtain ⟨e1, e2⟩ := idx_bad (a := a) (first := first) hv
    rw [e1, e2]
    have HV := Lib.hid hv
    clear hv e1 e2
    go_enter Try.func24, Try.ntmps24
    go_wp2_with (go_at_call 28; rw [← HU.out]; refine (refValid_any s A A' nw c n c' wd F U HA.out HT.out).mono ?_; rintro e w1 ⟨rfl, hb1⟩; rw [HV.out]; have HB := Lib.hid (below_next HBU.out (Nat.le_refl _) hb1); clear hb1)
    go_ret2
    exact ⟨rfl, HB.out⟩
  | true =>
    have hvp := validB_of hv
    have HV := Lib.hid hv
    obtain ⟨s0, s1⟩ := shB_yes hvp.1
    obtain ⟨K, rfl⟩ := Int.eq_ofNat_of_zero_le (show 0 ≤ s by omega)
    obtain ⟨n0, n64⟩ := nfB_yes hvp.2.1
    have hw := hvp.2.2.1
    rw [Int.toNat_natCast] at hw
    have HFV := Lib.hid hvp.fv
    have HW := Lib.hid hw
    have hnw := prod_le (n := n) (k := K) (by omega) (by omega)
    rw [← hw] at hnw
    cases hi : inB n first with
    | false =>
      obtain ⟨e1, e2⟩ := idx_out (a := a) hv (.inl hi)
      rw [e1, e2]
      have HI := Lib.hid hi
      clear hv e1 e2 hvp hw hi
      go_enter Try.func24, Try.ntmps24
      go_wp2_with (first
        | (go_at_call 28; rw [← HU.out]; refine (refValid_any K A A' nw c n c' wd F U HA.out HT.out).mono ?_; rintro e w1 ⟨rfl, hb1⟩; rw [HV.out]; have X := BX.out.next hb1; have x0 := X.cell 0; have x1 := X.cell 1; have x2 := X.cell 2; have xz := X.lt; simp at x0 x1 x2; have HB := Lib.hid (below_next HBU.out (Nat.le_refl _) hb1); clear hb1 X)
        | (go_at_call 35; refine (outside_any K _ A' n c' first _).mono ?_; rintro e w2 ⟨rfl, hb2⟩; rw [HI.out]))
      go_ret2
      exact ⟨rfl, below_next HB.out (Nat.le_refl _) hb2⟩
    | true =>
      have HI := Lib.hid hi
      obtain ⟨f, rfl, hf⟩ := inB_nat hi
      cases had : adB nw a with
      | false =>
        obtain ⟨e1, e2⟩ := idx_out (first := (f : Int)) hv (.inr had)
        rw [e1, e2]
        by_cases h0 : a < 0
        · clear hv e1 e2 hvp hw hi had
          go_enter Try.func24, Try.ntmps24
          go_wp2_with (first
            | (go_at_call 28; rw [← HU.out]; refine (refValid_any K A A' nw c n c' wd F U HA.out HT.out).mono ?_; rintro e w1 ⟨rfl, hb1⟩; rw [HV.out]; have X := BX.out.next hb1; have x0 := X.cell 0; have x1 := X.cell 1; have x2 := X.cell 2; have xz := X.lt; simp at x0 x1 x2; have HB := Lib.hid (below_next HBU.out (Nat.le_refl _) hb1); clear hb1 X)
            | (go_at_call 35; refine (outside_any K _ A' n c' f _).mono ?_; rintro e w2 ⟨rfl, hb2⟩; rw [HI.out]))
          go_ret2
          exact ⟨rfl, below_next HB.out (Nat.le_refl _) hb2⟩
        · have h2 : (nw : Int) ≤ a := by
            rcases Int.lt_or_le a nw with h | h
            · rw [adB_of ⟨by omega, h⟩] at had; cases had
            · exact h
          clear hv e1 e2 hvp hw hi had
          go_enter Try.func24, Try.ntmps24
          go_wp2_with (first
            | (go_at_call 28; rw [← HU.out]; refine (refValid_any K A A' nw c n c' wd F U HA.out HT.out).mono ?_; rintro e w1 ⟨rfl, hb1⟩; rw [HV.out]; have X := BX.out.next hb1; have x0 := X.cell 0; have x1 := X.cell 1; have x2 := X.cell 2; have xz := X.lt; simp at x0 x1 x2; have HB := Lib.hid (below_next HBU.out (Nat.le_refl _) hb1); have HX := Lib.hid X; clear hb1 X)
            | (go_at_call 35; refine (outside_any K _ A' n c' f _).mono ?_; rintro e w2 ⟨rfl, hb2⟩; rw [HI.out]; have Y := HX.out.next hb2; have y0 := Y.cell 0; have y1 := Y.cell 1; have y2 := Y.cell 2; have yz := Y.lt; simp at y0 y1 y2; have HB2 := Lib.hid (below_next HB.out (Nat.le_refl _) hb2); clear hb2 Y))
          go_ret2
          exact ⟨rfl, HB2.out⟩
      | true =>
        obtain ⟨h0, h2⟩ := adB_yes had
        obtain ⟨y, r, hpa, hyn⟩ := partsA had hw
        obtain ⟨b, o, rfl, hbb⟩ := HT.out.base_ (by omega)
        obtain ⟨x, hx⟩ : ∃ x, x = (F f).ow := ⟨_, rfl⟩
        have HXF := Lib.hid hx
        have hf2 : 0 ≤ (f : Int) ∧ (f : Int) < n := by omega
        have hlow := and_low' a K h0 (by omega) (by omega)
        rw [hpa.2.1] at hlow
        have hdiv := hpa.1
        have pz : 0 < (2 : Int) ^ K := pw_pos K
        have pz2 : (2 : Int) ^ K ≤ 256 := pw_bd (by omega)
        by_cases ho : x = -1
        · obtain ⟨e1, e2⟩ := idx_free hv hf had (hx ▸ ho)
          rw [e1, e2]
          have hq : (x == -1) = true := by simpa using ho
          clear hv e1 e2 hi hvp ho hx hw had hpa hlow hdiv
          go_enter Try.func24, Try.ntmps24
          go_wp2_with (first
            | (go_at_call 28; rw [← HU.out]; refine (refValid_any K A (some ⟨b, o, none⟩) nw c n c' wd F U HA.out HT.out).mono ?_; rintro e w1 ⟨rfl, hb1⟩; rw [HV.out]; have X := BX.out.next hb1; have x0 := X.cell 0; have x1 := X.cell 1; have x2 := X.cell 2; have xz := X.lt; simp at x0 x1 x2; have HB := Lib.hid (below_next HBU.out (Nat.le_refl _) hb1); have HX := Lib.hid X; have HT1 := Lib.hid (HT.out.next hb1); clear hb1 X)
            | (go_at_call 35; refine (outside_any K _ (some ⟨b, o, none⟩) n c' f _).mono ?_; rintro e w2 ⟨rfl, hb2⟩; rw [HI.out]; have Y := HX.out.next hb2; have y0 := Y.cell 0; have y1 := Y.cell 1; have y2 := Y.cell 2; have yz := Y.lt; simp at y0 y1 y2; have HB2 := Lib.hid (below_next HB.out (Nat.le_refl _) hb2); obtain ⟨_, d0, _, _⟩ := (HT1.out.next hb2).cells f hf; rw [← HXF.out] at d0; clear hb2 Y))
          go_ret2
          exact ⟨rfl, HB2.out⟩
        · have hq : (x == -1) = false := by simpa using ho
          have HNO := Lib.hid (show (F f).ow ≠ -1 from HXF.out ▸ ho)
          obtain ⟨m, hmb, hlen⟩ := hvp.fv.len hf
          have hm0 := hlen.pos
          have HLEN := Lib.hid hlen
          have HCM := Lib.hid (chL_length (n := n) hlen hmb)
          obtain ⟨z, hz⟩ : ∃ z, z = 2 ^ K := ⟨_, rfl⟩
          have ez : ((z : Nat) : Int) = (2 : Int) ^ K := by rw [hz]; simp
          have hrz : r < z := by rw [hz]; exact hpa.2.2.1
          have HZ := Lib.hid hz
          have HEZ := Lib.hid ez
          have HAD := Lib.hid had
          have HPA := Lib.hid hpa
          have z1 : z ≤ 256 := by omega
          clear hz ez hv hvp hw had hpa ho hlen hi hx
          go_enter Try.func24, Try.ntmps24
          go_wp2_with (first
            | (go_at_call 28; rw [← HU.out]; refine (refValid_any K A (some ⟨b, o, none⟩) nw c n c' wd F U HA.out HT.out).mono ?_; rintro e w1 ⟨rfl, hb1⟩; rw [HV.out]; have X := BX.out.next hb1; have x0 := X.cell 0; have x1 := X.cell 1; have x2 := X.cell 2; have xz := X.lt; simp at x0 x1 x2; have HB := Lib.hid (below_next HBU.out (Nat.le_refl _) hb1); have HX := Lib.hid X; have HT1 := Lib.hid (HT.out.next hb1); clear hb1 X)
            | (go_at_call 35; refine (outside_any K _ (some ⟨b, o, none⟩) n c' f _).mono ?_; rintro e w2 ⟨rfl, hb2⟩; rw [HI.out]; have Y := HX.out.next hb2; have y0 := Y.cell 0; have y1 := Y.cell 1; have y2 := Y.cell 2; have yz := Y.lt; simp at y0 y1 y2; have HB2 := Lib.hid (below_next HB.out (Nat.le_refl _) hb2); have HT2 := Lib.hid (HT1.out.next hb2); obtain ⟨_, d0, _, _⟩ := HT2.out.cells f hf; rw [← HXF.out] at d0; have HY := Lib.hid Y; clear hb2 Y)
            | (go_at_call 38; refine (refChain_any K _ (some ⟨b, o, none⟩) n c' f F _ HT2.out (by omega) HFV.out hf).mono ?_; rintro e w4 ⟨A4, c4, rfl, hn4, hb4⟩; rw [HCM.out] at hn4 ⊢; have P := HY.out.next hb4; have t0 := P.cell 0; have t1 := P.cell 1; have t2 := P.cell 2; have tz := P.lt; simp at t0 t1 t2; have HB4 := Lib.hid (below_next HB2.out (Nat.le_refl _) hb4); have HN4 := Lib.hid hn4; clear hb4 P hn4))
          go_loop [8, 10, 42] (fun nn _ i => ∃ q qz : Nat, q ≤ m ∧ qz = q * z ∧ i = .int .i64 (q : Int) ∧ nn = .int .i64 (qz : Int) ∧ ∀ i, i < q → iter F i f ≠ (y : Int)) (fun _ _ i => m - (intOf i).toNat)
          case atStart => exact ⟨0, 0, by omega, by omega, rfl, rfl, fun i hi => absurd hi (by omega)⟩
          case round =>
            obtain ⟨q, qz, hq', hqz, rfl, rfl, hno⟩ := hrel
            have mz1 : m * z ≤ 65 * 256 := Nat.mul_le_mul (by omega) z1
            have mz2 : qz ≤ m * z := by rw [hqz]; exact Nat.mul_le_mul_right z hq'
            have HNY := Lib.hid hno
            clear hno
            by_cases hqm : q = m
            · obtain ⟨e1, e2⟩ := idx_none HV.out HFV.out hf HAD.out HPA.out HNO.out HLEN.out (fun i hi => HNY.out i (by omega))
              rw [e1, e2]
              have hlt : ¬ (q : Int) < m := by omega
              clear hqz
              go_wp2
              go_ret2
              exact ⟨rfl, HB4.out⟩
            · have hne : iter F q f ≠ -1 := HLEN.out.2 q (by omega)
              have hin := HFV.out.nonneg hf hne
              obtain ⟨y', hy'⟩ : ∃ y' : Nat, iter F q f = y' := ⟨(iter F q f).toNat, by omega⟩
              have hqz1 : (q + 1) * z = qz + z := by rw [Nat.add_mul, Nat.one_mul, hqz]
              have mz3 : qz + z ≤ m * z := by rw [← hqz1]; exact Nat.mul_le_mul_right z (by omega)
              have hlt : 0 ≤ (q : Int) ∧ (q : Int) < m := by omega
              obtain ⟨b4, o4, rfl, hb4, hc4⟩ := HN4.out.at_ q (by omega)
              rw [show numF (chL F n f) q = iter F q f from numF_chL HFV.out hf HLEN.out (by omega), hy'] at hc4
              by_cases hk : y' = y
              · subst hk
                obtain ⟨e1, e2⟩ := idx_ok HV.out HFV.out hf HAD.out HPA.out HNO.out HLEN.out (show q < m by omega) hy' HNY.out
                rw [← HZ.out, ← hqz] at e2
                rw [e1, e2]
                clear hqz hqz1 hy' hne hin
                go_wp2
                go_ret2
                exact ⟨rfl, HB4.out⟩
              · have hq2 : ((y' : Int) == (y : Int)) = false := by simp; omega
                have HQ1 := Lib.hid hqz1
                have HNN := Lib.hid (show ∀ i, i < q + 1 → iter F i f ≠ (y : Int) from fun i hi => by
                  rcases (show i < q ∨ i = q by omega) with h | rfl
                  · exact HNY.out i h
                  · rw [hy']; omega)
                clear hqz hqz1 hy' hne hin hk
                go_wp2
                exact ⟨⟨q + 1, qz + z, by omega, HQ1.out.symm, by go_num, congrArg (Value.int IntKind.i64) (by have := HEZ.out; omega), HNN.out⟩, by simp [intOf]; omega⟩
end Go.Proofs.Ytpbcpobbjoopnaa
